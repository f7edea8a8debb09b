/- slices.Delete: one pointer. -/
import Derived.Test.YthfmgdhhjnngaaaShDel
namespace Go.Proofs.Ythfmgdhhjnngaaa
open Go.RowKit Go.Lib Go.Shelf
open Bt

theorem step_append_runP {P : Program} {ops : Array Oper} {o : Oper} {a : Act} {w : World} {K : Act → World → Prop} {Q : Exit → Act → World → Prop} {E : Prop}
    (hg : o.guard = none) (d x : Operand) (dT sT : TypeId) (hop : o.op = Op.call { callee := Callee.builtin Builtin.append, args := #[d, x], argTypes := #[dT, sT] })
    (v u : Value) (hd : a.eval d = v) (hx : a.eval x = u) {v' : Value} {w' : World} (hr : (Builtin.append_ #[dT, sT] o.type #[v, u]).run P w = .ok v' w') (hK : K (a.put o.dst v') w') :
    if Region.wanted o (yielded ops a.tmps) = true then Oper.wp P o a w K Q else E := by
  have hw : Region.wanted o (yielded ops a.tmps) = true := by simp [Region.wanted, hg]
  rw [if_pos hw]
  unfold Oper.wp
  simp [execOp, hop, resolve, invoke, builtin, hd, hx, hr, Result.andThen]
  exact hK

theorem wpList_clear_runP {P : Program} (w : World) {ops : Array Oper} {rest : List Oper} {o : Oper} {a : Act} {Q : Exit → Act → World → Prop} (hgd : o.guard = none) (d : Operand) (t : TypeId)
    (ho : o.op = .call { callee := .builtin .clear, args := #[d], argTypes := #[t] }) (v : Value) (hd : a.eval d = v) {v' : Value} {w' : World}
    (hr : (Builtin.clear_ #[t] o.type #[v]).run P w = .ok v' w') (h : wpList P ops Q rest (a.put o.dst v') w') : wpList P ops Q (o :: rest) a w :=
  wpList_plain hgd fun _ hK => by
    unfold Oper.wp execOp
    simp only [ho, resolve, invoke, builtin, Sem.run_bind, Sem.run_pure, Result.andThen_ok, List.map_toArray, List.map_cons, List.map_nil, hd, hr]
    exact hK _ _ h

theorem cut_list {xs : List Value} {z : Value} {i : Nat} (hi : i < xs.length) :
    ((xs.take i ++ xs.drop (i + 1) ++ xs.drop (i + (xs.drop (i + 1)).length)).take (xs.length - 1) ++ [z] ++ (xs.take i ++ xs.drop (i + 1) ++ xs.drop (i + (xs.drop (i + 1)).length)).drop (xs.length - 1 + [z].length)).take (xs.length - 1) = xs.eraseIdx i := by
  have hl : (xs.take i ++ xs.drop (i + 1)).length = xs.length - 1 := by rw [List.length_append, List.length_take, List.length_drop]; omega
  have e1 : (xs.take i ++ xs.drop (i + 1) ++ xs.drop (i + (xs.drop (i + 1)).length)).take (xs.length - 1) = xs.take i ++ xs.drop (i + 1) := by
    rw [List.take_append_of_le_length (by omega), List.take_of_length_le (by omega)]
  rw [e1, List.eraseIdx_eq_take_drop_succ, List.append_assoc, List.take_append_of_le_length (by omega), List.take_of_length_le (by omega)]

set_option maxRecDepth 100000 in
set_option maxHeartbeats 4000000 in
theorem hdelete_any (g n c i : Nat) (xs : List Value) (hl : xs.length = n) (hn : n ≤ 100) (hi : i < n) (h1 : ∀ u ∈ xs, u.oneCell' = true) (w : World) (own : w.ownsRow 0 TE 1 (.slice (some ⟨g, 0, none⟩) n c) n xs) :
    Calls Try.prog 27 #[.slice (some ⟨g, 0, none⟩) n c, .int .i64 (i : Int), .int .i64 ((i : Int) + 1)] w fun e w' =>
      e = .returned (.slice (some ⟨g, 0, none⟩) (n - 1) c) ∧ w'.ownsRow 0 TE 1 (.slice (some ⟨g, 0, none⟩) (n - 1) c) (n - 1) (xs.eraseIdx i) ∧ Chg (fun k => k = g) w w' := by
  obtain ⟨cur, hg, hcs0, hnc, hmx⟩ : ∃ cur : Array Value, w.heap[g]? = some (.cells cur TE (0, 0)) ∧ cur.size = c ∧ n ≤ c ∧ c ≤ maxLen := by
    rcases own.2 with ⟨hv, h0⟩ | ⟨g', cap, cur, hv, hb, hg, hc, hm, hs, ht⟩
    · cases hv
    · cases hv; exact ⟨cur, hg, by rw [hs, Nat.mul_one], hc, hm⟩
  have hc63 : c ≤ 9223372036854775807 := by unfold maxLen at hmx; omega
  obtain ⟨i0, hi0, hz0, hzs, hzb⟩ := info_parts info_ptr
  have hsp : ∀ j, j < n → (w.cell? ⟨g, j, none⟩).isSome = true := fun j hj => by
    rw [cell_of_row w g j _ _ _ hg]
    rw [Array.getElem?_eq_getElem (by omega)]; rfl
  have hfz : ∀ j, w.frozen? ⟨g, j, none⟩ = false := fun j => frozen_of_row w g j _ _ hg
  have hcs : ∀ j v, xs[j]? = some v → w.cell? ⟨g, j, none⟩ = some v := fun j v hv => by
    have hj := (List.getElem?_eq_some_iff.1 hv).1
    rw [own.cellAt j (by omega)]; exact hv
  have hdl : (xs.drop (i + 1)).length = n - (i + 1) := by rw [List.length_drop, hl]
  have hrun : ∀ ty ad dc, (0 < n - (i + 1) → ad = (⟨g, i + 1, none⟩ : Addr)) → (Builtin.append_ #[TP, TP] ty #[.slice (some ⟨g, 0, none⟩) i c, .slice (some ad) (n - (i + 1)) dc]).run Try.prog w.drew = .ok (.slice (some ⟨g, 0, none⟩) (n - 1) c) (w.drew.setCells g i (xs.drop (i + 1))) := fun ty ad dc had => by
    have hsrc : Src Try.prog i0.size TP (.slice (some ad) (n - (i + 1)) dc) (n - (i + 1)) (xs.drop (i + 1)) w.drew := by
      rw [hzs]
      refine Src.ofSlice w.drew Try.underlying50 ad (n - (i + 1)) dc (xs.drop (i + 1)) (by rw [hdl]; omega) (fun j u hj => ?_) (fun v hv => h1 v (List.mem_of_mem_drop hv))
      have hj' := (List.getElem?_eq_some_iff.1 hj).1
      rw [had (by omega), Addr.add_lit]
      exact hcs (i + 1 + j) u (by rwa [List.getElem?_drop] at hj)
    have q := run_append_room_src w.drew TP TP ty TE i0 Try.underlying50 hi0 g 0 i c _ _ _ hsrc (by omega) (fun j hj => by rw [hzs]; exact hsp _ (by omega)) (fun j hj => hfz _)
    rw [hzs, Nat.zero_add, Nat.mul_one, show i + (n - (i + 1)) = n - 1 by omega] at q
    exact q
  obtain ⟨W1, hW1⟩ : ∃ W1, W1 = w.drew.setCells g i (xs.drop (i + 1)) := ⟨_, rfl⟩
  have hcl : ∀ ty dc, (Builtin.clear_ #[TP] ty #[.slice (some ⟨g, n - 1, none⟩) 1 dc]).run Try.prog W1 = .ok (.tuple #[]) (W1.setCells g (n - 1) [.pointer none]) := fun ty dc =>
    run_clear_ptr W1 g (n - 1) dc ty (by rw [hW1]; exact isSome_setCells g (xs.drop (i + 1)) i w.drew (fun j hj => hsp _ (by omega)) (n - 1) (hsp _ (by omega))) (by rw [hW1, World.frozen?_setCells]; exact hfz _)
  have FIN : Hid ((W1.setCells g (n - 1) [.pointer none]).ownsRow 0 TE 1 (.slice (some ⟨g, 0, none⟩) (n - 1) c) (n - 1) (xs.eraseIdx i) ∧ Chg (fun k => k = g) w (W1.setCells g (n - 1) [.pointer none])) := by
    have o1 : W1.ownsRow 0 TE 1 _ _ _ := hW1 ▸ owns_setCellsP (xs.drop (i + 1)) i w.drew xs own (by omega)
    have o2 := owns_setCellsP [.pointer none] (n - 1) W1 _ o1 (by simp; omega)
    have o3 := owns_cutP (i := n - 1) o2 (by omega)
    refine ⟨?_, ?_⟩
    · subst hl
      rw [cut_list hi] at o3
      exact o3
    · rw [hW1]
      have q : Chg (fun k => k = g) w w.drew := (Chg.refl _ w).drew
      exact (q.trans (chg_setCellsP _ _ _) (fun _ q _ => q)).trans (chg_setCellsP _ _ _) (fun _ q _ => q)
  rw [← hW1] at hrun
  have mixed : Try.prog.follows Departure.mixedOrders = true := by kernel_rfl
  have e1 : ((i : Int) == (i : Int) + 1) = false := by rw [beq_eq_false_iff_ne]; omega
  have e2 : (i : Int) + 1 ≤ (n : Int) := by omega
  have e3 : (0 : Int) ≤ (i : Int) + 1 := by omega
  have e4 : ((i : Int) + 1).toNat = i + 1 := by omega
  have e5 : (i : Int) ≤ (i : Int) + 1 := by omega
  have e6 : (n : Int) ≤ (c : Int) := by omega
  have e7 : ((n - 1 : Nat) : Int) = (n : Int) - 1 := by omega
  have e8 : (0 : Int) ≤ (n : Int) - 1 := by omega
  have e9 : ¬ (c = n - 1) := by omega
  have e10 : n - (n - 1) = 1 := by omega
  have e11 : (i : Int) ≤ (c : Int) := by omega
  have e12 : ¬ (c = i) := by omega
  have HR := Hid.intro hrun
  have HC := Hid.intro hcl
  clear hrun hcl hsp hfz hcs hdl own hg hcs0 hW1
  by_cases hci : c = i + 1
  · obtain rfl : n = i + 1 := by omega
    subst hci
    have HR0 := Hid.intro (fun ty ad => HR.out ty ad 0 (fun q => absurd q (by omega)))
    simp only [Nat.sub_self, Nat.add_sub_cancel] at HR0 HC FIN ⊢
    go_enter Try.func27, Try.ntmps27
    go_wp2_with fail
    go_region_law_o (first
      | (refine step_append_runP rfl _ _ TP TP rfl _ _ (by simp [Act.eval, Act.put]) (by simp [Act.eval, Act.put]) (HR0.out _ ⟨g, 0, none⟩) ?_)
      | (refine step_append_runP rfl _ _ TP TP rfl _ _ (by simp [Act.eval, Act.put]) (by simp [Act.eval, Act.put]) (HR0.out _ ⟨g, i + 1, none⟩) ?_)
      | fail)
    go_wp2_with fail
    rw [HC.out]
    go_wp2
    go_ret
    exact ⟨rfl, FIN.out⟩
  · go_enter Try.func27, Try.ntmps27
    go_wp2_with fail
    go_region_law_o (refine step_append_runP rfl _ _ TP TP rfl _ _ (by simp [Act.eval, Act.put]) (by simp [Act.eval, Act.put]) (HR.out _ ⟨g, i + 1, none⟩ (c - (i + 1)) (fun _ => rfl)) ?_)
    go_wp2_with fail
    rw [HC.out]
    go_wp2
    go_ret
    exact ⟨rfl, FIN.out⟩

end Go.Proofs.Ythfmgdhhjnngaaa
