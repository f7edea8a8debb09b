/- slices.Insert: in the middle, with room, and without. -/
import Derived.Test.YthfmgdhhjnngaaaShInsB
namespace Go.Proofs.Ythfmgdhhjnngaaa
open Go.RowKit Go.Lib Go.Shelf
open Bt

theorem row_long {w : World} {g n c : Nat} {xs : List Value} (own : w.ownsRow 0 TE 1 (.slice (some ⟨g, 0, none⟩) n c) n xs) (h : n + 1 ≤ c) : ∃ u, w.ownsRow 0 TE 1 (.slice (some ⟨g, 0, none⟩) (n + 1) c) (n + 1) (xs ++ [u]) := by
  rcases own.2 with ⟨hv, h0⟩ | ⟨g', cap, cur, hv, hb, hg, hc, hm, hs, ht⟩
  · cases hv
  · cases hv
    have hl : n < cur.toList.length := by rw [Array.length_toList, hs]; omega
    refine ⟨cur.toList[n], ?_, .inr ⟨g, c, cur, rfl, hb, hg, h, hm, hs, ?_⟩⟩
    · have := own.1; simp; omega
    · rw [Nat.mul_one, List.take_succ_eq_append_getElem hl]
      rw [Nat.mul_one] at ht
      rw [ht]

theorem shift_list {xs : List Value} {u p : Value} {i : Nat} (hi : i < xs.length) :
    ((((xs ++ [u]).take (i + 1) ++ xs.drop i ++ (xs ++ [u]).drop (i + 1 + (xs.drop i).length)).take i) ++ [p] ++ (((xs ++ [u]).take (i + 1) ++ xs.drop i ++ (xs ++ [u]).drop (i + 1 + (xs.drop i).length)).drop (i + [p].length))) = xs.insertIdx i p := by
  have e1 : (xs ++ [u]).drop (i + 1 + (xs.drop i).length) = [] := by
    apply List.drop_eq_nil_of_le
    simp; omega
  have e2 : (xs ++ [u]).take (i + 1) = xs.take (i + 1) := by rw [List.take_append_of_le_length (by omega)]
  have hl : (xs.take (i + 1)).length = i + 1 := by rw [List.length_take]; omega
  rw [e1, e2, List.append_nil, ins_take xs p i (by omega)]
  rw [List.take_append_of_le_length (by omega), List.take_take, Nat.min_eq_left (by omega)]
  have e3 : (xs.take (i + 1) ++ xs.drop i).drop (i + [p].length) = xs.drop i := by
    show (xs.take (i + 1) ++ xs.drop i).drop (i + 1) = xs.drop i
    rw [List.drop_append, hl]
    simp
  rw [e3]
  simp

set_option maxRecDepth 100000 in
set_option maxHeartbeats 4000000 in
theorem hins_shift (g n c i vb : Nat) (cs : List Value) (p : Value) (w : World) (hi : i < n) (hroom : n + 1 ≤ c) (hc63 : c ≤ 9223372036854775807) (hvb : vb ≠ g)
    (hcl : cs.length = n) (own : w.ownsRow 0 TE 1 (.slice (some ⟨g, 0, none⟩) n c) n cs) (hpb : w.heap[vb]? = some (.cells #[p] TE (0, 0))) (h1c : ∀ v ∈ cs, v.oneCell' = true) (hp : p.oneCell' = true) :
    Calls Try.prog 36 #[.slice (some ⟨g, 0, none⟩) n c, .int .i64 (i : Int), .slice (some ⟨vb, 0, none⟩) 1 1] w fun e w' =>
      e = .returned (.slice (some ⟨g, 0, none⟩) (n + 1) c) ∧ w' = (w.drew.setCells g (i + 1) (cs.drop i)).setCells g i [p] := by
  obtain ⟨cur, hg, hcs0⟩ : ∃ cur : Array Value, w.heap[g]? = some (.cells cur TE (0, 0)) ∧ cur.size = c := by
    rcases own.2 with ⟨hv, h0⟩ | ⟨g', cap, cur, hv, hb, hg, hc, hm, hs, ht⟩
    · cases hv
    · cases hv; exact ⟨cur, hg, by rw [hs, Nat.mul_one]⟩
  have hcs : ∀ j v, cs[j]? = some v → w.cell? ⟨g, j, none⟩ = some v := fun j v hv => by
    have hj := (List.getElem?_eq_some_iff.1 hv).1
    rw [own.cellAt j (by omega)]; exact hv
  have hsp : ∀ j, j < n + 1 → (w.cell? ⟨g, j, none⟩).isSome = true := fun j hj => by
    rw [cell_of_row w g j _ _ _ hg]
    rw [Array.getElem?_eq_getElem (by omega)]; rfl
  have hfz : ∀ j, w.frozen? ⟨g, j, none⟩ = false := fun j => frozen_of_row w g j _ _ hg
  have hvs : ∀ j v, [p][j]? = some v → w.cell? ⟨vb, 0 + j, none⟩ = some v := fun j v hv => by
    match j, hv with
    | 0, hv =>
      simp at hv
      subst hv
      rw [cell_of_row w vb 0 _ _ _ hpb]; rfl
  have hsa : w.shape? vb = some (TE, 1) := by simp [World.shape?, hpb]
  have hsb : w.shape? g = some (TE, cur.size) := by simp [World.shape?, hg]
  have hfa : w.frozen? ⟨vb, 0, none⟩ = false := frozen_of_row w vb 0 _ _ hpb
  have hfe : w.frozen? ⟨vb, 1, none⟩ = false := frozen_of_row w vb 1 _ _ hpb
  have h1v : ∀ v ∈ [p], v.oneCell' = true := fun u hu => by simp at hu; subst hu; exact hp
  have hz2 : ¬ ((i : Int) = (n : Int)) := by omega
  have mixed : Try.prog.follows Departure.mixedOrders = true := by kernel_rfl
  have hov : ∀ lb cb, (callFunc 38 #[.slice (some ⟨vb, 0, none⟩) 1 1, .slice (some ⟨g, i + 1, none⟩) lb cb]).run Try.prog w = .ok (.value (.bool false)) w := fun lb cb => by
    rw [run_callFunc_extern Try.func38 (by kernel_rfl) (by kernel_rfl) (by kernel_rfl) (e := Extern.SlicesOverlaps.overlaps #[TP, TP] #[4]) (by kernel_rfl),
      Lib.run_overlaps_apart w TP 4 TE Try.underlying50 1 sizeOf_TE ⟨vb, 0, none⟩ ⟨g, i + 1, none⟩ 1 1 lb cb hvb TE TE 1 cur.size hsa hsb (by omega) hfa hfe]
    rfl
  have hdl : (cs.drop i).length = n - i := by rw [List.length_drop, hcl]
  have hw1 : IntKind.i64.wrap ((i : Int) + 1) = (i : Int) + 1 := by rw [IntKind.wrap_i64]; omega
  have hb1 : (0 : Int) ≤ (i : Int) + 1 := by omega
  have hin : i ≤ n := by omega
  have htn : ((i : Int) + 1).toNat = i + 1 := by omega
  have hb2 : ¬ (c = i + 1) := by omega
  have hb3 : (i : Int) ≤ (n : Int) + 1 := by omega
  have hb4 : ¬ (c = i) := by omega
  have hcp1 : ∀ ty dc sc, (Builtin.copy_ #[TP, TP] ty #[.slice (some ⟨g, i + 1, none⟩) (n - i) dc, .slice (some ⟨g, i, none⟩) (n + 1 - i) sc]).run Try.prog w.drew = .ok (goInt (cs.drop i).length) (w.drew.setCells g (i + 1) (cs.drop i)) := fun ty dc sc =>
    run_copy_cells w.drew _ _ ty TE g (i + 1) (n - i) dc ⟨g, i, none⟩ (n + 1 - i) sc (cs.drop i) Try.underlying50 hsz_TE (by rw [hdl]; simp only [Nat.min_def]; split <;> omega)
      (fun j v hj => by rw [Addr.add_lit]; exact hcs (i + j) v (by rwa [List.getElem?_drop] at hj))
      (fun j hj => hsp _ (by omega)) (fun j hj => hfz _) (fun v hv => h1c v (List.mem_of_mem_drop hv))
  obtain ⟨W1, hW1⟩ : ∃ W1, W1 = w.drew.setCells g (i + 1) (cs.drop i) := ⟨_, rfl⟩
  have hsp1 : ∀ k, k < n + 1 → (W1.cell? ⟨g, k, none⟩).isSome = true := fun k hk => by
    rw [hW1]
    exact isSome_setCells g (cs.drop i) (i + 1) w.drew (fun j hj => hsp (i + 1 + j) (by omega)) k (hsp k hk)
  have hcp2 : ∀ (W : World), (∀ x, W.cell? x = W1.cell? x) → (∀ x, W.frozen? x = W1.frozen? x) → ∀ ty dc, (Builtin.copy_ #[TP, TP] ty #[.slice (some ⟨g, i, none⟩) (n + 1 - i) dc, .slice (some ⟨vb, 0, none⟩) 1 1]).run Try.prog W = .ok (goInt [p].length) (W.setCells g i [p]) := fun W hWc hWf ty dc =>
    run_copy_cells W _ _ ty TE g i (n + 1 - i) dc ⟨vb, 0, none⟩ 1 1 [p] Try.underlying50 hsz_TE (by simp only [List.length_cons, List.length_nil, Nat.min_def]; split <;> omega)
      (fun j v hj => by
        rw [Addr.add_lit, hWc, hW1, World.cell?_setCells_out g _ _ _ _ (fun h _ => absurd h hvb)]
        exact hvs j v hj)
      (fun j hj => by rw [hWc]; simp at hj; exact hsp1 _ (by omega)) (fun j hj => by rw [hWf, hW1, World.frozen?_setCells]; exact hfz _) h1v
  rw [← hW1] at hcp1
  clear hsp1 hsa hsb hfa hfe hvs hcs hpb own hg hcs0
  go_enter Try.func36, Try.ntmps36
  go_wp2_with (simp only [hov])
  go_region_law_o (refine step_copy_runI rfl _ _ TP TP rfl _ _ (by simp [Act.eval, Act.put]) (by simp [Act.eval, Act.put]) (hcp1 _ _ _) ?_)
  go_wp2_with (at_builtin; refine wpList_copy_runI _ rfl _ _ TP TP rfl _ _ rfl rfl (hcp2 _ (fun _ => rfl) (fun _ => rfl) _ _) ?_)
  go_ret
  first | exact ⟨rfl, rfl⟩ | exact ⟨rfl, by rw [hW1]⟩

end Go.Proofs.Ythfmgdhhjnngaaa
