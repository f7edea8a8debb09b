/- Several texts, one behind the other: FldA FldB FldU8 FldM FldC FldD. -/
import Derived.Test.YthhggjakenalpaaGreatDoorBase
import Derived.Test.YthhggjakenalpaaGreatDoorMPlain
import Derived.RangeFuncNested
import Derived.RangeFuncBound
import Derived.RangeFuncCalls
import Derived.RangeFuncLeaves
import Derived.RangeFuncFrom
import Derived.Shelf.Abstract
import Derived.Shelf.RegionOpen
import Derived.WalkKit
import Derived.OwnWalkIn
import Derived.TacticsInMore
import Derived.LoopNIn
import Derived.LoopIn
/- Package field: double, and the iterators: doublings hands on a byte times each power of 2 (a range over a function). -/
namespace Go.Proofs.YthhggjakenalpaaGreatDoor
set_option maxRecDepth 100000
open Go.RowKit Go.Shelf
open Bt
attribute [local go_sem] Oper.semAt_some

theorem double_any (p : Nat) (hp : p < 256) (w : World) :
    Calls Tryz.prog 176 #[.int .u8 (p : Int)] w fun e w' => e = .returned (.int .u8 ((xt p : Nat) : Int)) ∧ w = w' := by
  by_cases h : p < 128
  · have hb : decide ((256 : Int) ≤ (p : Int) * 2) = false := by simp; omega
    have e : xt p = 2 * p := by unfold xt; rw [if_pos h]
    rw [e]
    go_enter Tryz.func176, Tryz.ntmps176
    go_wp2
    go_ret
    exact ⟨ret_int (by omega), rfl⟩
  · have hb : decide ((256 : Int) ≤ (p : Int) * 2) = true := by simp; omega
    have e : IntKind.u8.wrap (bits .xor .i64 ((p : Int) * 2) 285) = ((xt p : Nat) : Int) := by
      have := all_lt (p := fun p => decide (p < 128) || decide (IntKind.u8.wrap (bits .xor .i64 ((p : Int) * 2) 285) = ((xt p : Nat) : Int))) (n := 256) (by decide +kernel) p hp
      simp only [Bool.or_eq_true, decide_eq_true_eq] at this
      rcases this with h1 | h1
      · omega
      · exact h1
    generalize xt p = R at e ⊢
    have HE := Hid.intro e
    clear e
    go_enter Tryz.func176, Tryz.ntmps176
    go_wp2
    go_ret
    exact ⟨ret_int HE.out, rfl⟩

/-- Places one behind the other. -/
def Row {m : Nat} (pre : List (Fin m)) : Prop := ∀ j, (h : j < pre.length) → (pre[j]).val = j

theorem Row.nil {m : Nat} : Row ([] : List (Fin m)) := fun j h => absurd h (by simp)
theorem Row.snoc {m : Nat} {pre : List (Fin m)} (h : Row pre) (x : Fin m) (hx : x.val = pre.length) : Row (pre ++ [x]) := by
  intro j hj
  by_cases e : j < pre.length
  · rw [List.getElem_append_left e]; exact h j e
  · have : j = pre.length := by simp at hj; omega
    subst this
    simp [hx]

abbrev encD {m : Nat} (a : Nat) (x : Fin m) : Array Value := #[.int .i64 (x.val : Int), .int .u8 ((xtn x.val a : Nat) : Int)]

set_option maxRecDepth 100000 in
set_option maxHeartbeats 2000000 in
theorem doublings_stops (n : Nat) (hn : 2 ≤ n) (a m ba bm : Nat) (ha : a < 256) (hm : m ≤ 510) (w : World)
    (ca : w.cell? ⟨ba, 0, none⟩ = some (.int .u8 (a : Int))) (cm : w.cell? ⟨bm, 0, none⟩ = some (.int .i64 (m : Int))) :
    SeqStopsA Fence.wide n Tryz.prog 175 #[.pointer (some ⟨ba, 0, none⟩), .pointer (some ⟨bm, 0, none⟩)] (encD a) (fun xs : List (Fin m) => xs.length = m ∧ Row xs) (fun pre => Row pre) m w := fun l J Jx W hW _ _ hY h0 => by
  have ca' : W.cell? ⟨ba, 0, none⟩ = some (.int .u8 (a : Int)) := (hW.cell (p := ⟨ba, 0, none⟩) (World.block_lt_of_cell? w _ ca)).trans ca
  have cm' : W.cell? ⟨bm, 0, none⟩ = some (.int .i64 (m : Int)) := (hW.cell (p := ⟨bm, 0, none⟩) (World.block_lt_of_cell? w _ cm)).trans cm
  refine callsIn_of_wp Tryz.func175 rfl trivial ?_ rfl
  simp only [Tryz.ntmps175, List.size_toArray, List.length_cons, List.length_nil, Nat.reduceAdd, Nat.reduceSub, Array.replicate_succ, Array.replicate_zero, List.push_toArray, List.append_toArray, List.nil_append, List.cons_append]
  gi_wp2
  clear ca' cm'
  gi_loopw [4, 8] (fun p i wr => ∃ (k : Nat) (pre : List (Fin m)), k ≤ m ∧ i = .int .i64 k ∧ p = .int .u8 ((xtn k a : Nat) : Int) ∧ pre.length = k ∧ Row pre ∧ J pre wr) (fun _ i _ => m - (intOf i).toNat)
  case atStart => exact ⟨0, [], by omega, rfl, rfl, rfl, Row.nil, h0⟩
  case round =>
    obtain ⟨k, pre, hk, rfl, rfl, hlen, hrow, hJ⟩ := hrel
    by_cases hlt : k < m
    · obtain ⟨fn, tmps, assign, body, hy, hR⟩ := hY pre ⟨k, hlt⟩ wr hJ (by omega)
      have hrow' := hrow.snoc ⟨k, hlt⟩ hlen.symm
      have HROW := Hid.intro hrow'
      dsimp only [encD] at hy
      have hp := xtn_lt ha k
      have HD := Hid.intro (double_any (xtn k a) hp)
      have hs : xt (xtn k a) = xtn (k + 1) a := rfl
      rw [hs] at HD
      obtain ⟨P1, hP1⟩ : ∃ P1, P1 = xtn (k + 1) a := ⟨_, rfl⟩
      rw [← hP1] at HD
      have HP1 := Hid.intro hP1
      clear hs hP1 hrow'
      generalize xtn k a = P at hp hy HD ⊢
      have h1 : 1 ≤ n := by omega
      have hc : decide ((k : Int) < (m : Int)) = true := by simp; omega
      gi_wp2
      refine hR.mono ?_
      clear hR hy
      rintro e W3 (⟨rfl, hJ3, _⟩ | ⟨rfl, hJx3⟩)
      · gi_wp2_with (refine ⟨trivial, ?_⟩; gi_at_call 176; refine (callsIn_wide.2 (HD.out _)).mono ?_; rintro e w' ⟨rfl, rfl⟩)
        go_roundw
        case rel => exact ⟨k + 1, _, by omega, by go_num, by rw [HP1.out], by simp [hlen], HROW.out, hJ3⟩
        case measure => simp [intOf]; omega
      · gi_wp2
        refine bodyPost_ret (results_none rfl _ _ _) rfl ?_
        exact ⟨⟨_, rfl⟩, .inr ⟨_, HROW.out, hJx3⟩⟩
    · have hke : k = m := by omega
      subst hke
      gi_wp2
      go_end0
      exact ⟨⟨_, rfl⟩, .inl ⟨pre, ⟨hlen, hrow⟩, hJ⟩⟩

theorem doublings_any (a m : Int) (w : World) : Calls Tryz.prog 172 #[.int .u8 a, .int .i64 m] w fun e w' =>
    e = .returned (.func (.func 175) #[] #[.pointer (some ⟨w.heap.size, 0, none⟩), .pointer (some ⟨w.heap.size + 1, 0, none⟩)]) ∧ w' = (w.alloc (.cells #[.int .u8 a] 5)).alloc (.cells #[.int .i64 m] 3) := by
  go_enter Tryz.func172, Tryz.ntmps172
  go_wp2
  go_ret
  exact ⟨by simp, rfl⟩

theorem cellNew (w : World) (v : Value) (t : TypeId) : (w.alloc (.cells #[v] t)).cell? ⟨w.heap.size, 0, none⟩ = some v ∧ (w.alloc (.cells #[v] t)).frozen? ⟨w.heap.size, 0, none⟩ = false := by
  have h := heap_alloc_new w (.cells #[v] t)
  exact ⟨by rw [cell_of_row _ _ _ _ _ _ h]; rfl, frozen_of_row _ _ _ _ _ h⟩

theorem cellOld {w : World} {a : Addr} {v : Value} (o : Obj) (h : w.cell? a = some v) : (w.alloc o).cell? a = some v :=
  (World.cell?_alloc_lt _ _ _ (World.block_lt_of_cell? w a h)).trans h

end Go.Proofs.YthhggjakenalpaaGreatDoor

/- Package field: Exp and Log, which range over the powers of 2. -/
namespace Go.Proofs.YthhggjakenalpaaGreatDoor
set_option maxRecDepth 100000
open Go.RowKit Go.Shelf
open Bt
attribute [local go_sem] Oper.semAt_some

theorem frozenOld {w : World} {a : Addr} {v : Value} (o : Obj) (h : w.cell? a = some v) (hf : w.frozen? a = false) : (w.alloc o).frozen? a = false :=
  (World.frozen?_alloc_old _ _ _ (Nat.ne_of_lt (World.block_lt_of_cell? w a h))).trans hf

theorem powers_any (w : World) : Calls Tryz.prog 180 #[] w fun e w' =>
    e = .returned (.func (.func 175) #[] #[.pointer (some ⟨w.heap.size, 0, none⟩), .pointer (some ⟨w.heap.size + 1, 0, none⟩)]) ∧ w' = (w.alloc (.cells #[.int .u8 1] 5)).alloc (.cells #[.int .i64 510] 3) := by
  go_enter Tryz.func180, Tryz.ntmps180
  go_wp2_with fail
  refine (doublings_any 1 510 w).mono ?_
  rintro e w' ⟨rfl, rfl⟩
  go_wp2
  go_ret
  exact ⟨rfl, rfl⟩

set_option maxRecDepth 100000 in
set_option maxHeartbeats 2000000 in
theorem exp_any (i : Int) (w : World) :
    Calls Tryz.prog 178 #[.int .i64 i] w fun e w' => e = .returned (.int .u8 ((expA i : Nat) : Int)) ∧ Below w.heap.size w w' := by
  refine (callsIn_wide (n := 4)).1 ?_
  refine callsIn_of_wp_marks Tryz.func178 rfl trivial ?_ rfl
  simp only [Tryz.ntmps178, List.size_toArray, List.length_cons, List.length_nil, Nat.reduceAdd, Nat.reduceSub, Array.replicate_succ, Array.replicate_zero, List.push_toArray, List.append_toArray, List.nil_append, List.cons_append]
  gi_wp2_with (refine ⟨trivial, ?_⟩; gi_at_call 180; refine (callsIn_wide.2 (powers_any _)).mono ?_; rintro e w' ⟨rfl, rfl⟩)
  have c0 := cellNew w (.int .i64 i) 3
  have c1 := cellNew (w.alloc (.cells #[.int .i64 i] 3)) (.int .u8 0) 5
  have c2 := cellNew ((w.alloc (.cells #[.int .i64 i] 3)).alloc (.cells #[.int .u8 0] 5)) (.int .u8 1) 5
  have c3 := cellNew (((w.alloc (.cells #[.int .i64 i] 3)).alloc (.cells #[.int .u8 0] 5)).alloc (.cells #[.int .u8 1] 5)) (.int .i64 510) 3
  simp only [World.size_alloc, Nat.add_assoc, Nat.reduceAdd] at c1 c2 c3
  have hB0 : Below w.heap.size w ((((w.alloc (.cells #[.int .i64 i] 3)).alloc (.cells #[.int .u8 0] 5)).alloc (.cells #[.int .u8 1] 5)).alloc (.cells #[.int .i64 510] 3)) := ((((Below.refl _ w).alloc (Nat.le_refl _) _).alloc (by simp) _).alloc (by simp; omega) _).alloc (by simp; omega) _
  refine wpIn_rangeFunc_ownF rfl (by decide) (gf := 175) (lb := #[.pointer (some ⟨w.heap.size + 2, 0, none⟩), .pointer (some ⟨w.heap.size + 3, 0, none⟩)]) rfl trivial (enters_of Tryz.func175 (by kernel_rfl) rfl)
    (doublings_stops 3 (by decide) 1 510 (w.heap.size + 2) (w.heap.size + 3) (by decide) (by decide) _ (cellOld _ c2.1) c3.1) walksK_t walksK_b (Below.refl _ _) (fun _ => rfl)
    (fun pre W => ((∀ y ∈ pre, (y.val : Int) ≠ i) ∧ W.cell? ⟨w.heap.size, 0, none⟩ = some (.int .i64 i) ∧ W.cell? ⟨w.heap.size + 1, 0, none⟩ = some (.int .u8 0) ∧ W.frozen? ⟨w.heap.size + 1, 0, none⟩ = false) ∧ Below w.heap.size w W)
    (fun c pre W => (c = .ret ∧ (∃ y ∈ pre, (y.val : Int) = i) ∧ W.cell? ⟨w.heap.size + 1, 0, none⟩ = some (.int .u8 ((expA i : Nat) : Int))) ∧ Below w.heap.size w W)
    (OwnFrom.and (Own.from (fun s A B row hs hg hr => ⟨hs.1, cell_kept hs.2.1 hg hr, cell_kept hs.2.2.1 hg hr, (frozen_kept hs.2.2.1 hg hr).trans hs.2.2.2⟩) _) (ownFrom_below (Nat.le_refl _) (by simp; omega)))
    (fun c => OwnFrom.and (Own.from (fun s A B row hs hg hr => ⟨hs.1, hs.2.1, cell_kept hs.2.2 hg hr⟩) _) (ownFrom_below (Nat.le_refl _) (by simp; omega)))
    ⟨⟨by simp, cellOld _ (cellOld _ (cellOld _ c0.1)), cellOld _ (cellOld _ c1.1), ?frz⟩, hB0⟩
    (fun x => { tmps := #[.int .i64 i, .pointer (some ⟨w.heap.size, 0, none⟩), .pointer (some ⟨w.heap.size + 1, 0, none⟩), .int .i64 (x.val : Int), .int .u8 ((pw x.val : Nat) : Int), .func (.func 175) #[] #[.pointer (some ⟨w.heap.size + 2, 0, none⟩), .pointer (some ⟨w.heap.size + 3, 0, none⟩)], .int .i64 (x.val : Int), .int .u8 ((pw x.val : Nat) : Int), undef, undef, undef, undef], defers := [] }) ?assign ?body ?done ?stop
  case frz => exact frozenOld _ (cellOld _ c1.1) (frozenOld _ c1.1 c1.2)
  case assign =>
    intro l x W K hK
    gi_wp2
    exact hK
  case body =>
    rintro l pre x W ⟨⟨hp, hcw, hcr, hfr⟩, hB⟩ _
    by_cases hx : (x.val : Int) = i
    · have e : pw x.val = expA i := by
        unfold expA
        rw [if_pos (by have := x.isLt; omega), ← hx]; rfl
      rw [e]
      have hj : ((x.val : Int) == i) = true := by rw [hx]; simp
      generalize expA i = R
      gi_wp2
      exact ⟨KeepsOthers.setCell _ _ _, ⟨rfl, ⟨x, by simp, hx⟩, World.cell?_setCell_same' _ _ _ (by rw [hcr]; rfl)⟩, hB.setCell (p := ⟨w.heap.size + 1, 0, none⟩) (by simp) _⟩
    · have hj : ((x.val : Int) == i) = false := by rw [beq_eq_false_iff_ne]; exact hx
      gi_wp2
      exact ⟨KeepsOthers.refl _, KeepsWalks.refl _, ⟨fun y hy => (List.mem_append.1 hy).elim (hp y) (fun e => by simp at e; subst e; exact hx), hcw, hcr, hfr⟩, hB⟩
  case done =>
    rintro D ys W hD ⟨hl, hrow⟩ ⟨⟨hne, _, hcr, hfr⟩, hB⟩ hK
    have e : expA i = 0 := by
      unfold expA
      rw [if_neg]
      rintro ⟨h0, h1⟩
      have hi : i.toNat < ys.length := by omega
      refine hne ys[i.toNat] (List.getElem_mem hi) ?_
      rw [hrow i.toNat hi]; omega
    gi_wp2
    have hK' := (KeepsOthers.setCell W ⟨w.heap.size + 1, 0, none⟩ (.int .u8 0)).same D _ hK rfl
    refine ⟨by simp, .inl ⟨_, _, rfl, run_takeDeferred hK', ?_⟩⟩
    have hc5 := cell_kept (World.cell?_setCell_same' W ⟨w.heap.size + 1, 0, none⟩ (.int .u8 0) (by rw [hcr]; rfl)) (grownBy_putObj' _ D (.deferred none)) (fun r e => by cases e; exact ⟨_, hK', rfl⟩)
    refine ⟨.int .u8 0, ?_, by rw [e]; rfl, (hB.setCell (p := ⟨w.heap.size + 1, 0, none⟩) (by simp) _).trans (belowK_b (w := w) (Nat.le_refl _) _ D _ _ (by simp at hD; omega) hK' rfl rfl)⟩
    simp [results, Tryz.f178, go_sem, hc5]
  case stop =>
    rintro D c pre W hD hpre ⟨⟨rfl, _, hcr⟩, hB⟩ hK
    gi_wp2
    refine ⟨by simp, .inl ⟨_, _, rfl, run_takeDeferred hK, ?_⟩⟩
    have hc5 := cell_kept hcr (grownBy_putObj' _ D (.deferred none)) (fun r e => by cases e; exact ⟨_, hK, rfl⟩)
    refine ⟨.int .u8 ((expA i : Nat) : Int), ?_, rfl, hB.trans (belowK_b (w := w) (Nat.le_refl _) W D _ _ (by simp at hD; omega) hK rfl rfl)⟩
    simp [results, Tryz.f178, go_sem, hc5]

theorem rlog_at {a : Nat} (ha : a < 256) {pre : List (Fin 510)} {x : Fin 510} (hr : Row (pre ++ [x])) (hno : ∀ y ∈ pre, pw y.val ≠ a) (hx : pw x.val = a) : rlog a = (x.val : Int) := by
  have hxl : x.val = pre.length := by
    have := hr pre.length (by simp)
    simpa using this
  have a0 : a ≠ 0 := by rw [← hx]; exact pw_ne _
  have hl := lg_lt ha a0
  have hle : x.val ≤ lg a := by
    rcases Nat.lt_or_ge (lg a) x.val with h | h
    · exfalso
      have hj : lg a < pre.length := by omega
      have e := hr (lg a) (by simp; omega)
      rw [List.getElem_append_left hj] at e
      refine hno pre[lg a] (List.getElem_mem hj) ?_
      rw [e]; exact pw_lg ha a0
    · exact h
  have e : lg a = x.val := by
    rw [← hx, lg_pw (by omega)]
  unfold rlog
  rw [if_neg a0, e]

theorem rlog_none {a : Nat} (ha : a < 256) {ys : List (Fin 510)} (hl : ys.length = 510) (hr : Row ys) (hno : ∀ y ∈ ys, pw y.val ≠ a) : rlog a = -1 := by
  have a0 : a = 0 := Classical.byContradiction fun h0 => by
    have hj : lg a < ys.length := by have := lg_lt ha h0; omega
    refine hno ys[lg a] (List.getElem_mem hj) ?_
    rw [hr (lg a) hj]; exact pw_lg ha h0
  unfold rlog; rw [if_pos a0]

set_option maxRecDepth 100000 in
set_option maxHeartbeats 2000000 in
theorem log_any (a : Nat) (ha : a < 256) (w : World) :
    Calls Tryz.prog 179 #[.int .u8 (a : Int)] w fun e w' => e = .returned (.int .i64 (rlog a)) ∧ Below w.heap.size w w' := by
  refine (callsIn_wide (n := 4)).1 ?_
  refine callsIn_of_wp_marks Tryz.func179 rfl trivial ?_ rfl
  simp only [Tryz.ntmps179, List.size_toArray, List.length_cons, List.length_nil, Nat.reduceAdd, Nat.reduceSub, Array.replicate_succ, Array.replicate_zero, List.push_toArray, List.append_toArray, List.nil_append, List.cons_append]
  gi_wp2_with (refine ⟨trivial, ?_⟩; gi_at_call 180; refine (callsIn_wide.2 (powers_any _)).mono ?_; rintro e w' ⟨rfl, rfl⟩)
  have c0 := cellNew w (.int .u8 (a : Int)) 5
  have c1 := cellNew (w.alloc (.cells #[.int .u8 (a : Int)] 5)) (.int .i64 0) 3
  have c2 := cellNew ((w.alloc (.cells #[.int .u8 (a : Int)] 5)).alloc (.cells #[.int .i64 0] 3)) (.int .u8 1) 5
  have c3 := cellNew (((w.alloc (.cells #[.int .u8 (a : Int)] 5)).alloc (.cells #[.int .i64 0] 3)).alloc (.cells #[.int .u8 1] 5)) (.int .i64 510) 3
  simp only [World.size_alloc, Nat.add_assoc, Nat.reduceAdd] at c1 c2 c3
  have hB0 : Below w.heap.size w ((((w.alloc (.cells #[.int .u8 (a : Int)] 5)).alloc (.cells #[.int .i64 0] 3)).alloc (.cells #[.int .u8 1] 5)).alloc (.cells #[.int .i64 510] 3)) := ((((Below.refl _ w).alloc (Nat.le_refl _) _).alloc (by simp) _).alloc (by simp; omega) _).alloc (by simp; omega) _
  refine wpIn_rangeFunc_ownF rfl (by decide) (gf := 175) (lb := #[.pointer (some ⟨w.heap.size + 2, 0, none⟩), .pointer (some ⟨w.heap.size + 3, 0, none⟩)]) rfl trivial (enters_of Tryz.func175 (by kernel_rfl) rfl)
    (doublings_stops 3 (by decide) 1 510 (w.heap.size + 2) (w.heap.size + 3) (by decide) (by decide) _ (cellOld _ c2.1) c3.1) walksK_t walksK_b (Below.refl _ _) (fun _ => rfl)
    (fun pre W => ((∀ y ∈ pre, pw y.val ≠ a) ∧ W.cell? ⟨w.heap.size, 0, none⟩ = some (.int .u8 (a : Int)) ∧ W.cell? ⟨w.heap.size + 1, 0, none⟩ = some (.int .i64 0) ∧ W.frozen? ⟨w.heap.size + 1, 0, none⟩ = false) ∧ Below w.heap.size w W)
    (fun c pre W => (c = .ret ∧ ∃ p x, pre = p ++ [x] ∧ (∀ y ∈ p, pw y.val ≠ a) ∧ pw x.val = a ∧ W.cell? ⟨w.heap.size + 1, 0, none⟩ = some (.int .i64 (x.val : Int))) ∧ Below w.heap.size w W)
    (OwnFrom.and (Own.from (fun s A B row hs hg hr => ⟨hs.1, cell_kept hs.2.1 hg hr, cell_kept hs.2.2.1 hg hr, (frozen_kept hs.2.2.1 hg hr).trans hs.2.2.2⟩) _) (ownFrom_below (Nat.le_refl _) (by simp; omega)))
    (fun c => OwnFrom.and (Own.from (fun s A B row hs hg hr => by obtain ⟨h1, p, x, h2, h3, h4, h5⟩ := hs; exact ⟨h1, p, x, h2, h3, h4, cell_kept h5 hg hr⟩) _) (ownFrom_below (Nat.le_refl _) (by simp; omega)))
    ⟨⟨by simp, cellOld _ (cellOld _ (cellOld _ c0.1)), cellOld _ (cellOld _ c1.1), ?frz⟩, hB0⟩
    (fun x => { tmps := #[.int .u8 (a : Int), .pointer (some ⟨w.heap.size, 0, none⟩), .pointer (some ⟨w.heap.size + 1, 0, none⟩), .int .i64 (x.val : Int), .int .u8 ((pw x.val : Nat) : Int), .func (.func 175) #[] #[.pointer (some ⟨w.heap.size + 2, 0, none⟩), .pointer (some ⟨w.heap.size + 3, 0, none⟩)], .int .i64 (x.val : Int), .int .u8 ((pw x.val : Nat) : Int), undef, undef, undef, undef], defers := [] }) ?assign ?body ?done ?stop
  case frz => exact frozenOld _ (cellOld _ c1.1) (frozenOld _ c1.1 c1.2)
  case assign =>
    intro l x W K hK
    gi_wp2
    exact hK
  case body =>
    rintro l pre x W ⟨⟨hp, hcw, hcr, hfr⟩, hB⟩ _
    by_cases hx : pw x.val = a
    · have hj : (((pw x.val : Nat) : Int) == (a : Int)) = true := by rw [hx]; simp
      gi_wp2
      exact ⟨KeepsOthers.setCell _ _ _, ⟨rfl, pre, x, rfl, hp, hx, World.cell?_setCell_same' _ _ _ (by rw [hcr]; rfl)⟩, hB.setCell (p := ⟨w.heap.size + 1, 0, none⟩) (by simp) _⟩
    · have hj : (((pw x.val : Nat) : Int) == (a : Int)) = false := by rw [beq_eq_false_iff_ne]; omega
      gi_wp2
      exact ⟨KeepsOthers.refl _, KeepsWalks.refl _, ⟨fun y hy => (List.mem_append.1 hy).elim (hp y) (fun e => by simp at e; subst e; exact hx), hcw, hcr, hfr⟩, hB⟩
  case done =>
    rintro D ys W hD ⟨hl, hrow⟩ ⟨⟨hne, _, hcr, hfr⟩, hB⟩ hK
    have e := rlog_none ha hl hrow hne
    gi_wp2
    have hK' := (KeepsOthers.setCell W ⟨w.heap.size + 1, 0, none⟩ (.int .i64 (-1))).same D _ hK rfl
    refine ⟨by simp, .inl ⟨_, _, rfl, run_takeDeferred hK', ?_⟩⟩
    have hc5 := cell_kept (World.cell?_setCell_same' W ⟨w.heap.size + 1, 0, none⟩ (.int .i64 (-1)) (by rw [hcr]; rfl)) (grownBy_putObj' _ D (.deferred none)) (fun r e => by cases e; exact ⟨_, hK', rfl⟩)
    refine ⟨.int .i64 (-1), ?_, by rw [e], (hB.setCell (p := ⟨w.heap.size + 1, 0, none⟩) (by simp) _).trans (belowK_b (w := w) (Nat.le_refl _) _ D _ _ (by simp at hD; omega) hK' rfl rfl)⟩
    simp [results, Tryz.f179, go_sem, hc5]
  case stop =>
    rintro D c pre W hD hpre ⟨⟨rfl, p, x, rfl, hno, hx, hcr⟩, hB⟩ hK
    have e := rlog_at ha hpre hno hx
    gi_wp2
    refine ⟨by simp, .inl ⟨_, _, rfl, run_takeDeferred hK, ?_⟩⟩
    have hc5 := cell_kept hcr (grownBy_putObj' _ D (.deferred none)) (fun r e => by cases e; exact ⟨_, hK, rfl⟩)
    refine ⟨.int .i64 (x.val : Int), ?_, by rw [e], hB.trans (belowK_b (w := w) (Nat.le_refl _) W D _ _ (by simp at hD; omega) hK rfl rfl)⟩
    simp [results, Tryz.f179, go_sem, hc5]

end Go.Proofs.YthhggjakenalpaaGreatDoor

/- Bytes, exclusively or-ed. -/
namespace Go.Proofs.YthhggjakenalpaaGreatDoor
set_option maxRecDepth 100000

theorem fu8_ofInt (a : Nat) (ha : a < 256) : (BitVec.ofInt 8 (a : Int)).toNat = a := by
  rw [BitVec.ofInt_natCast, BitVec.toNat_ofNat]; exact Nat.mod_eq_of_lt (by omega)

theorem fu8_xor (a b : Nat) (ha : a < 256) (hb : b < 256) : bits .xor .u8 (a : Int) (b : Int) = ((a ^^^ b : Nat) : Int) := by
  have hx : a ^^^ b < 2 ^ 8 := Nat.xor_lt_two_pow ha hb
  show IntKind.u8.wrap ((BitVec.ofInt 8 (a : Int) ^^^ BitVec.ofInt 8 (b : Int)).toNat : Int) = _
  rw [BitVec.toNat_xor, fu8_ofInt a ha, fu8_ofInt b hb]
  exact IntWalk.u8_in _ (by omega)

end Go.Proofs.YthhggjakenalpaaGreatDoor

/- Package field: Add, and Mul, which ranges over a byte's doublings. -/
namespace Go.Proofs.YthhggjakenalpaaGreatDoor
set_option maxRecDepth 100000
open Go.RowKit Go.Shelf
open Bt
attribute [local go_sem] Oper.semAt_some

theorem fadd_any (a b : Nat) (ha : a < 256) (hb : b < 256) (w : World) :
    Calls Tryz.prog 166 #[.int .u8 (a : Int), .int .u8 (b : Int)] w fun e w' => e = .returned (.int .u8 ((a ^^^ b : Nat) : Int)) ∧ Below w.heap.size w w' := by
  have hx := fu8_xor a b ha hb
  generalize a ^^^ b = R at hx ⊢
  have HX := Hid.intro hx
  clear hx
  go_enter Tryz.func166, Tryz.ntmps166
  go_wp2
  go_ret
  exact ⟨ret_int HX.out, Below.refl _ _⟩


theorem add_same (a b : Nat) (ha : a < 256) (hb : b < 256) (w : World) :
    Calls Tryz.prog 166 #[.int .u8 (a : Int), .int .u8 (b : Int)] w fun e w' => e = .returned (.int .u8 ((a ^^^ b : Nat) : Int)) ∧ w = w' := by
  have hx := fu8_xor a b ha hb
  generalize a ^^^ b = R at hx ⊢
  have HX := Hid.intro hx
  clear hx
  go_enter Tryz.func166, Tryz.ntmps166
  go_wp2
  go_ret
  exact ⟨ret_int HX.out, rfl⟩

/-- What the bits of b at the places that have come make of a. -/
def gsum (a b : Nat) : List (Fin 8) → Nat
  | [] => 0
  | x :: r => (if b / 2 ^ x.val % 2 = 1 then xtn x.val a else 0) ^^^ gsum a b r

theorem gsum_snoc (a b : Nat) (l : List (Fin 8)) (x : Fin 8) : gsum a b (l ++ [x]) = gsum a b l ^^^ (if b / 2 ^ x.val % 2 = 1 then xtn x.val a else 0) := by
  induction l with
  | nil => simp [gsum]
  | cons y r ih => simp only [List.cons_append, gsum, ih, Nat.xor_assoc]

theorem gsum_lt {a : Nat} (ha : a < 256) (b : Nat) (l : List (Fin 8)) : gsum a b l < 256 := by
  induction l with
  | nil => simp [gsum]
  | cons y r ih =>
    refine xor_lt8 ?_ ih
    split
    · exact xtn_lt ha _
    · decide

theorem gsum_row (a b : Nat) (k : Nat) : ∀ l : List (Fin 8), l.length = k → Row l → gsum a b l = gm k a b := by
  induction k with
  | zero => intro l hl _; obtain rfl := List.length_eq_zero_iff.1 hl; rfl
  | succ k ih =>
    intro l hl hr
    obtain ⟨p, x, rfl⟩ : ∃ p x, l = p ++ [x] := by
      rcases List.eq_nil_or_concat l with h | ⟨p, x, h⟩
      · subst h; simp at hl
      · exact ⟨p, x, by simpa using h⟩
    have hp : p.length = k := by simpa using hl
    have hx : x.val = k := by
      have := hr k (by simp; omega)
      subst hp
      simpa using this
    rw [gsum_snoc, ih p hp (fun j hj => by have := hr j (by simp; omega); rwa [List.getElem_append_left hj] at this), hx]
    rfl

theorem bit_at {b x : Nat} (hb : b < 256) (hx : x < 8) : (bits .and .u8 ((b : Int) / 2 ^ x) 1 == 1) = decide (b / 2 ^ x % 2 = 1) := by
  have := all_lt (p := fun b => (List.range 8).all fun x => decide ((bits .and .u8 ((b : Int) / 2 ^ x) 1 == 1) = decide (b / 2 ^ x % 2 = 1))) (n := 256) (by decide +kernel) b hb
  simpa using all_lt this x hx

set_option maxRecDepth 100000 in
set_option maxHeartbeats 2000000 in
theorem fmul_any (a b : Nat) (ha : a < 256) (hb : b < 256) (w : World) :
    Calls Tryz.prog 167 #[.int .u8 (a : Int), .int .u8 (b : Int)] w fun e w' => e = .returned (.int .u8 ((gmul a b : Nat) : Int)) ∧ Below w.heap.size w w' := by
  refine (callsIn_wide (n := 4)).1 ?_
  refine callsIn_of_wp_marks Tryz.func167 rfl trivial ?_ rfl
  simp only [Tryz.ntmps167, List.size_toArray, List.length_cons, List.length_nil, Nat.reduceAdd, Nat.reduceSub, Array.replicate_succ, Array.replicate_zero, List.push_toArray, List.append_toArray, List.nil_append, List.cons_append]
  gi_wp2_with (refine ⟨trivial, ?_⟩; gi_at_call 172; refine (callsIn_wide.2 (doublings_any _ _ _)).mono ?_; rintro e w' ⟨rfl, rfl⟩)
  have c0 := cellNew w (.int .u8 (b : Int)) 5
  have c1 := cellNew (w.alloc (.cells #[.int .u8 (b : Int)] 5)) (.int .u8 0) 5
  have c2 := cellNew ((w.alloc (.cells #[.int .u8 (b : Int)] 5)).alloc (.cells #[.int .u8 0] 5)) (.int .u8 (a : Int)) 5
  have c3 := cellNew (((w.alloc (.cells #[.int .u8 (b : Int)] 5)).alloc (.cells #[.int .u8 0] 5)).alloc (.cells #[.int .u8 (a : Int)] 5)) (.int .i64 8) 3
  simp only [World.size_alloc, Nat.add_assoc, Nat.reduceAdd] at c1 c2 c3
  have hB0 : Below w.heap.size w ((((w.alloc (.cells #[.int .u8 (b : Int)] 5)).alloc (.cells #[.int .u8 0] 5)).alloc (.cells #[.int .u8 (a : Int)] 5)).alloc (.cells #[.int .i64 8] 3)) := ((((Below.refl _ w).alloc (Nat.le_refl _) _).alloc (by simp) _).alloc (by simp; omega) _).alloc (by simp; omega) _
  refine wpIn_rangeFunc_ownF rfl (by decide) (gf := 175) (lb := #[.pointer (some ⟨w.heap.size + 2, 0, none⟩), .pointer (some ⟨w.heap.size + 3, 0, none⟩)]) rfl trivial (enters_of Tryz.func175 (by kernel_rfl) rfl)
    (doublings_stops 3 (by decide) a 8 (w.heap.size + 2) (w.heap.size + 3) ha (by decide) _ (cellOld _ c2.1) c3.1) walksK_t walksK_b (Below.refl _ _) (fun _ => rfl)
    (fun pre W => (W.cell? ⟨w.heap.size, 0, none⟩ = some (.int .u8 (b : Int)) ∧ W.cell? ⟨w.heap.size + 1, 0, none⟩ = some (.int .u8 ((gsum a b pre : Nat) : Int)) ∧ W.frozen? ⟨w.heap.size + 1, 0, none⟩ = false) ∧ Below w.heap.size w W)
    (fun _ _ _ => False)
    (OwnFrom.and (Own.from (fun s A B row hs hg hr => ⟨cell_kept hs.1 hg hr, cell_kept hs.2.1 hg hr, (frozen_kept hs.2.1 hg hr).trans hs.2.2⟩) _) (ownFrom_below (Nat.le_refl _) (by simp; omega)))
    (fun c => Own.from (fun _ _ _ _ hs _ _ => hs) _)
    ⟨⟨cellOld _ (cellOld _ (cellOld _ c0.1)), cellOld _ (cellOld _ c1.1), ?frz⟩, hB0⟩
    (fun x => { tmps := #[.int .u8 (a : Int), .int .u8 (b : Int), undef, .pointer (some ⟨w.heap.size, 0, none⟩), .int .u8 0, .pointer (some ⟨w.heap.size + 1, 0, none⟩), .int .i64 (x.val : Int), .int .u8 ((xtn x.val a : Nat) : Int), .int .u8 (a : Int), .func (.func 175) #[] #[.pointer (some ⟨w.heap.size + 2, 0, none⟩), .pointer (some ⟨w.heap.size + 3, 0, none⟩)], .int .i64 (x.val : Int), .int .u8 ((xtn x.val a : Nat) : Int), undef, undef, undef, undef, undef, undef, undef, undef, undef], defers := [] }) ?assign ?body ?done ?stop
  case frz => exact frozenOld _ (cellOld _ c1.1) (frozenOld _ c1.1 c1.2)
  case assign =>
    intro l x W K hK
    gi_wp2
    exact hK
  case body =>
    rintro l pre x W ⟨⟨hcb, hcs, hfs⟩, hB⟩ _
    have hS := gsum_snoc a b pre x
    have hl := gsum_lt ha b pre
    have hx := xtn_lt ha x.val
    have hj := bit_at hb x.isLt
    by_cases hbit : b / 2 ^ x.val % 2 = 1
    · rw [decide_eq_true hbit] at hj
      rw [if_pos hbit] at hS
      have HA := Hid.intro (add_same (gsum a b pre) (xtn x.val a) hl hx)
      rw [← hS] at HA
      have HS := Hid.intro (fun (v : Nat) (h : W.cell? ⟨w.heap.size + 1, 0, none⟩ = some (.int .u8 (v : Int))) => World.cell?_setCell_same' W ⟨w.heap.size + 1, 0, none⟩ (.int .u8 ((gsum a b (pre ++ [x]) : Nat) : Int)) (by rw [h]; rfl))
      clear hS
      gi_wp2_with (refine ⟨trivial, ?_⟩; gi_at_call 166; refine (CallsIn.inRound l (callsIn_wide.2 (HA.out _))).mono ?_; rintro e w' ⟨rfl, rfl⟩)
      exact ⟨KeepsOthers.setCell _ _ _, (KeepsOthers.setCell _ _ _).walks, ⟨(World.cell?_setCell_other _ _ _ _ (fun h => by have := congrArg Addr.block h; simp at this)).trans hcb, HS.out _ hcs, by rw [World.frozen?_setCell]; exact hfs⟩, hB.setCell (p := ⟨w.heap.size + 1, 0, none⟩) (by simp) _⟩
    · rw [decide_eq_false hbit] at hj
      rw [if_neg hbit, Nat.xor_zero] at hS
      have HS := Hid.intro hS
      clear hS
      gi_wp2
      exact ⟨KeepsOthers.refl _, KeepsWalks.refl _, ⟨hcb, by rw [HS.out]; exact hcs, hfs⟩, hB⟩
  case done =>
    rintro D ys W hD ⟨hl, hrow⟩ ⟨⟨_, hcs, hfs⟩, hB⟩ hK
    rw [gsum_row a b 8 ys hl hrow] at hcs
    obtain ⟨R, hR⟩ : ∃ R, R = gmul a b := ⟨_, rfl⟩
    rw [show gm 8 a b = gmul a b from rfl, ← hR] at hcs
    have HR := Hid.intro hR
    clear hR
    gi_wp2
    refine ⟨by simp, .inl ⟨_, _, rfl, run_takeDeferred hK, ?_⟩⟩
    exact ⟨_, results_tmp rfl _ _ _, by rw [← HR.out]; rfl, hB.trans (belowK_b (w := w) (Nat.le_refl _) W D _ _ (by simp at hD; omega) hK rfl rfl)⟩
  case stop =>
    rintro D c pre W _ _ h _
    exact h.elim

end Go.Proofs.YthhggjakenalpaaGreatDoor

/- Package field's calls, by the names that the laws' texts lean on: fexp_any, flog_any, finv_any (Pow: FldP). -/
namespace Go.Proofs.YthhggjakenalpaaGreatDoor
set_option maxRecDepth 100000
open Go.RowKit
open Bt

theorem fexp_any (i : Int) (w : World) :
    Calls Tryz.prog 178 #[.int .i64 i] w fun e w' => e = .returned (.int .u8 ((expA i : Nat) : Int)) ∧ Below w.heap.size w w' := exp_any i w

theorem flog_any (a : Nat) (ha : a < 256) (w : World) :
    Calls Tryz.prog 179 #[.int .u8 (a : Int)] w fun e w' => e = .returned (.int .i64 (rlog a)) ∧ Below w.heap.size w w' := log_any a ha w

theorem finv_any (a : Nat) (ha : a < 256) (w : World) :
    Calls Tryz.prog 177 #[.int .u8 (a : Int)] w fun e w' => e = .returned (.int .u8 ((ginv a : Nat) : Int)) ∧ Below w.heap.size w w' := by
  by_cases a0 : a = 0
  · subst a0
    rw [show ginv 0 = 0 from rfl]
    go_enter Tryz.func177, Tryz.ntmps177
    go_wp2
    go_ret
    exact ⟨rfl, Below.refl _ _⟩
  have ja : ((a : Int) == 0) = false := by rw [beq_eq_false_iff_ne]; omega
  have la := lg_lt ha a0
  have HA := Hid.intro (fun w => flog_any a ha w)
  have ea : rlog a = (lg a : Int) := by unfold rlog; rw [if_neg a0]
  rw [ea] at HA
  have HE := Hid.intro (fun w => fexp_any (255 - (lg a : Int)) w)
  have ee : expA (255 - (lg a : Int)) = ginv a := by
    unfold expA ginv
    rw [if_pos (by omega), if_neg a0]
    congr 1
    omega
  rw [ee] at HE
  clear ea ee
  generalize lg a = A at la HA HE
  generalize ginv a = R at HE ⊢
  go_enter Tryz.func177, Tryz.ntmps177
  go_wp2_with fail
  refine (HA.out w).mono ?_
  rintro e w1 ⟨rfl, B1⟩
  have HB1 := Hid.intro B1
  clear B1 HA
  go_wp2_with fail
  refine (HE.out w1).mono ?_
  rintro e w3 ⟨rfl, B3⟩
  have HB3 := Hid.intro (HB1.out.trans (B3.mono HB1.out.size))
  clear B3 HE HB1
  go_wp2
  go_ret
  exact ⟨rfl, HB3.out⟩

end Go.Proofs.YthhggjakenalpaaGreatDoor

/- Package field's Div: fdiv_any. -/
namespace Go.Proofs.YthhggjakenalpaaGreatDoor
set_option maxRecDepth 100000
open Go.RowKit
open Bt

theorem fdiv_any (a b : Nat) (ha : a < 256) (hb : b < 256) (w : World) :
    Calls Tryz.prog 174 #[.int .u8 (a : Int), .int .u8 (b : Int)] w fun e w' => e = .returned (.int .u8 ((gmul a (ginv b) : Nat) : Int)) ∧ Below w.heap.size w w' := by
  have HA := Hid.intro (finv_any b hb w)
  have HM := Hid.intro (fun w => fmul_any a (ginv b) ha (ginv_lt b) w)
  generalize gmul a (ginv b) = R at HM ⊢
  generalize ginv b = I at HA HM
  go_enter Tryz.func174, Tryz.ntmps174
  go_wp2_with fail
  refine HA.out.mono ?_
  rintro e w1 ⟨rfl, B1⟩
  have HB1 := Hid.intro B1
  clear B1 HA
  go_wp2_with fail
  refine (HM.out w1).mono ?_
  rintro e w3 ⟨rfl, B3⟩
  have HB3 := Hid.intro (HB1.out.trans (B3.mono HB1.out.size))
  clear B3 HM HB1
  go_wp2
  go_ret
  exact ⟨rfl, HB3.out⟩

end Go.Proofs.YthhggjakenalpaaGreatDoor
