/- Package field: Exp and Log, which range over the powers of 2. -/
import Derived.Test.YtebjkbhidpdpfaaFldA
namespace Go.Proofs.Ytebjkbhidpdpfaa
open Go.RowKit Go.Shelf
open Bt
attribute [local go_sem] Oper.semAt_some

theorem frozenOld {w : World} {a : Addr} {v : Value} (o : Obj) (h : w.cell? a = some v) (hf : w.frozen? a = false) : (w.alloc o).frozen? a = false :=
  (World.frozen?_alloc_old _ _ _ (Nat.ne_of_lt (World.block_lt_of_cell? w a h))).trans hf

theorem powers_any (w : World) : Calls Try.prog 46 #[] w fun e w' =>
    e = .returned (.func (.func 42) #[] #[.pointer (some ⟨w.heap.size, 0, none⟩), .pointer (some ⟨w.heap.size + 1, 0, none⟩)]) ∧ w' = (w.alloc (.cells #[.int .u8 1] 5)).alloc (.cells #[.int .i64 510] 3) := by
  go_enter Try.func46, Try.ntmps46
  go_wp2_with fail
  refine (doublings_any 1 510 w).mono ?_
  rintro e w' ⟨rfl, rfl⟩
  go_wp2
  go_ret
  exact ⟨rfl, rfl⟩

set_option maxRecDepth 100000 in
set_option maxHeartbeats 2000000 in
theorem exp_any (i : Int) (w : World) :
    Calls Try.prog 44 #[.int .i64 i] w fun e w' => e = .returned (.int .u8 ((expA i : Nat) : Int)) ∧ Below w.heap.size w w' := by
  refine (callsIn_wide (n := 4)).1 ?_
  refine callsIn_of_wp_marks Try.func44 rfl trivial ?_ rfl
  simp only [Try.ntmps44, List.size_toArray, List.length_cons, List.length_nil, Nat.reduceAdd, Nat.reduceSub, Array.replicate_succ, Array.replicate_zero, List.push_toArray, List.append_toArray, List.nil_append, List.cons_append]
  gi_wp2_with (refine ⟨trivial, ?_⟩; gi_at_call 46; refine (callsIn_wide.2 (powers_any _)).mono ?_; rintro e w' ⟨rfl, rfl⟩)
  have c0 := cellNew w (.int .i64 i) 3
  have c1 := cellNew (w.alloc (.cells #[.int .i64 i] 3)) (.int .u8 0) 5
  have c2 := cellNew ((w.alloc (.cells #[.int .i64 i] 3)).alloc (.cells #[.int .u8 0] 5)) (.int .u8 1) 5
  have c3 := cellNew (((w.alloc (.cells #[.int .i64 i] 3)).alloc (.cells #[.int .u8 0] 5)).alloc (.cells #[.int .u8 1] 5)) (.int .i64 510) 3
  simp only [World.size_alloc, Nat.add_assoc, Nat.reduceAdd] at c1 c2 c3
  have hB0 : Below w.heap.size w ((((w.alloc (.cells #[.int .i64 i] 3)).alloc (.cells #[.int .u8 0] 5)).alloc (.cells #[.int .u8 1] 5)).alloc (.cells #[.int .i64 510] 3)) := ((((Below.refl _ w).alloc (Nat.le_refl _) _).alloc (by simp) _).alloc (by simp; omega) _).alloc (by simp; omega) _
  refine wpIn_rangeFunc_ownF rfl (by decide) (gf := 42) (lb := #[.pointer (some ⟨w.heap.size + 2, 0, none⟩), .pointer (some ⟨w.heap.size + 3, 0, none⟩)]) rfl trivial (enters_of Try.func42 (by kernel_rfl) rfl)
    (doublings_stops 3 (by decide) 1 510 (w.heap.size + 2) (w.heap.size + 3) (by decide) (by decide) _ (cellOld _ c2.1) c3.1) walksK_t walksK_b (Below.refl _ _) (fun _ => rfl)
    (fun pre W => ((∀ y ∈ pre, (y.val : Int) ≠ i) ∧ W.cell? ⟨w.heap.size, 0, none⟩ = some (.int .i64 i) ∧ W.cell? ⟨w.heap.size + 1, 0, none⟩ = some (.int .u8 0) ∧ W.frozen? ⟨w.heap.size + 1, 0, none⟩ = false) ∧ Below w.heap.size w W)
    (fun c pre W => (c = .ret ∧ (∃ y ∈ pre, (y.val : Int) = i) ∧ W.cell? ⟨w.heap.size + 1, 0, none⟩ = some (.int .u8 ((expA i : Nat) : Int))) ∧ Below w.heap.size w W)
    (OwnFrom.and (Own.from (fun s A B row hs hg hr => ⟨hs.1, cell_kept hs.2.1 hg hr, cell_kept hs.2.2.1 hg hr, (frozen_kept hs.2.2.1 hg hr).trans hs.2.2.2⟩) _) (ownFrom_below (Nat.le_refl _) (by simp; omega)))
    (fun c => OwnFrom.and (Own.from (fun s A B row hs hg hr => ⟨hs.1, hs.2.1, cell_kept hs.2.2 hg hr⟩) _) (ownFrom_below (Nat.le_refl _) (by simp; omega)))
    ⟨⟨by simp, cellOld _ (cellOld _ (cellOld _ c0.1)), cellOld _ (cellOld _ c1.1), ?frz⟩, hB0⟩
    (fun x => { tmps := #[.int .i64 i, .pointer (some ⟨w.heap.size, 0, none⟩), .pointer (some ⟨w.heap.size + 1, 0, none⟩), .int .i64 (x.val : Int), .int .u8 ((pw x.val : Nat) : Int), .func (.func 42) #[] #[.pointer (some ⟨w.heap.size + 2, 0, none⟩), .pointer (some ⟨w.heap.size + 3, 0, none⟩)], .int .i64 (x.val : Int), .int .u8 ((pw x.val : Nat) : Int), undef, undef, undef, undef], defers := [] }) ?assign ?body ?done ?stop
  case frz => exact frozenOld _ (cellOld _ c1.1) (frozenOld _ c1.1 c1.2)
  case assign =>
    intro l x W K hK
    gi_wp2
    exact hK
  case body =>
    rintro l pre x W ⟨⟨hp, hcw, hcr, hfr⟩, hB⟩ _
    by_cases hx : (x.val : Int) = i
    · have e : pw x.val = expA i := by
        unfold expA
        rw [if_pos (by have := x.isLt; omega), ← hx]; rfl
      rw [e]
      have hj : ((x.val : Int) == i) = true := by rw [hx]; simp
      generalize expA i = R
      gi_wp2
      exact ⟨KeepsOthers.setCell _ _ _, ⟨rfl, ⟨x, by simp, hx⟩, World.cell?_setCell_same' _ _ _ (by rw [hcr]; rfl)⟩, hB.setCell (p := ⟨w.heap.size + 1, 0, none⟩) (by simp) _⟩
    · have hj : ((x.val : Int) == i) = false := by rw [beq_eq_false_iff_ne]; exact hx
      gi_wp2
      exact ⟨KeepsOthers.refl _, KeepsWalks.refl _, ⟨fun y hy => (List.mem_append.1 hy).elim (hp y) (fun e => by simp at e; subst e; exact hx), hcw, hcr, hfr⟩, hB⟩
  case done =>
    rintro D ys W hD ⟨hl, hrow⟩ ⟨⟨hne, _, hcr, hfr⟩, hB⟩ hK
    have e : expA i = 0 := by
      unfold expA
      rw [if_neg]
      rintro ⟨h0, h1⟩
      have hi : i.toNat < ys.length := by omega
      refine hne ys[i.toNat] (List.getElem_mem hi) ?_
      rw [hrow i.toNat hi]; omega
    gi_wp2
    have hK' := (KeepsOthers.setCell W ⟨w.heap.size + 1, 0, none⟩ (.int .u8 0)).same D _ hK rfl
    refine ⟨by simp, .inl ⟨_, _, rfl, run_takeDeferred hK', ?_⟩⟩
    have hc5 := cell_kept (World.cell?_setCell_same' W ⟨w.heap.size + 1, 0, none⟩ (.int .u8 0) (by rw [hcr]; rfl)) (grownBy_putObj' _ D (.deferred none)) (fun r e => by cases e; exact ⟨_, hK', rfl⟩)
    refine ⟨.int .u8 0, ?_, by rw [e]; rfl, (hB.setCell (p := ⟨w.heap.size + 1, 0, none⟩) (by simp) _).trans (belowK_b (w := w) (Nat.le_refl _) _ D _ _ (by simp at hD; omega) hK' rfl rfl)⟩
    simp [results, Try.f44, go_sem, hc5]
  case stop =>
    rintro D c pre W hD hpre ⟨⟨rfl, _, hcr⟩, hB⟩ hK
    gi_wp2
    refine ⟨by simp, .inl ⟨_, _, rfl, run_takeDeferred hK, ?_⟩⟩
    have hc5 := cell_kept hcr (grownBy_putObj' _ D (.deferred none)) (fun r e => by cases e; exact ⟨_, hK, rfl⟩)
    refine ⟨.int .u8 ((expA i : Nat) : Int), ?_, rfl, hB.trans (belowK_b (w := w) (Nat.le_refl _) W D _ _ (by simp at hD; omega) hK rfl rfl)⟩
    simp [results, Try.f44, go_sem, hc5]

theorem rlog_at {a : Nat} (ha : a < 256) {pre : List (Fin 510)} {x : Fin 510} (hr : Row (pre ++ [x])) (hno : ∀ y ∈ pre, pw y.val ≠ a) (hx : pw x.val = a) : rlog a = (x.val : Int) := by
  have hxl : x.val = pre.length := by
    have := hr pre.length (by simp)
    simpa using this
  have a0 : a ≠ 0 := by rw [← hx]; exact pw_ne _
  have hl := lg_lt ha a0
  have hle : x.val ≤ lg a := by
    rcases Nat.lt_or_ge (lg a) x.val with h | h
    · exfalso
      have hj : lg a < pre.length := by omega
      have e := hr (lg a) (by simp; omega)
      rw [List.getElem_append_left hj] at e
      refine hno pre[lg a] (List.getElem_mem hj) ?_
      rw [e]; exact pw_lg ha a0
    · exact h
  have e : lg a = x.val := by
    rw [← hx, lg_pw (by omega)]
  unfold rlog
  rw [if_neg a0, e]

theorem rlog_none {a : Nat} (ha : a < 256) {ys : List (Fin 510)} (hl : ys.length = 510) (hr : Row ys) (hno : ∀ y ∈ ys, pw y.val ≠ a) : rlog a = -1 := by
  have a0 : a = 0 := Classical.byContradiction fun h0 => by
    have hj : lg a < ys.length := by have := lg_lt ha h0; omega
    refine hno ys[lg a] (List.getElem_mem hj) ?_
    rw [hr (lg a) hj]; exact pw_lg ha h0
  unfold rlog; rw [if_pos a0]

set_option maxRecDepth 100000 in
set_option maxHeartbeats 2000000 in
theorem log_any (a : Nat) (ha : a < 256) (w : World) :
    Calls Try.prog 45 #[.int .u8 (a : Int)] w fun e w' => e = .returned (.int .i64 (rlog a)) ∧ Below w.heap.size w w' := by
  refine (callsIn_wide (n := 4)).1 ?_
  refine callsIn_of_wp_marks Try.func45 rfl trivial ?_ rfl
  simp only [Try.ntmps45, List.size_toArray, List.length_cons, List.length_nil, Nat.reduceAdd, Nat.reduceSub, Array.replicate_succ, Array.replicate_zero, List.push_toArray, List.append_toArray, List.nil_append, List.cons_append]
  gi_wp2_with (refine ⟨trivial, ?_⟩; gi_at_call 46; refine (callsIn_wide.2 (powers_any _)).mono ?_; rintro e w' ⟨rfl, rfl⟩)
  have c0 := cellNew w (.int .u8 (a : Int)) 5
  have c1 := cellNew (w.alloc (.cells #[.int .u8 (a : Int)] 5)) (.int .i64 0) 3
  have c2 := cellNew ((w.alloc (.cells #[.int .u8 (a : Int)] 5)).alloc (.cells #[.int .i64 0] 3)) (.int .u8 1) 5
  have c3 := cellNew (((w.alloc (.cells #[.int .u8 (a : Int)] 5)).alloc (.cells #[.int .i64 0] 3)).alloc (.cells #[.int .u8 1] 5)) (.int .i64 510) 3
  simp only [World.size_alloc, Nat.add_assoc, Nat.reduceAdd] at c1 c2 c3
  have hB0 : Below w.heap.size w ((((w.alloc (.cells #[.int .u8 (a : Int)] 5)).alloc (.cells #[.int .i64 0] 3)).alloc (.cells #[.int .u8 1] 5)).alloc (.cells #[.int .i64 510] 3)) := ((((Below.refl _ w).alloc (Nat.le_refl _) _).alloc (by simp) _).alloc (by simp; omega) _).alloc (by simp; omega) _
  refine wpIn_rangeFunc_ownF rfl (by decide) (gf := 42) (lb := #[.pointer (some ⟨w.heap.size + 2, 0, none⟩), .pointer (some ⟨w.heap.size + 3, 0, none⟩)]) rfl trivial (enters_of Try.func42 (by kernel_rfl) rfl)
    (doublings_stops 3 (by decide) 1 510 (w.heap.size + 2) (w.heap.size + 3) (by decide) (by decide) _ (cellOld _ c2.1) c3.1) walksK_t walksK_b (Below.refl _ _) (fun _ => rfl)
    (fun pre W => ((∀ y ∈ pre, pw y.val ≠ a) ∧ W.cell? ⟨w.heap.size, 0, none⟩ = some (.int .u8 (a : Int)) ∧ W.cell? ⟨w.heap.size + 1, 0, none⟩ = some (.int .i64 0) ∧ W.frozen? ⟨w.heap.size + 1, 0, none⟩ = false) ∧ Below w.heap.size w W)
    (fun c pre W => (c = .ret ∧ ∃ p x, pre = p ++ [x] ∧ (∀ y ∈ p, pw y.val ≠ a) ∧ pw x.val = a ∧ W.cell? ⟨w.heap.size + 1, 0, none⟩ = some (.int .i64 (x.val : Int))) ∧ Below w.heap.size w W)
    (OwnFrom.and (Own.from (fun s A B row hs hg hr => ⟨hs.1, cell_kept hs.2.1 hg hr, cell_kept hs.2.2.1 hg hr, (frozen_kept hs.2.2.1 hg hr).trans hs.2.2.2⟩) _) (ownFrom_below (Nat.le_refl _) (by simp; omega)))
    (fun c => OwnFrom.and (Own.from (fun s A B row hs hg hr => by obtain ⟨h1, p, x, h2, h3, h4, h5⟩ := hs; exact ⟨h1, p, x, h2, h3, h4, cell_kept h5 hg hr⟩) _) (ownFrom_below (Nat.le_refl _) (by simp; omega)))
    ⟨⟨by simp, cellOld _ (cellOld _ (cellOld _ c0.1)), cellOld _ (cellOld _ c1.1), ?frz⟩, hB0⟩
    (fun x => { tmps := #[.int .u8 (a : Int), .pointer (some ⟨w.heap.size, 0, none⟩), .pointer (some ⟨w.heap.size + 1, 0, none⟩), .int .i64 (x.val : Int), .int .u8 ((pw x.val : Nat) : Int), .func (.func 42) #[] #[.pointer (some ⟨w.heap.size + 2, 0, none⟩), .pointer (some ⟨w.heap.size + 3, 0, none⟩)], .int .i64 (x.val : Int), .int .u8 ((pw x.val : Nat) : Int), undef, undef, undef, undef], defers := [] }) ?assign ?body ?done ?stop
  case frz => exact frozenOld _ (cellOld _ c1.1) (frozenOld _ c1.1 c1.2)
  case assign =>
    intro l x W K hK
    gi_wp2
    exact hK
  case body =>
    rintro l pre x W ⟨⟨hp, hcw, hcr, hfr⟩, hB⟩ _
    by_cases hx : pw x.val = a
    · have hj : (((pw x.val : Nat) : Int) == (a : Int)) = true := by rw [hx]; simp
      gi_wp2
      exact ⟨KeepsOthers.setCell _ _ _, ⟨rfl, pre, x, rfl, hp, hx, World.cell?_setCell_same' _ _ _ (by rw [hcr]; rfl)⟩, hB.setCell (p := ⟨w.heap.size + 1, 0, none⟩) (by simp) _⟩
    · have hj : (((pw x.val : Nat) : Int) == (a : Int)) = false := by rw [beq_eq_false_iff_ne]; omega
      gi_wp2
      exact ⟨KeepsOthers.refl _, KeepsWalks.refl _, ⟨fun y hy => (List.mem_append.1 hy).elim (hp y) (fun e => by simp at e; subst e; exact hx), hcw, hcr, hfr⟩, hB⟩
  case done =>
    rintro D ys W hD ⟨hl, hrow⟩ ⟨⟨hne, _, hcr, hfr⟩, hB⟩ hK
    have e := rlog_none ha hl hrow hne
    gi_wp2
    have hK' := (KeepsOthers.setCell W ⟨w.heap.size + 1, 0, none⟩ (.int .i64 (-1))).same D _ hK rfl
    refine ⟨by simp, .inl ⟨_, _, rfl, run_takeDeferred hK', ?_⟩⟩
    have hc5 := cell_kept (World.cell?_setCell_same' W ⟨w.heap.size + 1, 0, none⟩ (.int .i64 (-1)) (by rw [hcr]; rfl)) (grownBy_putObj' _ D (.deferred none)) (fun r e => by cases e; exact ⟨_, hK', rfl⟩)
    refine ⟨.int .i64 (-1), ?_, by rw [e], (hB.setCell (p := ⟨w.heap.size + 1, 0, none⟩) (by simp) _).trans (belowK_b (w := w) (Nat.le_refl _) _ D _ _ (by simp at hD; omega) hK' rfl rfl)⟩
    simp [results, Try.f45, go_sem, hc5]
  case stop =>
    rintro D c pre W hD hpre ⟨⟨rfl, p, x, rfl, hno, hx, hcr⟩, hB⟩ hK
    have e := rlog_at ha hpre hno hx
    gi_wp2
    refine ⟨by simp, .inl ⟨_, _, rfl, run_takeDeferred hK, ?_⟩⟩
    have hc5 := cell_kept hcr (grownBy_putObj' _ D (.deferred none)) (fun r e => by cases e; exact ⟨_, hK, rfl⟩)
    refine ⟨.int .i64 (x.val : Int), ?_, by rw [e], hB.trans (belowK_b (w := w) (Nat.le_refl _) W D _ _ (by simp at hD; omega) hK rfl rfl)⟩
    simp [results, Try.f45, go_sem, hc5]

end Go.Proofs.Ytebjkbhidpdpfaa
