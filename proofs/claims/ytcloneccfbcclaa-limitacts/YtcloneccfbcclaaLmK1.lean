/- Package limit: within, mayEnd, May, isAlarm, isBelow, isAbove, isBeyond. -/
import Derived.Test.YtcloneccfbcclaaLmRec
import Derived.Test.YtcloneccfbcclaaLmVal
import Derived.Laws.EntriesVeiled
namespace Go.Proofs.Ytcloneccfbcclaa
open Go.RowKit
open Bt

theorem lwithin_any (n f t : Int) (w : World) :
    Calls Try.prog 33 #[.int .i64 n, .int .i64 f, .int .i64 t] w fun e w' => e = .returned (.bool (inL n f t)) ∧ w = w' := by
  by_cases h : f ≤ n
  · have e : inL n f t = decide (n ≤ t) := by unfold inL; rw [decide_eq_true h, Bool.true_and]
    rw [e]
    go_enter Try.func33, Try.ntmps33
    go_wp2
    go_ret
    exact ⟨rfl, rfl⟩
  · have e : inL n f t = false := by unfold inL; rw [decide_eq_false h, Bool.false_and]
    rw [e]
    go_enter Try.func33, Try.ntmps33
    go_wp2
    go_ret
    exact ⟨rfl, rfl⟩

theorem lmayEnd_any (k v : Int) (w : World) :
    Calls Try.prog 34 #[.int .i64 k, .int .i64 v] w fun e w' => e = .returned (.bool (endL k v)) ∧ Below w.heap.size w w' := by
  have HN := Hid.intro (fun W => lnumeric_any k 0 v W)
  rw [endL_eq] at HN
  generalize endL k v = R at *
  go_enter Try.func34, Try.ntmps34
  go_wp2_with fail
  refine (HN.out _).mono ?_
  rintro e w1 ⟨rfl, B1⟩
  have BH := Hid.intro B1
  clear B1 HN
  go_wp2
  go_ret
  exact ⟨rfl, BH.out⟩

theorem limC {w : World} {l : Lm} {g : Nat} (h : w.heap[g]? = some (.cells #[.int .i64 l.bed, .int .i64 l.kind, .int .i64 l.lo, .int .i64 l.hi, .int .i64 l.cnt] 30 (0, 0))) : LmAt w g 0 l :=
  ⟨by rw [cell_of_row _ _ 0 _ _ _ h]; rfl, by rw [cell_of_row _ _ 1 _ _ _ h]; rfl, by rw [cell_of_row _ _ 2 _ _ _ h]; rfl, by rw [cell_of_row _ _ 3 _ _ _ h]; rfl, by rw [cell_of_row _ _ 4 _ _ _ h]; rfl⟩

set_option maxRecDepth 100000 in
set_option maxHeartbeats 1000000 in
theorem lmay_any (l : Lm) (w : World) :
    Calls Try.prog 18 #[Lv l] w fun e w' => e = .returned (.bool (mayL l)) ∧ Below w.heap.size w w' := by
  obtain ⟨b, k, f, t, c⟩ := l
  show Calls Try.prog 18 #[.agg #[.int .i64 b, .int .i64 k, .int .i64 f, .int .i64 t, .int .i64 c]] w fun e w' => e = .returned (.bool (inL b 0 99 && (endL k f && (endL k t && (decide (f ≤ t) && inL c 1 100))))) ∧ Below w.heap.size w w'
  have H1 := Hid.intro (lwithin_any b 0 99)
  have H2 := Hid.intro (lmayEnd_any k f)
  have H3 := Hid.intro (lmayEnd_any k t)
  have H4 := Hid.intro (lwithin_any c 1 100)
  have HB := Hid.intro ((Below.refl _ w).alloc (Nat.le_refl _) (.cells #[.int .i64 b, .int .i64 k, .int .i64 f, .int .i64 t, .int .i64 c] 30))
  have LA := Hid.intro (limC (l := ⟨b, k, f, t, c⟩) (heap_alloc_new w (.cells #[.int .i64 b, .int .i64 k, .int .i64 f, .int .i64 t, .int .i64 c] 30)))
  generalize inL b 0 99 = R1 at *
  generalize endL k f = R2 at *
  generalize endL k t = R3 at *
  generalize inL c 1 100 = R4 at *
  cases R1
  · go_enter Try.func18, Try.ntmps18
    go_wp2_with fail
    refine (H1.out _).mono ?_
    rintro e w1 ⟨rfl, rfl⟩
    go_wp2
    go_ret
    exact ⟨rfl, HB.out⟩
  cases R2
  · go_enter Try.func18, Try.ntmps18
    go_wp2_with fail
    refine (H1.out _).mono ?_
    rintro e w1 ⟨rfl, rfl⟩
    go_wp2_with fail
    refine (H2.out _).mono ?_
    rintro e w1 ⟨rfl, B1⟩
    have FI := Hid.intro (HB.out.trans (B1.mono HB.out.size))
    clear B1
    go_wp2
    go_ret
    exact ⟨rfl, FI.out⟩
  cases R3
  · go_enter Try.func18, Try.ntmps18
    go_wp2_with fail
    refine (H1.out _).mono ?_
    rintro e w1 ⟨rfl, rfl⟩
    go_wp2_with fail
    refine (H2.out _).mono ?_
    rintro e w1 ⟨rfl, B1⟩
    have FI := Hid.intro (HB.out.trans (B1.mono HB.out.size))
    obtain ⟨c0, c1, c2, c3, c4⟩ := LA.out.below B1
    simp only [Nat.zero_add] at c0 c1 c2 c3 c4
    clear B1
    go_wp2_with fail
    refine (H3.out _).mono ?_
    rintro e w2 ⟨rfl, B2⟩
    have FI2 := Hid.intro (FI.out.trans (B2.mono FI.out.size))
    clear B2
    go_wp2
    go_ret
    exact ⟨rfl, FI2.out⟩
  by_cases hft : f ≤ t
  · rw [decide_eq_true hft]
    go_enter Try.func18, Try.ntmps18
    go_wp2_with fail
    refine (H1.out _).mono ?_
    rintro e w1 ⟨rfl, rfl⟩
    go_wp2_with fail
    refine (H2.out _).mono ?_
    rintro e w1 ⟨rfl, B1⟩
    have FI := Hid.intro (HB.out.trans (B1.mono HB.out.size))
    have LB := Hid.intro (LA.out.below B1)
    obtain ⟨c0, c1, c2, c3, c4⟩ := LB.out
    simp only [Nat.zero_add] at c0 c1 c2 c3 c4
    clear B1
    go_wp2_with fail
    refine (H3.out _).mono ?_
    rintro e w2 ⟨rfl, B2⟩
    have FI2 := Hid.intro (FI.out.trans (B2.mono FI.out.size))
    obtain ⟨d0, d1, d2, d3, d4⟩ := LB.out.below B2
    simp only [Nat.zero_add] at d0 d1 d2 d3 d4
    clear B2
    go_wp2_with fail
    refine (H4.out _).mono ?_
    rintro e w3 ⟨rfl, rfl⟩
    cases R4
    all_goals
      go_wp2
      go_ret
      exact ⟨rfl, FI2.out⟩
  · rw [decide_eq_false hft]
    go_enter Try.func18, Try.ntmps18
    go_wp2_with fail
    refine (H1.out _).mono ?_
    rintro e w1 ⟨rfl, rfl⟩
    go_wp2_with fail
    refine (H2.out _).mono ?_
    rintro e w1 ⟨rfl, B1⟩
    have FI := Hid.intro (HB.out.trans (B1.mono HB.out.size))
    have LB := Hid.intro (LA.out.below B1)
    obtain ⟨c0, c1, c2, c3, c4⟩ := LB.out
    simp only [Nat.zero_add] at c0 c1 c2 c3 c4
    clear B1
    go_wp2_with fail
    refine (H3.out _).mono ?_
    rintro e w2 ⟨rfl, B2⟩
    have FI2 := Hid.intro (FI.out.trans (B2.mono FI.out.size))
    obtain ⟨d0, d1, d2, d3, d4⟩ := LB.out.below B2
    simp only [Nat.zero_add] at d0 d1 d2 d3 d4
    clear B2
    go_wp2
    go_ret
    exact ⟨rfl, FI2.out⟩

theorem lalarm_any (x : Kp) (w : World) :
    Calls Try.prog 26 #[Kv x] w fun e w' => e = .returned (.bool (alarmK x)) ∧ Below w.heap.size w w' := by
  obtain ⟨⟨b, k, f, t, c⟩, n⟩ := x
  show Calls Try.prog 26 #[.agg #[.int .i64 b, .int .i64 k, .int .i64 f, .int .i64 t, .int .i64 c, .int .i64 (n : Int)]] w fun e w' => e = .returned (.bool (decide (c ≤ (n : Int)))) ∧ Below w.heap.size w w'
  have HB := Hid.intro ((Below.refl _ w).alloc (Nat.le_refl _) (.cells #[.int .i64 b, .int .i64 k, .int .i64 f, .int .i64 t, .int .i64 c, .int .i64 (n : Int)] 53))
  go_enter Try.func26, Try.ntmps26
  go_wp2
  go_ret
  exact ⟨rfl, HB.out⟩

theorem lbelow_any (x : Kp) (v : Int) (w : World) :
    Calls Try.prog 35 #[Kv x, .int .i64 v] w fun e w' => e = .returned (.bool (decide (v < x.lm.lo))) ∧ Below w.heap.size w w' := by
  obtain ⟨⟨b, k, f, t, c⟩, n⟩ := x
  show Calls Try.prog 35 #[.agg #[.int .i64 b, .int .i64 k, .int .i64 f, .int .i64 t, .int .i64 c, .int .i64 (n : Int)], .int .i64 v] w fun e w' => e = .returned (.bool (decide (v < f))) ∧ Below w.heap.size w w'
  have HB := Hid.intro ((Below.refl _ w).alloc (Nat.le_refl _) (.cells #[.int .i64 b, .int .i64 k, .int .i64 f, .int .i64 t, .int .i64 c, .int .i64 (n : Int)] 53))
  go_enter Try.func35, Try.ntmps35
  go_wp2
  go_ret
  exact ⟨rfl, HB.out⟩

theorem labove_any (x : Kp) (v : Int) (w : World) :
    Calls Try.prog 36 #[Kv x, .int .i64 v] w fun e w' => e = .returned (.bool (decide (x.lm.hi < v))) ∧ Below w.heap.size w w' := by
  obtain ⟨⟨b, k, f, t, c⟩, n⟩ := x
  show Calls Try.prog 36 #[.agg #[.int .i64 b, .int .i64 k, .int .i64 f, .int .i64 t, .int .i64 c, .int .i64 (n : Int)], .int .i64 v] w fun e w' => e = .returned (.bool (decide (t < v))) ∧ Below w.heap.size w w'
  have HB := Hid.intro ((Below.refl _ w).alloc (Nat.le_refl _) (.cells #[.int .i64 b, .int .i64 k, .int .i64 f, .int .i64 t, .int .i64 c, .int .i64 (n : Int)] 53))
  go_enter Try.func36, Try.ntmps36
  go_wp2
  go_ret
  exact ⟨rfl, HB.out⟩

set_option maxRecDepth 100000 in
set_option maxHeartbeats 1000000 in
theorem lbeyond_any (x : Kp) (v : Int) (w : World) :
    Calls Try.prog 27 #[Kv x, .int .i64 v] w fun e w' => e = .returned (.bool (outK x.lm v)) ∧ Below w.heap.size w w' := by
  have H1 := Hid.intro (lbelow_any x v)
  have H2 := Hid.intro (labove_any x v)
  have e0 : outK x.lm v = (decide (v < x.lm.lo) || decide (x.lm.hi < v)) := rfl
  rw [e0]
  clear e0
  generalize decide (v < x.lm.lo) = R1 at *
  generalize decide (x.lm.hi < v) = R2 at *
  obtain ⟨⟨b, k, f, t, c⟩, n⟩ := x
  show Calls Try.prog 27 #[.agg #[.int .i64 b, .int .i64 k, .int .i64 f, .int .i64 t, .int .i64 c, .int .i64 (n : Int)], .int .i64 v] w fun e w' => e = .returned (.bool (R1 || R2)) ∧ Below w.heap.size w w'
  have HB := Hid.intro ((Below.refl _ w).alloc (Nat.le_refl _) (.cells #[.int .i64 b, .int .i64 k, .int .i64 f, .int .i64 t, .int .i64 c, .int .i64 (n : Int)] 53))
  have NB := Hid.intro (heap_alloc_new w (.cells #[.int .i64 b, .int .i64 k, .int .i64 f, .int .i64 t, .int .i64 c, .int .i64 (n : Int)] 53))
  have i0 : ∀ W, (Instr.index 70 (.agg #[.func (.func 35) #[] #[], .func (.func 36) #[] #[]]) (.int .i64 0)).run Try.prog W = .ok (.func (.func 35) #[] #[]) W := fun W => by kernel_rfl
  have i1 : ∀ W, (Instr.index 70 (.agg #[.func (.func 35) #[] #[], .func (.func 36) #[] #[]]) (.int .i64 1)).run Try.prog W = .ok (.func (.func 36) #[] #[]) W := fun W => by kernel_rfl
  cases R1
  · go_enter Try.func27, Try.ntmps27
    go_wp2_with fail
    refine wp_loop_rounds 3 ?_
    rw [rounds_succ]
    go_wp2_with fail
    refine (H1.out _).mono ?_
    rintro e w1 ⟨rfl, B1⟩
    have n1 := (B1.block _ (lt_of_heap NB.out)).trans NB.out
    have c0 : w1.cell? ⟨w.heap.size, 0, none⟩ = some (.int .i64 b) := by rw [cell_of_row _ _ 0 _ _ _ n1]; rfl
    have c1 : w1.cell? ⟨w.heap.size, 1, none⟩ = some (.int .i64 k) := by rw [cell_of_row _ _ 1 _ _ _ n1]; rfl
    have c2 : w1.cell? ⟨w.heap.size, 2, none⟩ = some (.int .i64 f) := by rw [cell_of_row _ _ 2 _ _ _ n1]; rfl
    have c3 : w1.cell? ⟨w.heap.size, 3, none⟩ = some (.int .i64 t) := by rw [cell_of_row _ _ 3 _ _ _ n1]; rfl
    have c4 : w1.cell? ⟨w.heap.size, 4, none⟩ = some (.int .i64 c) := by rw [cell_of_row _ _ 4 _ _ _ n1]; rfl
    have c5 : w1.cell? ⟨w.heap.size, 5, none⟩ = some (.int .i64 (n : Int)) := by rw [cell_of_row _ _ 5 _ _ _ n1]; rfl
    have FI := Hid.intro (HB.out.trans (B1.mono HB.out.size))
    clear B1 n1
    go_wp2_with fail
    rw [rounds_succ]
    go_wp2_with fail
    refine (H2.out _).mono ?_
    rintro e w2 ⟨rfl, B2⟩
    have FI2 := Hid.intro (FI.out.trans (B2.mono FI.out.size))
    clear B2
    cases R2
    · go_wp2_with fail
      rw [rounds_succ]
      go_wp2
      go_ret
      exact ⟨rfl, FI2.out⟩
    · go_wp2
      go_ret
      exact ⟨rfl, FI2.out⟩
  · go_enter Try.func27, Try.ntmps27
    go_wp2_with fail
    refine wp_loop_rounds 3 ?_
    rw [rounds_succ]
    go_wp2_with fail
    refine (H1.out _).mono ?_
    rintro e w1 ⟨rfl, B1⟩
    have FI := Hid.intro (HB.out.trans (B1.mono HB.out.size))
    clear B1
    go_wp2
    go_ret
    exact ⟨rfl, FI.out⟩

end Go.Proofs.Ytcloneccfbcclaa
