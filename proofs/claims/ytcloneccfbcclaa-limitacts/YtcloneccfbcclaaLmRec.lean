/- Package record, as far as limits want it: within, isWave, Right, Numeric (as in RcK1, over plain numbers). -/
import Derived.Test.YtcloneccfbcclaaBase
import Derived.Test.YtcloneccfbcclaaLmPure
namespace Go.Proofs.Ytcloneccfbcclaa
open Go.RowKit
open Bt

theorem lmwithin_any (n f t : Int) (w : World) :
    Calls Try.prog 41 #[.int .i64 n, .int .i64 f, .int .i64 t] w fun e w' => e = .returned (.bool (inL n f t)) ∧ w = w' := by
  by_cases h1 : f ≤ n
  · by_cases h2 : n ≤ t
    · have e : inL n f t = true := by simp [inL, h1, h2]
      rw [e]
      clear e
      go_enter Try.func41, Try.ntmps41
      go_wp2
      go_ret
      exact ⟨rfl, rfl⟩
    · have e : inL n f t = false := by simp [inL]; omega
      rw [e]
      clear e
      go_enter Try.func41, Try.ntmps41
      go_wp2
      go_ret
      exact ⟨rfl, rfl⟩
  · have e : inL n f t = false := by simp [inL]; omega
    rw [e]
    clear e
    go_enter Try.func41, Try.ntmps41
    go_wp2
    go_ret
    exact ⟨rfl, rfl⟩

theorem lisWave_any (k t v : Int) (w : World) :
    Calls Try.prog 40 #[.agg #[.int .i64 k, .int .i64 t, .int .i64 v]] w fun e w' => e = .returned (.bool (decide (k = 5))) ∧ Below w.heap.size w w' := by
  have HB := Hid.intro ((Below.refl _ w).alloc (Nat.le_refl _) (.cells #[.int .i64 k, .int .i64 t, .int .i64 v] 74))
  go_enter Try.func40, Try.ntmps40
  go_wp2
  go_ret
  exact ⟨rfl, HB.out⟩

theorem rightL_in (k t v M : Int) (hM : M = if k = 5 then 255 else 999) : rightL k t v = (inL k 1 5 && (inL t 0 255 && inL v 0 M)) := by
  rw [Bool.eq_iff_iff]
  simp only [rightL, inL, Bool.and_eq_true, decide_eq_true_eq]
  subst hM
  split <;> omega

set_option maxRecDepth 100000 in
set_option maxHeartbeats 1000000 in
theorem lright_in (k t v : Int) (w : World) :
    Calls Try.prog 39 #[.agg #[.int .i64 k, .int .i64 t, .int .i64 v]] w fun e w' => e = .returned (.bool (rightL k t v)) ∧ Below w.heap.size w w' := by
  obtain ⟨M, hM⟩ : ∃ M : Int, M = if k = 5 then 255 else 999 := ⟨_, rfl⟩
  rw [rightL_in k t v M hM]
  have H1 := Hid.intro (lmwithin_any k 1 5)
  have H2 := Hid.intro (lmwithin_any t 0 255)
  have H3 := Hid.intro (lmwithin_any v 0 M)
  have HW := Hid.intro (lisWave_any k t v (w.alloc (.cells #[.int .i64 k, .int .i64 t, .int .i64 v] 74)))
  have HB := Hid.intro ((Below.refl _ w).alloc (Nat.le_refl _) (.cells #[.int .i64 k, .int .i64 t, .int .i64 v] 74))
  have NB := Hid.intro (heap_alloc_new w (.cells #[.int .i64 k, .int .i64 t, .int .i64 v] 74))
  have HM := Hid.intro hM
  clear hM
  obtain ⟨D, hD⟩ : ∃ D, D = decide (k = 5) := ⟨_, rfl⟩
  rw [← hD] at HW
  have HMD : Hid (M = if D = true then 255 else 999) := by rw [Hid, HM.out, hD]; simp
  clear HM hD
  have HE : Hid ((inL k 1 5 = false → (inL k 1 5 && (inL t 0 255 && inL v 0 M)) = false) ∧ (inL k 1 5 = true → inL t 0 255 = false → (inL k 1 5 && (inL t 0 255 && inL v 0 M)) = false) ∧ (inL k 1 5 = true → inL t 0 255 = true → (inL k 1 5 && (inL t 0 255 && inL v 0 M)) = inL v 0 M)) := ⟨fun h => by rw [h]; rfl, fun h1 h2 => by rw [h1, h2]; rfl, fun h1 h2 => by rw [h1, h2]; rfl⟩
  generalize (inL k 1 5 && (inL t 0 255 && inL v 0 M)) = R at HE ⊢
  rcases e1 : inL k 1 5 with _ | _
  · have hR := HE.out.1 e1
    subst hR
    rw [e1] at H1
    clear e1 HE
    cases D
    all_goals
      have hM := HMD.out
      simp only [if_true, Bool.false_eq_true, if_false] at hM
      subst hM
      clear HMD
      go_enter Try.func39, Try.ntmps39
      go_wp2_with fail
      refine HW.out.mono ?_
      rintro e w1 ⟨rfl, B1⟩
      have n1 := (B1.block _ (lt_of_heap NB.out)).trans NB.out
      have c0 : w1.cell? ⟨w.heap.size, 0, none⟩ = some (.int .i64 k) := by rw [cell_of_row _ _ 0 _ _ _ n1]; rfl
      have c1 : w1.cell? ⟨w.heap.size, 1, none⟩ = some (.int .i64 t) := by rw [cell_of_row _ _ 1 _ _ _ n1]; rfl
      have c2 : w1.cell? ⟨w.heap.size, 2, none⟩ = some (.int .i64 v) := by rw [cell_of_row _ _ 2 _ _ _ n1]; rfl
      have BW := Hid.intro (HB.out.trans (B1.mono HB.out.size))
      clear n1 B1 HW NB HB
      go_wp2_with fail
      refine (H1.out _).mono ?_
      rintro e w2 ⟨rfl, rfl⟩
      go_wp2
      go_ret
      exact ⟨rfl, BW.out⟩
  · rw [e1] at H1
    rcases e2 : inL t 0 255 with _ | _
    · have hR := HE.out.2.1 e1 e2
      subst hR
      rw [e2] at H2
      clear e1 e2 HE
      cases D
      all_goals
        have hM := HMD.out
        simp only [if_true, Bool.false_eq_true, if_false] at hM
        subst hM
        clear HMD
        go_enter Try.func39, Try.ntmps39
        go_wp2_with fail
        refine HW.out.mono ?_
        rintro e w1 ⟨rfl, B1⟩
        have n1 := (B1.block _ (lt_of_heap NB.out)).trans NB.out
        have c0 : w1.cell? ⟨w.heap.size, 0, none⟩ = some (.int .i64 k) := by rw [cell_of_row _ _ 0 _ _ _ n1]; rfl
        have c1 : w1.cell? ⟨w.heap.size, 1, none⟩ = some (.int .i64 t) := by rw [cell_of_row _ _ 1 _ _ _ n1]; rfl
        have c2 : w1.cell? ⟨w.heap.size, 2, none⟩ = some (.int .i64 v) := by rw [cell_of_row _ _ 2 _ _ _ n1]; rfl
        have BW := Hid.intro (HB.out.trans (B1.mono HB.out.size))
        clear n1 B1 HW NB HB
        go_wp2_with fail
        refine (H1.out _).mono ?_
        rintro e w2 ⟨rfl, rfl⟩
        go_wp2_with fail
        refine (H2.out _).mono ?_
        rintro e w2 ⟨rfl, rfl⟩
        go_wp2
        go_ret
        exact ⟨rfl, BW.out⟩
    · have hR := HE.out.2.2 e1 e2
      rw [e2] at H2
      rw [← hR] at H3
      clear e1 e2 HE hR
      cases D
      all_goals
        have hM := HMD.out
        simp only [if_true, Bool.false_eq_true, if_false] at hM
        subst hM
        clear HMD
        go_enter Try.func39, Try.ntmps39
        go_wp2_with fail
        refine HW.out.mono ?_
        rintro e w1 ⟨rfl, B1⟩
        have n1 := (B1.block _ (lt_of_heap NB.out)).trans NB.out
        have c0 : w1.cell? ⟨w.heap.size, 0, none⟩ = some (.int .i64 k) := by rw [cell_of_row _ _ 0 _ _ _ n1]; rfl
        have c1 : w1.cell? ⟨w.heap.size, 1, none⟩ = some (.int .i64 t) := by rw [cell_of_row _ _ 1 _ _ _ n1]; rfl
        have c2 : w1.cell? ⟨w.heap.size, 2, none⟩ = some (.int .i64 v) := by rw [cell_of_row _ _ 2 _ _ _ n1]; rfl
        have BW := Hid.intro (HB.out.trans (B1.mono HB.out.size))
        clear n1 B1 HW NB HB
        go_wp2_with fail
        refine (H1.out _).mono ?_
        rintro e w2 ⟨rfl, rfl⟩
        go_wp2_with fail
        refine (H2.out _).mono ?_
        rintro e w2 ⟨rfl, rfl⟩
        go_wp2_with fail
        refine (H3.out _).mono ?_
        rintro e w2 ⟨rfl, rfl⟩
        go_wp2
        go_ret
        exact ⟨rfl, BW.out⟩

set_option maxRecDepth 100000 in
set_option maxHeartbeats 1000000 in
theorem lnumeric_any (k t v : Int) (w : World) :
    Calls Try.prog 38 #[.agg #[.int .i64 k, .int .i64 t, .int .i64 v]] w fun e w' => e = .returned (.bool (rightL k t v && decide (k ≠ 5))) ∧ Below w.heap.size w w' := by
  have HR := Hid.intro (fun W => lright_in k t v W)
  have HV := Hid.intro (fun W => lisWave_any k t v W)
  have HB := Hid.intro ((Below.refl _ w).alloc (Nat.le_refl _) (.cells #[.int .i64 k, .int .i64 t, .int .i64 v] 74))
  have NB := Hid.intro (heap_alloc_new w (.cells #[.int .i64 k, .int .i64 t, .int .i64 v] 74))
  rw [show decide (k ≠ 5) = !decide (k = 5) by simp]
  generalize rightL k t v = R at *
  generalize decide (k = 5) = D at *
  cases R
  · go_enter Try.func38, Try.ntmps38
    go_wp2_with fail
    refine (HR.out _).mono ?_
    rintro e w1 ⟨rfl, B1⟩
    first
      | (have BW : Below w.heap.size w w1 := B1; clear B1)
      | (have BW : Below w.heap.size w w1 := HB.out.trans (B1.mono HB.out.size); clear B1)
    go_wp2
    go_ret
    exact ⟨rfl, BW⟩
  · go_enter Try.func38, Try.ntmps38
    go_wp2_with fail
    refine (HR.out _).mono ?_
    rintro e w1 ⟨rfl, B1⟩
    first
      | (have BW : Below w.heap.size w w1 := B1; clear B1)
      | (have n1 := (B1.block _ (lt_of_heap NB.out)).trans NB.out
         have c0 : w1.cell? ⟨w.heap.size, 0, none⟩ = some (.int .i64 k) := by rw [cell_of_row _ _ 0 _ _ _ n1]; rfl
         have c1 : w1.cell? ⟨w.heap.size, 1, none⟩ = some (.int .i64 t) := by rw [cell_of_row _ _ 1 _ _ _ n1]; rfl
         have c2 : w1.cell? ⟨w.heap.size, 2, none⟩ = some (.int .i64 v) := by rw [cell_of_row _ _ 2 _ _ _ n1]; rfl
         have BW : Below w.heap.size w w1 := HB.out.trans (B1.mono HB.out.size)
         clear B1 n1)
    have BWH := Hid.intro BW
    clear BW
    go_wp2_with fail
    refine (HV.out _).mono ?_
    rintro e w2 ⟨rfl, B2⟩
    have BW2 := BWH.out.trans (B2.mono BWH.out.size)
    clear B2
    cases D
    all_goals
      go_wp2
      go_ret
      exact ⟨rfl, BW2⟩

end Go.Proofs.Ytcloneccfbcclaa
