/- Package record: within, isWave, Right, isWrong, Numeric, Fits. -/
import Derived.Test.YthhggjakenalpaaGreatDoorRcVal
import Derived.Test.YthhggjakenalpaaGreatDoorRsCd
import Derived.Test.YthhggjakenalpaaGreatDoorMRs
namespace Go.Proofs.YthhggjakenalpaaGreatDoor
set_option maxRecDepth 100000
open Go.RowKit
open Bt

theorem mwithin_any (n f t : Int) (w : World) :
    Calls Tryz.prog 79 #[.int .i64 n, .int .i64 f, .int .i64 t] w fun e w' => e = .returned (.bool (inW n f t)) ∧ w = w' := by
  by_cases h1 : f ≤ n
  · by_cases h2 : n ≤ t
    · have e : inW n f t = true := by simp [inW, h1, h2]
      rw [e]
      clear e
      go_enter Tryz.func79, Tryz.ntmps79
      go_wp2
      go_ret
      exact ⟨rfl, rfl⟩
    · have e : inW n f t = false := by simp [inW]; omega
      rw [e]
      clear e
      go_enter Tryz.func79, Tryz.ntmps79
      go_wp2
      go_ret
      exact ⟨rfl, rfl⟩
  · have e : inW n f t = false := by simp [inW]; omega
    rw [e]
    clear e
    go_enter Tryz.func79, Tryz.ntmps79
    go_wp2
    go_ret
    exact ⟨rfl, rfl⟩

theorem isWave_any (k t v : Int) (w : World) :
    Calls Tryz.prog 78 #[.agg #[.int .i64 k, .int .i64 t, .int .i64 v]] w fun e w' => e = .returned (.bool (decide (k = 5))) ∧ Below w.heap.size w w' := by
  have HB := Hid.intro ((Below.refl _ w).alloc (Nat.le_refl _) (.cells #[.int .i64 k, .int .i64 t, .int .i64 v] 35))
  go_enter Tryz.func78, Tryz.ntmps78
  go_wp2
  go_ret
  exact ⟨rfl, HB.out⟩

theorem rightM_in (k t v M : Int) (hM : M = if k = 5 then 255 else 999) : rightM ⟨k, t, v⟩ = (inW k 1 5 && (inW t 0 255 && inW v 0 M)) := by
  rw [Bool.eq_iff_iff]
  simp only [rightM, inW, Bool.and_eq_true, decide_eq_true_eq]
  subst hM
  split <;> omega

set_option maxRecDepth 100000 in
set_option maxHeartbeats 1000000 in
theorem cright_in (k t v : Int) (w : World) :
    Calls Tryz.prog 36 #[.agg #[.int .i64 k, .int .i64 t, .int .i64 v]] w fun e w' => e = .returned (.bool (rightM ⟨k, t, v⟩)) ∧ Below w.heap.size w w' := by
  obtain ⟨M, hM⟩ : ∃ M : Int, M = if k = 5 then 255 else 999 := ⟨_, rfl⟩
  rw [rightM_in k t v M hM]
  have H1 := Hid.intro (mwithin_any k 1 5)
  have H2 := Hid.intro (mwithin_any t 0 255)
  have H3 := Hid.intro (mwithin_any v 0 M)
  have HW := Hid.intro (isWave_any k t v (w.alloc (.cells #[.int .i64 k, .int .i64 t, .int .i64 v] 35)))
  have HB := Hid.intro ((Below.refl _ w).alloc (Nat.le_refl _) (.cells #[.int .i64 k, .int .i64 t, .int .i64 v] 35))
  have NB := Hid.intro (heap_alloc_new w (.cells #[.int .i64 k, .int .i64 t, .int .i64 v] 35))
  have HM := Hid.intro hM
  clear hM
  obtain ⟨D, hD⟩ : ∃ D, D = decide (k = 5) := ⟨_, rfl⟩
  rw [← hD] at HW
  have HMD : Hid (M = if D = true then 255 else 999) := by rw [Hid, HM.out, hD]; simp
  clear HM hD
  have HE : Hid ((inW k 1 5 = false → (inW k 1 5 && (inW t 0 255 && inW v 0 M)) = false) ∧ (inW k 1 5 = true → inW t 0 255 = false → (inW k 1 5 && (inW t 0 255 && inW v 0 M)) = false) ∧ (inW k 1 5 = true → inW t 0 255 = true → (inW k 1 5 && (inW t 0 255 && inW v 0 M)) = inW v 0 M)) := ⟨fun h => by rw [h]; rfl, fun h1 h2 => by rw [h1, h2]; rfl, fun h1 h2 => by rw [h1, h2]; rfl⟩
  generalize (inW k 1 5 && (inW t 0 255 && inW v 0 M)) = R at HE ⊢
  rcases e1 : inW k 1 5 with _ | _
  · have hR := HE.out.1 e1
    subst hR
    rw [e1] at H1
    clear e1 HE
    cases D
    all_goals
      have hM := HMD.out
      simp only [if_true, Bool.false_eq_true, if_false] at hM
      subst hM
      clear HMD
      go_enter Tryz.func36, Tryz.ntmps36
      go_wp2_with fail
      refine HW.out.mono ?_
      rintro e w1 ⟨rfl, B1⟩
      have n1 := (B1.block _ (lt_of_heap NB.out)).trans NB.out
      have c0 : w1.cell? ⟨w.heap.size, 0, none⟩ = some (.int .i64 k) := by rw [cell_of_row _ _ 0 _ _ _ n1]; rfl
      have c1 : w1.cell? ⟨w.heap.size, 1, none⟩ = some (.int .i64 t) := by rw [cell_of_row _ _ 1 _ _ _ n1]; rfl
      have c2 : w1.cell? ⟨w.heap.size, 2, none⟩ = some (.int .i64 v) := by rw [cell_of_row _ _ 2 _ _ _ n1]; rfl
      have BW := Hid.intro (HB.out.trans (B1.mono HB.out.size))
      clear n1 B1 HW NB HB
      go_wp2_with fail
      refine (H1.out _).mono ?_
      rintro e w2 ⟨rfl, rfl⟩
      go_wp2
      go_ret
      exact ⟨rfl, BW.out⟩
  · rw [e1] at H1
    rcases e2 : inW t 0 255 with _ | _
    · have hR := HE.out.2.1 e1 e2
      subst hR
      rw [e2] at H2
      clear e1 e2 HE
      cases D
      all_goals
        have hM := HMD.out
        simp only [if_true, Bool.false_eq_true, if_false] at hM
        subst hM
        clear HMD
        go_enter Tryz.func36, Tryz.ntmps36
        go_wp2_with fail
        refine HW.out.mono ?_
        rintro e w1 ⟨rfl, B1⟩
        have n1 := (B1.block _ (lt_of_heap NB.out)).trans NB.out
        have c0 : w1.cell? ⟨w.heap.size, 0, none⟩ = some (.int .i64 k) := by rw [cell_of_row _ _ 0 _ _ _ n1]; rfl
        have c1 : w1.cell? ⟨w.heap.size, 1, none⟩ = some (.int .i64 t) := by rw [cell_of_row _ _ 1 _ _ _ n1]; rfl
        have c2 : w1.cell? ⟨w.heap.size, 2, none⟩ = some (.int .i64 v) := by rw [cell_of_row _ _ 2 _ _ _ n1]; rfl
        have BW := Hid.intro (HB.out.trans (B1.mono HB.out.size))
        clear n1 B1 HW NB HB
        go_wp2_with fail
        refine (H1.out _).mono ?_
        rintro e w2 ⟨rfl, rfl⟩
        go_wp2_with fail
        refine (H2.out _).mono ?_
        rintro e w2 ⟨rfl, rfl⟩
        go_wp2
        go_ret
        exact ⟨rfl, BW.out⟩
    · have hR := HE.out.2.2 e1 e2
      rw [e2] at H2
      rw [← hR] at H3
      clear e1 e2 HE hR
      cases D
      all_goals
        have hM := HMD.out
        simp only [if_true, Bool.false_eq_true, if_false] at hM
        subst hM
        clear HMD
        go_enter Tryz.func36, Tryz.ntmps36
        go_wp2_with fail
        refine HW.out.mono ?_
        rintro e w1 ⟨rfl, B1⟩
        have n1 := (B1.block _ (lt_of_heap NB.out)).trans NB.out
        have c0 : w1.cell? ⟨w.heap.size, 0, none⟩ = some (.int .i64 k) := by rw [cell_of_row _ _ 0 _ _ _ n1]; rfl
        have c1 : w1.cell? ⟨w.heap.size, 1, none⟩ = some (.int .i64 t) := by rw [cell_of_row _ _ 1 _ _ _ n1]; rfl
        have c2 : w1.cell? ⟨w.heap.size, 2, none⟩ = some (.int .i64 v) := by rw [cell_of_row _ _ 2 _ _ _ n1]; rfl
        have BW := Hid.intro (HB.out.trans (B1.mono HB.out.size))
        clear n1 B1 HW NB HB
        go_wp2_with fail
        refine (H1.out _).mono ?_
        rintro e w2 ⟨rfl, rfl⟩
        go_wp2_with fail
        refine (H2.out _).mono ?_
        rintro e w2 ⟨rfl, rfl⟩
        go_wp2_with fail
        refine (H3.out _).mono ?_
        rintro e w2 ⟨rfl, rfl⟩
        go_wp2
        go_ret
        exact ⟨rfl, BW.out⟩

theorem cright_any (s : Smp) (w : World) :
    Calls Tryz.prog 36 #[Sm s] w fun e w' => e = .returned (.bool (rightM s)) ∧ Below w.heap.size w w' := cright_in s.kind s.tick s.value w

theorem isWrong_any (s : Smp) (w : World) :
    Calls Tryz.prog 122 #[Sm s] w fun e w' => e = .returned (.bool (!rightM s)) ∧ Below w.heap.size w w' := by
  obtain ⟨k, t, v⟩ := s
  show Calls Tryz.prog 122 #[.agg #[.int .i64 k, .int .i64 t, .int .i64 v]] w fun e w' => e = .returned (.bool (!rightM ⟨k, t, v⟩)) ∧ Below w.heap.size w w'
  have HR := Hid.intro (fun W => cright_in k t v W)
  have HB := Hid.intro ((Below.refl _ w).alloc (Nat.le_refl _) (.cells #[.int .i64 k, .int .i64 t, .int .i64 v] 35))
  generalize rightM ⟨k, t, v⟩ = R at *
  go_enter Tryz.func122, Tryz.ntmps122
  go_wp2_with fail
  refine (HR.out _).mono ?_
  rintro e w1 ⟨rfl, B1⟩
  first
    | (have BW : Below w.heap.size w w1 := B1; clear B1)
    | (have BW : Below w.heap.size w w1 := HB.out.trans (B1.mono HB.out.size); clear B1)
  cases R
  all_goals
    go_wp2
    go_ret
    exact ⟨rfl, BW⟩

set_option maxRecDepth 100000 in
set_option maxHeartbeats 1000000 in
theorem cfits_any (k n s : Int) (w : World) :
    Calls Tryz.prog 37 #[Cd k n s] w fun e w' => e = .returned (.int .i64 (fitsM k n s)) ∧ Below w.heap.size w w' := by
  have HM := Hid.intro (fun w => rmay_any k n s w)
  have NB := Hid.intro (heap_alloc_new w (.cells #[.int .i64 k, .int .i64 n, .int .i64 s] 23))
  have HB := Hid.intro ((Below.refl _ w).alloc (Nat.le_refl _) (.cells #[.int .i64 k, .int .i64 n, .int .i64 s] 23))
  rcases hmay : mayC k n s with _ | _
  · have e : fitsM k n s = 0 := by unfold fitsM; rw [if_neg (by rw [hmay]; simp)]
    rw [e]
    rw [hmay] at HM
    clear e hmay
    go_enter Tryz.func37, Tryz.ntmps37
    go_wp2_with fail
    refine (HM.out _).mono ?_
    rintro e1 w1 ⟨rfl, B1⟩
    have BW := HB.out.trans (B1.mono HB.out.size)
    clear B1
    go_wp2
    go_ret
    exact ⟨rfl, BW⟩
  · have e : fitsM k n s = (k * s - 1) / 3 := by unfold fitsM; rw [if_pos hmay]
    rw [e]
    rw [hmay] at HM
    have hm := mayC_true hmay
    have hks : 1 ≤ k * s ∧ k * s ≤ 144 := by
      have a1 : k * s ≤ 6 * s := Int.mul_le_mul_of_nonneg_right hm.2.1 (by omega)
      have a2 : 1 * s ≤ k * s := Int.mul_le_mul_of_nonneg_right hm.1 (by omega)
      omega
    obtain ⟨P, hP⟩ : ∃ P, P = k * s := ⟨_, rfl⟩
    have hw : IntKind.i64.wrap (k * s) = P := by rw [hP]; exact IntWalk.i64_in _ (by omega)
    rw [← hP] at hks ⊢
    clear e hmay hP hm
    go_enter Tryz.func37, Tryz.ntmps37
    go_wp2_with fail
    refine (HM.out _).mono ?_
    rintro e1 w1 ⟨rfl, B1⟩
    have n1 := (B1.block _ (lt_of_heap NB.out)).trans NB.out
    have c0 : w1.cell? ⟨w.heap.size, 0, none⟩ = some (.int .i64 k) := by rw [cell_of_row _ _ 0 _ _ _ n1]; rfl
    have c2 : w1.cell? ⟨w.heap.size, 2, none⟩ = some (.int .i64 s) := by rw [cell_of_row _ _ 2 _ _ _ n1]; rfl
    have BW := Hid.intro (HB.out.trans (B1.mono HB.out.size))
    clear B1 n1 NB HB HM
    go_wp2
    go_ret
    exact ⟨rfl, BW.out⟩

end Go.Proofs.YthhggjakenalpaaGreatDoor
