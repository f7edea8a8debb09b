/- Package rs: within, textBytes, May, Pad. -/
import Derived.Test.YthbfdfkkacmbhabDoorRsVal
namespace Go.Proofs.YthbfdfkkacmbhabDoor
open Go.RowKit
open Bt

def inW (n f t : Int) : Bool := decide (f ≤ n) && decide (n ≤ t)

theorem within_any (n f t : Int) (w : World) :
    Calls Tryd.prog 25 #[.int .i64 n, .int .i64 f, .int .i64 t] w fun e w' => e = .returned (.bool (inW n f t)) ∧ w = w' := by
  by_cases h1 : f ≤ n
  · by_cases h2 : n ≤ t
    · have e : inW n f t = true := by simp [inW, h1, h2]
      rw [e]
      clear e
      go_enter Tryd.func25, Tryd.ntmps25
      go_wp2
      go_ret
      exact ⟨rfl, rfl⟩
    · have e : inW n f t = false := by simp [inW]; omega
      rw [e]
      clear e
      go_enter Tryd.func25, Tryd.ntmps25
      go_wp2
      go_ret
      exact ⟨rfl, rfl⟩
  · have e : inW n f t = false := by simp [inW]; omega
    rw [e]
    clear e
    go_enter Tryd.func25, Tryd.ntmps25
    go_wp2
    go_ret
    exact ⟨rfl, rfl⟩

theorem mayC_in (k n s : Int) : mayC k n s = (inW k 1 6 && (inW n k 10 && inW s 1 24)) := by
  rw [Bool.eq_iff_iff]
  simp only [mayC, inW, Bool.and_eq_true, decide_eq_true_eq]
  omega

set_option maxRecDepth 100000 in
set_option maxHeartbeats 1000000 in
theorem rmay_any (k n s : Int) (w : World) :
    Calls Tryd.prog 13 #[Cd k n s] w fun e w' => e = .returned (.bool (mayC k n s)) ∧ Below w.heap.size w w' := by
  rw [mayC_in]
  have H1 := Hid.intro (within_any k 1 6)
  have H2 := Hid.intro (within_any n k 10)
  have H3 := Hid.intro (within_any s 1 24)
  have HB := Hid.intro ((Below.refl _ w).alloc (Nat.le_refl _) (.cells #[.int .i64 k, .int .i64 n, .int .i64 s] 27))
  rcases e1 : inW k 1 6 with _ | _
  · rw [e1] at H1
    go_enter Tryd.func13, Tryd.ntmps13
    go_wp2_with fail
    refine (H1.out _).mono ?_
    rintro e w1 ⟨rfl, rfl⟩
    go_wp2
    go_ret
    exact ⟨rfl, HB.out⟩
  · rw [e1] at H1
    rcases e2 : inW n k 10 with _ | _
    · rw [e2] at H2
      go_enter Tryd.func13, Tryd.ntmps13
      go_wp2_with fail
      refine (H1.out _).mono ?_
      rintro e w1 ⟨rfl, rfl⟩
      go_wp2_with fail
      refine (H2.out _).mono ?_
      rintro e w1 ⟨rfl, rfl⟩
      go_wp2
      go_ret
      exact ⟨rfl, HB.out⟩
    · rw [e2] at H2
      rcases e3 : inW s 1 24 with _ | _
      all_goals
        rw [e3] at H3
        go_enter Tryd.func13, Tryd.ntmps13
        go_wp2_with fail
        refine (H1.out _).mono ?_
        rintro e w1 ⟨rfl, rfl⟩
        go_wp2_with fail
        refine (H2.out _).mono ?_
        rintro e w1 ⟨rfl, rfl⟩
        go_wp2_with fail
        refine (H3.out _).mono ?_
        rintro e w1 ⟨rfl, rfl⟩
        go_wp2
        go_ret
        exact ⟨rfl, HB.out⟩

/-- The bytes of a text, of a code that may be. -/
theorem textBytes_any (K S : Nat) (n : Int) (L : Nat) (hL : L = K * S) (hb : L ≤ 1000) (w : World) :
    Calls Tryd.prog 29 #[Cd K n S] w fun e w' => e = .returned (.int .i64 (L : Int)) ∧ Below w.heap.size w w' := by
  have hw : IntKind.i64.wrap ((K : Int) * (S : Int)) = (L : Int) := by rw [← Int.natCast_mul, ← hL]; exact IntWalk.i64_in _ (by omega)
  clear hL
  go_enter Tryd.func29, Tryd.ntmps29
  go_wp2
  go_ret
  exact ⟨rfl, (Below.refl _ _).alloc (Nat.le_refl _) _⟩

/-- The product, of a code that may be. -/
theorem may_prod {K n S : Nat} (h : mayC K n S = true) : K * S ≤ 144 := by
  obtain ⟨h1, h2, h3, h4, h5, h6⟩ := mayC_true h
  calc K * S ≤ 6 * S := Nat.mul_le_mul_right _ (by omega)
    _ ≤ 6 * 24 := Nat.mul_le_mul_left _ (by omega)

end Go.Proofs.YthbfdfkkacmbhabDoor
