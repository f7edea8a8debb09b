/- Package shed: Looked. -/
import Derived.Test.YthfmgdhhjnngaaaShK1
namespace Go.Proofs.Ythfmgdhhjnngaaa
open Go.RowKit
open Bt

set_option maxRecDepth 100000 in
theorem hlooked_any (v p : Int) (hp : p ≤ 9223372036854775807) (w : World) :
    Calls Try.prog 22 #[.int .i64 v, .int .i64 p] w fun e w' => e = .returned (.bool (lookS v p)) ∧ Below w.heap.size w w' := by
  by_cases h0 : p < 0
  · have e : lookS v p = false := by unfold lookS; rw [if_pos h0]
    rw [e]
    go_enter Try.func22, Try.ntmps22
    go_wp2
    go_ret
    exact ⟨rfl, Below.refl _ _⟩
  · have h0' : 0 ≤ p := by omega
    by_cases v0 : v = 0
    · have e : lookS v p = true := by unfold lookS; rw [if_neg h0, if_pos v0]
      rw [e]
      subst v0
      go_enter Try.func22, Try.ntmps22
      go_wp2
      go_ret
      exact ⟨rfl, Below.refl _ _⟩
    · have z0 : (v == 0) = false := by rw [beq_eq_false_iff_ne]; exact v0
      by_cases v1 : v = 1
      · have e : lookS v p = (p % 2 == 0) := by unfold lookS; rw [if_neg h0, if_neg v0, if_pos v1]; rfl
        rw [e]
        subst v1
        obtain ⟨P, rfl⟩ := Int.eq_ofNat_of_zero_le h0'
        go_enter Try.func22, Try.ntmps22
        go_wp2
        go_ret
        exact ⟨rfl, Below.refl _ _⟩
      · have z1 : (v == 1) = false := by rw [beq_eq_false_iff_ne]; exact v1
        by_cases v2 : v = 2
        · have e : lookS v p = (p % 4 == 0) := by unfold lookS; rw [if_neg h0, if_neg v0, if_neg v1, if_pos v2]; rfl
          rw [e]
          subst v2
          obtain ⟨P, rfl⟩ := Int.eq_ofNat_of_zero_le h0'
          go_enter Try.func22, Try.ntmps22
          go_wp2
          go_ret
          exact ⟨rfl, Below.refl _ _⟩
        · have z2 : (v == 2) = false := by rw [beq_eq_false_iff_ne]; exact v2
          have e : lookS v p = false := by unfold lookS; rw [if_neg h0, if_neg v0, if_neg v1, if_neg v2]
          rw [e]
          go_enter Try.func22, Try.ntmps22
          go_wp2
          go_ret
          exact ⟨rfl, Below.refl _ _⟩

end Go.Proofs.Ythfmgdhhjnngaaa
