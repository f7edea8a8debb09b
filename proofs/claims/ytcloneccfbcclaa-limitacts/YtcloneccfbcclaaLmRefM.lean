/- The document's own answer of layer 14: May. -/
import Derived.Test.YtcloneccfbcclaaLmVal
namespace Go.Proofs.Ytcloneccfbcclaa
open Go.RowKit
open Bt

theorem mayL_iff (b k f t c : Int) : mayL ⟨b, k, f, t, c⟩ = true ↔ 0 ≤ b ∧ b < 100 ∧ 1 ≤ k ∧ k ≤ 4 ∧ 0 ≤ f ∧ f ≤ t ∧ t ≤ 999 ∧ 1 ≤ c ∧ c ≤ 100 := by
  simp only [mayL, endL, inL, Bool.and_eq_true, decide_eq_true_eq]
  omega

set_option maxRecDepth 100000 in
set_option maxHeartbeats 4000000 in
theorem refMay14_any (l : Lm) (w : World) :
    Calls Try.prog 19 #[Lv l] w fun e w' => e = .returned (.bool (mayL l)) ∧ Below w.heap.size w w' := by
  obtain ⟨b, k, f, t, c⟩ := l
  have HB := Hid.intro ((Below.refl _ w).alloc (Nat.le_refl _) (.cells #[.int .i64 b, .int .i64 k, .int .i64 f, .int .i64 t, .int .i64 c] 30))
  show Calls Try.prog 19 #[.agg #[.int .i64 b, .int .i64 k, .int .i64 f, .int .i64 t, .int .i64 c]] w fun e w' => e = .returned (.bool (mayL ⟨b, k, f, t, c⟩)) ∧ Below w.heap.size w w'
  by_cases h0 : 0 ≤ b
  case neg =>
    have e : mayL ⟨b, k, f, t, c⟩ = false := by rw [Bool.eq_false_iff, ne_eq, mayL_iff]; omega
    rw [e]
    clear e
    go_enter Try.func19, Try.ntmps19
    go_wp2
    go_ret
    exact ⟨rfl, HB.out⟩
  by_cases h1 : b < 100
  case neg =>
    have e : mayL ⟨b, k, f, t, c⟩ = false := by rw [Bool.eq_false_iff, ne_eq, mayL_iff]; omega
    rw [e]
    clear e
    go_enter Try.func19, Try.ntmps19
    go_wp2
    go_ret
    exact ⟨rfl, HB.out⟩
  by_cases h2 : 1 ≤ k
  case neg =>
    have e : mayL ⟨b, k, f, t, c⟩ = false := by rw [Bool.eq_false_iff, ne_eq, mayL_iff]; omega
    rw [e]
    clear e
    go_enter Try.func19, Try.ntmps19
    go_wp2
    go_ret
    exact ⟨rfl, HB.out⟩
  by_cases h3 : k ≤ 4
  case neg =>
    have e : mayL ⟨b, k, f, t, c⟩ = false := by rw [Bool.eq_false_iff, ne_eq, mayL_iff]; omega
    rw [e]
    clear e
    go_enter Try.func19, Try.ntmps19
    go_wp2
    go_ret
    exact ⟨rfl, HB.out⟩
  by_cases h4 : 0 ≤ f
  case neg =>
    have e : mayL ⟨b, k, f, t, c⟩ = false := by rw [Bool.eq_false_iff, ne_eq, mayL_iff]; omega
    rw [e]
    clear e
    go_enter Try.func19, Try.ntmps19
    go_wp2
    go_ret
    exact ⟨rfl, HB.out⟩
  by_cases h5 : f ≤ t
  case neg =>
    have e : mayL ⟨b, k, f, t, c⟩ = false := by rw [Bool.eq_false_iff, ne_eq, mayL_iff]; omega
    rw [e]
    clear e
    go_enter Try.func19, Try.ntmps19
    go_wp2
    go_ret
    exact ⟨rfl, HB.out⟩
  by_cases h6 : t ≤ 999
  case neg =>
    have e : mayL ⟨b, k, f, t, c⟩ = false := by rw [Bool.eq_false_iff, ne_eq, mayL_iff]; omega
    rw [e]
    clear e
    go_enter Try.func19, Try.ntmps19
    go_wp2
    go_ret
    exact ⟨rfl, HB.out⟩
  by_cases h7 : 1 ≤ c
  case neg =>
    have e : mayL ⟨b, k, f, t, c⟩ = false := by rw [Bool.eq_false_iff, ne_eq, mayL_iff]; omega
    rw [e]
    clear e
    go_enter Try.func19, Try.ntmps19
    go_wp2
    go_ret
    exact ⟨rfl, HB.out⟩
  by_cases h8 : c ≤ 100
  case neg =>
    have e : mayL ⟨b, k, f, t, c⟩ = false := by rw [Bool.eq_false_iff, ne_eq, mayL_iff]; omega
    rw [e]
    clear e
    go_enter Try.func19, Try.ntmps19
    go_wp2
    go_ret
    exact ⟨rfl, HB.out⟩
  have e : mayL ⟨b, k, f, t, c⟩ = true := by rw [mayL_iff]; omega
  rw [e]
  clear e
  go_enter Try.func19, Try.ntmps19
  go_wp2
  go_ret
  exact ⟨rfl, HB.out⟩

end Go.Proofs.Ytcloneccfbcclaa
