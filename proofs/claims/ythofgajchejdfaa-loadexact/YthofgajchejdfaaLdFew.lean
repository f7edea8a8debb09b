/- The laws' own 'few' of layer 11. -/
import Derived.Test.YthofgajchejdfaaLdAlive
namespace Go.Proofs.Ythofgajchejdfaa
open Go.RowKit
open Bt

def fewB (L : Nat) (cap : Int) : Bool := decide (L ≤ 20) && (decide (0 ≤ cap) && decide (cap ≤ 10000))

theorem few11_any (ao : Option Addr) (L c : Nat) (cap : Int) (w : World) :
    Calls Try.prog 10 #[.slice ao L c, .int .i64 cap] w fun e w' => e = .returned (.bool (fewB L cap)) ∧ w = w' := by
  unfold fewB
  by_cases h1 : L ≤ 20
  · have z : (L : Int) ≤ 20 := by omega
    by_cases h2 : 0 ≤ cap
    · by_cases h3 : cap ≤ 10000
      · go_enter Try.func10, Try.ntmps10
        go_wp2
        go_ret
        exact ⟨by simp [*], rfl⟩
      · go_enter Try.func10, Try.ntmps10
        go_wp2
        go_ret
        exact ⟨by simp [*], rfl⟩
    · go_enter Try.func10, Try.ntmps10
      go_wp2
      go_ret
      exact ⟨by simp [*] <;> omega, rfl⟩
  · have z : ¬ (L : Int) ≤ 20 := by omega
    go_enter Try.func10, Try.ntmps10
    go_wp2
    go_ret
    exact ⟨by simp [*], rfl⟩

theorem fewB_true {L : Nat} {cap : Int} (h : fewB L cap = true) : L ≤ 20 ∧ 0 ≤ cap ∧ cap ≤ 10000 := by
  unfold fewB at h
  simp only [Bool.and_eq_true, decide_eq_true_eq] at h
  exact h

end Go.Proofs.Ythofgajchejdfaa
