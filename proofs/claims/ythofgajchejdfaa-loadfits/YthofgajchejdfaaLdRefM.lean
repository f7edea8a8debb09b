/- The document's own answer of layer 11: May. -/
import Derived.Test.YthofgajchejdfaaLdSm
namespace Go.Proofs.Ythofgajchejdfaa
open Go.RowKit
open Bt

/-- May a bed be, step by step. -/
def resB (i x c t q : Int) : Bool := decide (0 ≤ i) && (decide (i < 100) && (decide (0 ≤ x) && (decide (x < 256) && (decide (0 < c) && (decide (c ≤ 100) && (decide (0 < t) && (decide (t ≤ 1000) && (decide (0 ≤ q) && decide (q < 10)))))))))

theorem mayB_parts (i x p c t q : Int) : mayB ⟨i, x, p, c, t, q⟩ = (perB p && resB i x c t q) := by
  rw [Bool.eq_iff_iff]
  simp only [mayB, perB, resB, Bool.and_eq_true, decide_eq_true_eq]
  omega

set_option maxRecDepth 100000 in
set_option maxHeartbeats 4000000 in
theorem refMay11_in (i x p c t q : Int) (w : World) :
    Calls Try.prog 12 #[.agg #[.int .i64 i, .int .i64 x, .int .i64 p, .int .i64 c, .int .i64 t, .int .i64 q]] w fun e w' => e = .returned (.bool (mayB ⟨i, x, p, c, t, q⟩)) ∧ Below w.heap.size w w' := by
  have HB := Hid.intro ((Below.refl _ w).alloc (Nat.le_refl _) (.cells #[.int .i64 i, .int .i64 x, .int .i64 p, .int .i64 c, .int .i64 t, .int .i64 q] 27))
  rw [mayB_parts]
  by_cases h1 : 1 ≤ p
  case neg =>
    have e : perB p = false := decide_eq_false (fun q => h1 q.1)
    rw [e, Bool.false_and]
    have h1' : p < 1 := by omega
    clear e h1
    go_enter Try.func12, Try.ntmps12
    go_wp2
    go_ret
    exact ⟨rfl, HB.out⟩
  by_cases h2 : p ≤ 60
  case neg =>
    have e : perB p = false := decide_eq_false (fun q => h2 q.2.1)
    rw [e, Bool.false_and]
    have h1' : ¬ p < 1 := by omega
    have h2' : 60 < p := by omega
    clear e h1 h2
    go_enter Try.func12, Try.ntmps12
    go_wp2
    go_ret
    exact ⟨rfl, HB.out⟩
  have h1' : ¬ p < 1 := by omega
  have h2' : ¬ 60 < p := by omega
  have z : (p == 0) = false := by rw [beq_eq_false_iff_ne]; omega
  have hm1 : 0 ≤ (60 : Int) % p := Int.emod_nonneg _ (by omega)
  have hm2 : (60 : Int) % p < 60 + 1 := by
    have := Int.emod_lt_of_pos (60 : Int) (show 0 < p by omega)
    omega
  by_cases h3 : 60 % p = 0
  case neg =>
    have e : perB p = false := decide_eq_false (fun q => h3 q.2.2)
    rw [e, Bool.false_and]
    obtain ⟨m, hm⟩ : ∃ m, m = (60 : Int) % p := ⟨_, rfl⟩
    rw [← hm] at h3 hm1 hm2
    have ht : (60 : Int).tmod p = m := by rw [hm]; exact Int.tmod_eq_emod_of_nonneg (by decide)
    have ht2 : (60 : Int) % p = m := hm.symm
    have hb : (m != 0) = true := by rw [bne_iff_ne]; exact h3
    clear e hm h1 h2
    go_enter Try.func12, Try.ntmps12
    go_wp2
    go_ret
    exact ⟨rfl, HB.out⟩
  have e : perB p = true := decide_eq_true ⟨h1, h2, h3⟩
  rw [e, Bool.true_and]
  have ht : (60 : Int).tmod p = 0 := by rw [Int.tmod_eq_emod_of_nonneg (by decide)]; exact h3
  clear e h1 h2 hm1 hm2
  unfold resB
  go_enter Try.func12, Try.ntmps12
  go_wp2
  all_goals
    go_ret
    exact ⟨by simp [*] <;> omega, HB.out⟩

theorem refMay11_any (b : Bdd) (w : World) :
    Calls Try.prog 12 #[Bv b] w fun e w' => e = .returned (.bool (mayB b)) ∧ Below w.heap.size w w' := refMay11_in b.bid b.tx b.period b.cost b.watch b.prio w

end Go.Proofs.Ythofgajchejdfaa
