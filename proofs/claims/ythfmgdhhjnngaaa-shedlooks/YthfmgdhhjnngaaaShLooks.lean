/- The statement ShedLooks: whether every point is looked at, at every level, is the document's. -/
import Derived.Test.YthfmgdhhjnngaaaShAlive
import Derived.Test.YthfmgdhhjnngaaaShRng
import Derived.Test.YthfmgdhhjnngaaaArgs
namespace Go.Proofs.Ythfmgdhhjnngaaa
open Go.ChangeShapes Go.WideShapes Go.ChangeAt Go.RowKit
open Bt

set_option maxRecDepth 100000 in
set_option maxHeartbeats 1000000 in
theorem refLooked13_any (v p : Int) (hp : p ≤ 9223372036854775807) (w : World) :
    Calls Try.prog 23 #[.int .i64 v, .int .i64 p] w fun e w' => e = .returned (.bool (lookS v p)) ∧ Below w.heap.size w w' := by
  obtain ⟨R, hR⟩ : ∃ R, R = lookS v p := ⟨_, rfl⟩
  have HR := Hid.intro hR
  rw [← hR]
  clear hR
  by_cases v0 : v < 0
  · have e : R = false := by rw [HR.out]; unfold lookS; split; rfl; rw [if_neg (by omega), if_neg (by omega), if_neg (by omega)]
    subst e
    go_enter Try.func23, Try.ntmps23
    go_wp2
    go_ret
    exact ⟨rfl, Below.refl _ _⟩
  by_cases v2 : 2 < v
  · have e : R = false := by rw [HR.out]; unfold lookS; split; rfl; rw [if_neg (by omega), if_neg (by omega), if_neg (by omega)]
    subst e
    go_enter Try.func23, Try.ntmps23
    go_wp2
    go_ret
    exact ⟨rfl, Below.refl _ _⟩
  by_cases p0 : p < 0
  · have e : R = false := by rw [HR.out]; unfold lookS; rw [if_pos p0]
    subst e
    go_enter Try.func23, Try.ntmps23
    go_wp2
    go_ret
    exact ⟨rfl, Below.refl _ _⟩
  obtain ⟨V, rfl⟩ := Int.eq_ofNat_of_zero_le (show 0 ≤ v by omega)
  obtain ⟨P, rfl⟩ := Int.eq_ofNat_of_zero_le (show 0 ≤ p by omega)
  have hV : V ≤ 2 := by omega
  have RE : Hid (R = decide ((P : Int) % ((2 ^ V : Nat) : Int) = 0)) := by
    show R = _
    rw [HR.out]
    unfold lookS
    rw [if_neg p0]
    have : V = 0 ∨ V = 1 ∨ V = 2 := by omega
    rcases this with e | e | e
    · subst e; simp [Int.emod_one]
    · subst e; rfl
    · subst e; rfl
  clear HR p0 v0 v2
  have p1 : (0 : Int) ≤ (P : Int) := by omega
  have v1 : ¬ (V : Int) < 0 := by omega
  have v3 : ¬ (2 : Int) < (V : Int) := by omega
  go_enter Try.func23, Try.ntmps23
  go_wp2_with fail
  go_loop [5, 6] (fun sv iv => ∃ t : Nat, t ≤ V ∧ iv = .int .i64 t ∧ sv = .int .i64 ((2 ^ t : Nat) : Int)) (fun _ iv => V - (intOf iv).toNat)
  case atStart => exact ⟨0, by omega, rfl, rfl⟩
  case round =>
    obtain ⟨t, ht, rfl, rfl⟩ := hrel
    by_cases hlt : t < V
    · have t1 : (t : Int) < (V : Int) := by omega
      have ht2 : t = 0 ∨ t = 1 := by omega
      have PW : Hid (((2 ^ (t + 1) : Nat) : Int) = ((2 ^ t : Nat) : Int) * 2) := by show _ = _; rw [Nat.pow_succ]; omega
      have b1 : 2 ^ t ≤ 2 := by rcases ht2 with e | e <;> subst e <;> decide
      generalize 2 ^ t = s at *
      go_wp2
      go_round
      case rel => exact ⟨t + 1, by omega, by go_num, by rw [PW.out]⟩
      case measure => simp [intOf]; omega
    · obtain rfl : t = V := by omega
      have t1 : ¬ (t : Int) < (t : Int) := by omega
      have b1 : 1 ≤ 2 ^ t ∧ 2 ^ t ≤ 4 := by
        have : t = 0 ∨ t = 1 ∨ t = 2 := by omega
        rcases this with e | e | e <;> subst e <;> decide
      obtain ⟨b2, b3⟩ := b1
      generalize 2 ^ t = s at *
      have s0 : ¬ (s : Int) = 0 := by omega
      go_wp2
      go_ret
      exact ⟨by rw [RE.out]; rfl, Below.refl _ _⟩

namespace LShedLooks

theorem walk (v p : Int) (w : World) (_ : (Lit.int .i64 v).wf = true) (hp : (Lit.int .i64 p).wf = true) :
    Calls Try.prog 4 #[.int .i64 v, .int .i64 p] w fun e w' => e = .returned (.bool true) ∧ Below w.heap.size w w' := by
  have p63 : p ≤ 9223372036854775807 := (num_rangeS hp).2
  have AL := Hid.intro (alive13_any w)
  have LK := Hid.intro (hlooked_any v p p63)
  have RL := Hid.intro (refLooked13_any v p p63)
  generalize lookS v p = r at *
  clear hp p63
  go_enter Try.func4, Try.ntmps4
  go_wp2_with fail
  refine AL.out.mono ?_
  rintro e w1 ⟨rfl, B1⟩
  have B1H := Hid.intro B1
  clear AL B1
  go_wp2_with fail
  refine (LK.out w1).mono ?_
  rintro e w2 ⟨rfl, B2⟩
  have B2H := Hid.intro (B1H.out.trans (B2.mono B1H.out.size))
  clear LK B2 B1H
  go_wp2_with fail
  refine (RL.out w2).mono ?_
  rintro e w3 ⟨rfl, B3⟩
  have B3H := Hid.intro (B2H.out.trans (B3.mono B2H.out.size))
  clear RL B3 B2H
  have rr : (r == r) = true := by simp
  go_wp2
  go_ret
  exact ⟨by simp, B3H.out⟩

set_option maxRecDepth 100000 in
theorem lifted (os : Os) (started : os.Started) (H : Type) (enc : TypeId × Value → H) :
    ReturnsInHanded {} Try.checked os 4 .any (Rows.shedLooksSpec.pre6 enc Try.prog Try.f4 Rows.shedLooksRow.domain false) (Rows.shedLooksSpec.post enc Try.prog Try.f4 false true false false) := by
  refine returnsInHanded_of_change (C := Try.checked) own started (by kernel_rfl) Try.func4
    (ChangeSpec.witness6 (enc := enc) (C := Try.checked) false ⟨#[], #[.int .i64 0, .int .i64 0], []⟩ 8 (by kernel_rfl) (by kernel_rfl) (by kernel_rfl) (by kernel_rfl)) ?_
  intro W base args ds gs before hval0 hW hcnd _
  have hval : ∀ (j : Nat) t v, Try.f4.params[j]? = some t → args[j]? = some v → Value.okWide Try.prog W .any base t v := hval0
  have hW' := hW
  obtain ⟨p, q, hA0, hV, rfl, hfz, hnd⟩ := hW
  have hA : DataW.TrodAll enc Try.prog W 0 (fun _ => true) true Try.f4.params.toList args.toList ds p := hA0
  rw [Try.params4] at hA hval
  obtain ⟨v0, vs0, d0, ds0, p0, q0, hargs, rfl, rfl, h0, r0⟩ := trodAll_cons hA
  obtain ⟨v1, vs1, d1, ds1, p1, q1, rfl, rfl, rfl, h1, r1⟩ := trodAll_cons r0
  obtain ⟨rfl, rfl, rfl⟩ := trodAll_nil r1
  obtain rfl : args = #[v0, v1] := by cases args; simp_all
  obtain ⟨rfl, rfl⟩ := trodVars_none hV
  obtain ⟨a0, rfl, rfl, rfl, w0⟩ := open_int Try.underlying3 (hval 0 3 v0 rfl rfl) h0
  obtain ⟨a1, rfl, rfl, rfl, w1⟩ := open_int Try.underlying3 (hval 1 3 v1 rfl rfl) h1
  clear hA0 hval0
  refine (walk a0 a1 W w0 w1).mono fun e W' ⟨he, bel⟩ => ?_
  subst he
  exact ⟨_, rfl, _, _, _, [], _, [], hW', trodAll_mk1 (shut_bool Try.underlying4 _), (trodAll_cons_mk (shut_int Try.underlying3 w0) (trodAll_cons_mk (shut_int Try.underlying3 w1) trodAll_mk0)), rfl, bel.frame _, fun h => by cases h⟩

theorem over : Rows.shedLooksRow.holds Try.pinned (OpenSpec.ofChange Rows.shedLooksSpec) :=
  OpenClaim.holds_of_wide 4 Try.f4 rfl rfl rfl rfl rfl rfl rfl ⟨rfl, rfl, rfl, rfl, rfl⟩ rfl rfl rfl rfl rfl (by kernel_rfl) Try.func4 (by kernel_rfl)
    (of_decide_eq_true (by kernel_rfl)) (by unfold Func.isWrapper; first | (rw [if_pos (by decide +kernel)]; kernel_rfl) | (rw [if_neg (by decide +kernel)]; exact ⟨rfl, rfl⟩))
    (fun os started H enc _ => lifted os started H enc)

end Go.Proofs.Ythfmgdhhjnngaaa.LShedLooks

namespace Go.Proofs.Ythfmgdhhjnngaaa
theorem shedLooks_holds : Rows.ShedLooksSaid := LShedLooks.over
#print axioms shedLooks_holds
end Go.Proofs.Ythfmgdhhjnngaaa
