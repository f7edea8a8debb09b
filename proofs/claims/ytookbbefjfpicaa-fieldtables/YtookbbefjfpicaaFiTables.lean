/- FieldTables (layer 4): of all numbers and bytes: the tables are the document's; no condition. -/
import Derived.Test.YtookbbefjfpicaaFiAlive
import Derived.Test.YtookbbefjfpicaaArgs
import Derived.Test.YtookbbefjfpicaaRefFour
namespace Go.Proofs.Ytookbbefjfpicaa.LFieldTables
open Go.ChangeShapes Go.WideShapes Go.ChangeAt Go.RowKit
open Bt

set_option maxRecDepth 100000 in
set_option maxHeartbeats 2000000 in
theorem walk_nat (i : Int) (a : Nat) (ha : a < 256) (w : World) :
    Calls Try.prog 4 #[.int .i64 i, .int .u8 (a : Int)] w fun e w' => e = .returned (.bool true) ∧ Below w.heap.size w w' := by
  have HE := Hid.intro (fun w => fexp_any i w)
  have HL := Hid.intro (fun w => flog_any a ha w)
  have HRL := Hid.intro (fun w => refLog_any a ha w)
  generalize rlog a = R at HL HRL
  by_cases h0 : 0 ≤ i
  · by_cases h1 : i < 510
    · obtain ⟨N, rfl⟩ := Int.eq_ofNat_of_zero_le h0
      have HRP := Hid.intro (fun w => refPow_nat 2 N (by decide) (by omega) w)
      rw [gpow_two, ← expA_nat (by omega)] at HRP
      generalize expA (N : Int) = E at HE HRP
      have j0 : (0 : Int) ≤ (N : Int) := by omega
      go_enter Try.func4, Try.ntmps4
      go_wp2_with fail
      refine (alive_any w).mono ?_
      rintro e w1 ⟨rfl, D1⟩
      go_wp2_with fail
      refine (HRP.out w1).mono ?_
      rintro e wz ⟨rfl, rfl⟩
      go_wp2_with fail
      refine (HE.out w1).mono ?_
      rintro e w3 ⟨rfl, B3⟩
      have D3 := D1.trans (B3.mono D1.size)
      clear B3 D1
      go_wp2_with fail
      refine (HL.out w3).mono ?_
      rintro e w4 ⟨rfl, B4⟩
      have D4 := D3.trans (B4.mono D3.size)
      clear B4 D3
      go_wp2_with fail
      refine (HRL.out w4).mono ?_
      rintro e wz ⟨rfl, rfl⟩
      go_wp2
      go_ret
      exact ⟨rfl, D4⟩
    · have e : expA i = 0 := by unfold expA; rw [if_neg (by omega)]
      rw [e] at HE
      have j1 : decide (i < 510) = false := by simp; omega
      go_enter Try.func4, Try.ntmps4
      go_wp2_with fail
      refine (alive_any w).mono ?_
      rintro e w1 ⟨rfl, D1⟩
      go_wp2_with fail
      refine (HE.out w1).mono ?_
      rintro e w2 ⟨rfl, B2⟩
      have D2 := D1.trans (B2.mono D1.size)
      clear B2 D1
      go_wp2_with fail
      refine (HL.out w2).mono ?_
      rintro e w3 ⟨rfl, B3⟩
      have D3 := D2.trans (B3.mono D2.size)
      clear B3 D2
      go_wp2_with fail
      refine (HRL.out w3).mono ?_
      rintro e wz ⟨rfl, rfl⟩
      go_wp2
      go_ret
      exact ⟨rfl, D3⟩
  · have e : expA i = 0 := by unfold expA; rw [if_neg (by omega)]
    rw [e] at HE
    have j0 : decide (0 ≤ i) = false := by simp; omega
    go_enter Try.func4, Try.ntmps4
    go_wp2_with fail
    refine (alive_any w).mono ?_
    rintro e w1 ⟨rfl, D1⟩
    go_wp2_with fail
    refine (HE.out w1).mono ?_
    rintro e w2 ⟨rfl, B2⟩
    have D2 := D1.trans (B2.mono D1.size)
    clear B2 D1
    go_wp2_with fail
    refine (HL.out w2).mono ?_
    rintro e w3 ⟨rfl, B3⟩
    have D3 := D2.trans (B3.mono D2.size)
    clear B3 D2
    go_wp2_with fail
    refine (HRL.out w3).mono ?_
    rintro e wz ⟨rfl, rfl⟩
    go_wp2
    go_ret
    exact ⟨rfl, D3⟩

theorem walk (i a : Int) (w : World) (_hi : (Lit.int .i64 i).wf = true) (ha : (Lit.int .u8 a).wf = true) :
    Calls Try.prog 4 #[.int .i64 i, .int .u8 a] w fun e w' => e = .returned (.bool true) ∧ Below w.heap.size w w' := by
  have ba := bounds_u8 ha
  obtain ⟨A, rfl⟩ := Int.eq_ofNat_of_zero_le ba.1
  exact walk_nat i A (by omega) w

set_option maxRecDepth 100000 in
theorem lifted (os : Os) (started : os.Started) (H : Type) (enc : TypeId × Value → H) :
    ReturnsInHanded {} Try.checked os 4 .any (Rows.fieldTablesSpec.pre6 enc Try.prog Try.f4 Rows.fieldTablesRow.domain false) (Rows.fieldTablesSpec.post enc Try.prog Try.f4 false true false false) := by
  refine returnsInHanded_of_change (C := Try.checked) own started (by kernel_rfl) Try.func4
    (ChangeSpec.witness6 (enc := enc) (C := Try.checked) false ⟨#[], #[.int .i64 0, .int .u8 0], []⟩ 8 (by kernel_rfl) (by kernel_rfl) (by kernel_rfl) (by kernel_rfl)) ?_
  intro W base args ds gs before hval0 hW hcnd _
  have hval : ∀ (j : Nat) t v, Try.f4.params[j]? = some t → args[j]? = some v → Value.okWide Try.prog W .any base t v := hval0
  have hW' := hW
  obtain ⟨p, q, hA0, hV, rfl, hfz, hnd⟩ := hW
  have hA : DataW.TrodAll enc Try.prog W 0 (fun _ => true) true Try.f4.params.toList args.toList ds p := hA0
  rw [Try.params4] at hA hval
  obtain ⟨v0, vs0, d0, ds0, p0, q0, hargs, rfl, rfl, h0, r0⟩ := trodAll_cons hA
  obtain ⟨v1, vs1, d1, ds1, p1, q1, rfl, rfl, rfl, h1, r1⟩ := trodAll_cons r0
  obtain ⟨rfl, rfl, rfl⟩ := trodAll_nil r1
  obtain rfl : args = #[v0, v1] := by cases args; simp_all
  obtain ⟨rfl, rfl⟩ := trodVars_none hV
  obtain ⟨a0, rfl, rfl, rfl, w0⟩ := open_int Try.underlying3 (hval 0 3 v0 rfl rfl) h0
  obtain ⟨a1, rfl, rfl, rfl, w1⟩ := open_int Try.underlying5 (hval 1 5 v1 rfl rfl) h1
  clear hA0 hval0
  refine (walk a0 a1 W w0 w1).mono fun e W' ⟨he, bel⟩ => ?_
  subst he
  exact ⟨_, rfl, _, _, _, [], _, [], hW', trodAll_mk1 (shut_bool Try.underlying4 _), (trodAll_cons_mk (shut_int Try.underlying3 w0) (trodAll_cons_mk (shut_int Try.underlying5 w1) trodAll_mk0)), rfl, bel.frame _, fun h => by cases h⟩

theorem over : Rows.fieldTablesRow.holds Try.pinned (OpenSpec.ofChange Rows.fieldTablesSpec) :=
  OpenClaim.holds_of_wide 4 Try.f4 rfl rfl rfl rfl rfl rfl rfl ⟨rfl, rfl, rfl, rfl, rfl⟩ rfl rfl rfl rfl rfl (by kernel_rfl) Try.func4 (by kernel_rfl)
    (of_decide_eq_true (by kernel_rfl)) (by unfold Func.isWrapper; first | (rw [if_pos (by decide +kernel)]; kernel_rfl) | (rw [if_neg (by decide +kernel)]; exact ⟨rfl, rfl⟩))
    (fun os started H enc _ => lifted os started H enc)

end Go.Proofs.Ytookbbefjfpicaa.LFieldTables

namespace Go.Proofs.Ytookbbefjfpicaa
theorem fieldTables_holds : Rows.FieldTablesSaid := LFieldTables.over
#print axioms fieldTables_holds
end Go.Proofs.Ytookbbefjfpicaa
