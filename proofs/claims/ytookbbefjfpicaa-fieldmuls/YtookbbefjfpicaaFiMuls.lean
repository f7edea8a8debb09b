/- FieldMuls (layer 4): of all bytes and numbers (above 600 unasked): every sum, product, inverse, quotient and power is the document's; no condition. -/
import Derived.Test.YtookbbefjfpicaaFiAlive
import Derived.Test.YtookbbefjfpicaaFldD
import Derived.Test.YtookbbefjfpicaaArgs
import Derived.Test.YtookbbefjfpicaaRefFour
namespace Go.Proofs.Ytookbbefjfpicaa.LFieldMuls
open Go.ChangeShapes Go.WideShapes Go.ChangeAt Go.RowKit
open Bt

set_option maxRecDepth 100000 in
set_option maxHeartbeats 2000000 in
theorem walk_nat (a b : Nat) (n : Int) (ha : a < 256) (hb : b < 256) (w : World) :
    Calls Try.prog 3 #[.int .u8 (a : Int), .int .u8 (b : Int), .int .i64 n] w fun e w' => e = .returned (.bool true) ∧ Below w.heap.size w w' := by
  by_cases h600 : 600 < n
  · go_enter Try.func3, Try.ntmps3
    go_wp2_with fail
    refine (alive_any w).mono ?_
    rintro e w1 ⟨rfl, D1⟩
    go_wp2
    go_ret
    exact ⟨rfl, D1⟩
  have j : decide ((600 : Int) < n) = false := by simp; omega
  have HX := Hid.intro (fun w => fadd_any a b ha hb w)
  have hx := fu8_xor a b ha hb
  have HM := Hid.intro (fun w => fmul_any a b ha hb w)
  have HRM := Hid.intro (fun w => refMul_any a b ha hb w)
  have HI := Hid.intro (fun w => finv_any a ha w)
  have HRI := Hid.intro (fun w => refInv_any a ha w)
  have HD := Hid.intro (fun w => fdiv_any a b ha hb w)
  have HRJ := Hid.intro (fun w => refInv_any b hb w)
  have HRD := Hid.intro (fun w => refMul_any a (ginv b) ha (ginv_lt b) w)
  have HP := Hid.intro (fun w => fpow_any a n ha w)
  have HRP := Hid.intro (fun w => refPow_any a n ha (by omega) w)
  generalize a ^^^ b = X at HX hx
  generalize gmul a b = M at HM HRM
  generalize gmul a (ginv b) = Q at HD HRD
  generalize ginv a = I at HI HRI
  generalize ginv b = J at HRJ HRD
  generalize powA a n = P at HP HRP
  go_enter Try.func3, Try.ntmps3
  go_wp2_with fail
  refine (alive_any w).mono ?_
  rintro e w1 ⟨rfl, D1⟩
  go_wp2_with fail
  refine (HX.out w1).mono ?_
  rintro e w2 ⟨rfl, B2⟩
  have D2 := D1.trans (B2.mono D1.size)
  clear B2 D1
  go_wp2_with fail
  refine (HM.out w2).mono ?_
  rintro e w3 ⟨rfl, B3⟩
  have D3 := D2.trans (B3.mono D2.size)
  clear B3 D2
  go_wp2_with fail
  refine (HRM.out w3).mono ?_
  rintro e wz ⟨rfl, rfl⟩
  go_wp2_with fail
  refine (HI.out w3).mono ?_
  rintro e w5 ⟨rfl, B5⟩
  have D5 := D3.trans (B5.mono D3.size)
  clear B5 D3
  go_wp2_with fail
  refine (HRI.out w5).mono ?_
  rintro e wz ⟨rfl, rfl⟩
  go_wp2_with fail
  refine (HD.out w5).mono ?_
  rintro e w7 ⟨rfl, B7⟩
  have D7 := D5.trans (B7.mono D5.size)
  clear B7 D5
  go_wp2_with fail
  refine (HRJ.out w7).mono ?_
  rintro e wz ⟨rfl, rfl⟩
  go_wp2_with fail
  refine (HRD.out w7).mono ?_
  rintro e wz ⟨rfl, rfl⟩
  go_wp2_with fail
  refine (HP.out w7).mono ?_
  rintro e w10 ⟨rfl, B10⟩
  have D10 := D7.trans (B10.mono D7.size)
  clear B10 D7
  go_wp2_with fail
  refine (HRP.out w10).mono ?_
  rintro e wz ⟨rfl, rfl⟩
  go_wp2
  go_ret
  exact ⟨rfl, D10⟩

theorem walk (a b n : Int) (w : World) (ha : (Lit.int .u8 a).wf = true) (hb : (Lit.int .u8 b).wf = true) (_hn : (Lit.int .i64 n).wf = true) :
    Calls Try.prog 3 #[.int .u8 a, .int .u8 b, .int .i64 n] w fun e w' => e = .returned (.bool true) ∧ Below w.heap.size w w' := by
  have ba := bounds_u8 ha
  have bb := bounds_u8 hb
  obtain ⟨A, rfl⟩ := Int.eq_ofNat_of_zero_le ba.1
  obtain ⟨B, rfl⟩ := Int.eq_ofNat_of_zero_le bb.1
  exact walk_nat A B n (by omega) (by omega) w

set_option maxRecDepth 100000 in
theorem lifted (os : Os) (started : os.Started) (H : Type) (enc : TypeId × Value → H) :
    ReturnsInHanded {} Try.checked os 3 .any (Rows.fieldMulsSpec.pre6 enc Try.prog Try.f3 Rows.fieldMulsRow.domain false) (Rows.fieldMulsSpec.post enc Try.prog Try.f3 false true false false) := by
  refine returnsInHanded_of_change (C := Try.checked) own started (by kernel_rfl) Try.func3
    (ChangeSpec.witness6 (enc := enc) (C := Try.checked) false ⟨#[], #[.int .u8 0, .int .u8 0, .int .i64 0], []⟩ 8 (by kernel_rfl) (by kernel_rfl) (by kernel_rfl) (by kernel_rfl)) ?_
  intro W base args ds gs before hval0 hW hcnd _
  have hval : ∀ (j : Nat) t v, Try.f3.params[j]? = some t → args[j]? = some v → Value.okWide Try.prog W .any base t v := hval0
  have hW' := hW
  obtain ⟨p, q, hA0, hV, rfl, hfz, hnd⟩ := hW
  have hA : DataW.TrodAll enc Try.prog W 0 (fun _ => true) true Try.f3.params.toList args.toList ds p := hA0
  rw [Try.params3] at hA hval
  obtain ⟨v0, vs0, d0, ds0, p0, q0, hargs, rfl, rfl, h0, r0⟩ := trodAll_cons hA
  obtain ⟨v1, vs1, d1, ds1, p1, q1, rfl, rfl, rfl, h1, r1⟩ := trodAll_cons r0
  obtain ⟨v2, vs2, d2, ds2, p2, q2, rfl, rfl, rfl, h2, r2⟩ := trodAll_cons r1
  obtain ⟨rfl, rfl, rfl⟩ := trodAll_nil r2
  obtain rfl : args = #[v0, v1, v2] := by cases args; simp_all
  obtain ⟨rfl, rfl⟩ := trodVars_none hV
  obtain ⟨a0, rfl, rfl, rfl, w0⟩ := open_int Try.underlying5 (hval 0 5 v0 rfl rfl) h0
  obtain ⟨a1, rfl, rfl, rfl, w1⟩ := open_int Try.underlying5 (hval 1 5 v1 rfl rfl) h1
  obtain ⟨a2, rfl, rfl, rfl, w2⟩ := open_int Try.underlying3 (hval 2 3 v2 rfl rfl) h2
  clear hA0 hval0
  refine (walk a0 a1 a2 W w0 w1 w2).mono fun e W' ⟨he, bel⟩ => ?_
  subst he
  exact ⟨_, rfl, _, _, _, [], _, [], hW', trodAll_mk1 (shut_bool Try.underlying4 _), (trodAll_cons_mk (shut_int Try.underlying5 w0) (trodAll_cons_mk (shut_int Try.underlying5 w1) (trodAll_cons_mk (shut_int Try.underlying3 w2) trodAll_mk0))), rfl, bel.frame _, fun h => by cases h⟩

theorem over : Rows.fieldMulsRow.holds Try.pinned (OpenSpec.ofChange Rows.fieldMulsSpec) :=
  OpenClaim.holds_of_wide 3 Try.f3 rfl rfl rfl rfl rfl rfl rfl ⟨rfl, rfl, rfl, rfl, rfl⟩ rfl rfl rfl rfl rfl (by kernel_rfl) Try.func3 (by kernel_rfl)
    (of_decide_eq_true (by kernel_rfl)) (by unfold Func.isWrapper; first | (rw [if_pos (by decide +kernel)]; kernel_rfl) | (rw [if_neg (by decide +kernel)]; exact ⟨rfl, rfl⟩))
    (fun os started H enc _ => lifted os started H enc)

end Go.Proofs.Ytookbbefjfpicaa.LFieldMuls

namespace Go.Proofs.Ytookbbefjfpicaa
theorem fieldMuls_holds : Rows.FieldMulsSaid := LFieldMuls.over
#print axioms fieldMuls_holds
end Go.Proofs.Ytookbbefjfpicaa
