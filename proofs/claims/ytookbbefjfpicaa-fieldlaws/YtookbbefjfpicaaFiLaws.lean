/- FieldLaws (layer 4): of all bytes: the laws of a field hold; no condition. -/
import Derived.Test.YtookbbefjfpicaaFiAlive
import Derived.Test.YtookbbefjfpicaaFldD
import Derived.Test.YtookbbefjfpicaaArgs
namespace Go.Proofs.Ytookbbefjfpicaa.LFieldLaws
open Go.ChangeShapes Go.WideShapes Go.ChangeAt Go.RowKit
open Bt

set_option maxRecDepth 100000 in
set_option maxHeartbeats 2000000 in
theorem walk_nat (a b c : Nat) (ha : a < 256) (hb : b < 256) (hc : c < 256) (w : World) :
    Calls Try.prog 5 #[.int .u8 (a : Int), .int .u8 (b : Int), .int .u8 (c : Int)] w fun e w' => e = .returned (.bool true) ∧ Below w.heap.size w w' := by
  have HM := Hid.intro (fun w => fmul_any a b ha hb w)
  have HMc := Hid.intro (fun w => fmul_any b a hb ha w)
  rw [gmul_comm hb ha] at HMc
  have HP := Hid.intro (fun w => fmul_any (gmul a b) c (gmul_lt ha b) hc w)
  have HN := Hid.intro (fun w => fmul_any b c hb hc w)
  have HPa := Hid.intro (fun w => fmul_any a (gmul b c) ha (gmul_lt hb c) w)
  rw [← gmul_assoc ha hb] at HPa
  have HS := Hid.intro (fun w => fadd_any b c hb hc w)
  have HQ := Hid.intro (fun w => fmul_any a (b ^^^ c) ha (xor_lt8 hb hc) w)
  rw [gmul_xor] at HQ
  have HK := Hid.intro (fun w => fmul_any a c ha hc w)
  have HX := Hid.intro (fun w => fadd_any (gmul a b) (gmul a c) (gmul_lt ha b) (gmul_lt ha c) w)
  have HO := Hid.intro (fun w => fmul_any a 1 ha (by decide) w)
  rw [gmul_one ha] at HO
  by_cases a0 : a = 0
  · have ja : ((a : Int) == 0) = true := by rw [a0]; rfl
    clear a0
    generalize b ^^^ c = S at HS HQ
    generalize gmul (gmul a b) c = P at HP HPa
    generalize gmul a b ^^^ gmul a c = Q at HQ HX
    generalize gmul b c = N at HN HPa
    generalize gmul a c = K at HK HX
    generalize gmul a b = M at HM HMc HP HX
    go_enter Try.func5, Try.ntmps5
    go_wp2_with fail
    refine (alive_any w).mono ?_
    rintro e w1 ⟨rfl, D1⟩
    go_wp2_with fail
    refine (HM.out w1).mono ?_
    rintro e w2 ⟨rfl, B2⟩
    have D2 := D1.trans (B2.mono D1.size)
    clear B2 D1
    go_wp2_with fail
    refine (HMc.out w2).mono ?_
    rintro e w3 ⟨rfl, B3⟩
    have D3 := D2.trans (B3.mono D2.size)
    clear B3 D2
    go_wp2_with fail
    refine (HM.out w3).mono ?_
    rintro e w4 ⟨rfl, B4⟩
    have D4 := D3.trans (B4.mono D3.size)
    clear B4 D3
    go_wp2_with fail
    refine (HP.out w4).mono ?_
    rintro e w5 ⟨rfl, B5⟩
    have D5 := D4.trans (B5.mono D4.size)
    clear B5 D4
    go_wp2_with fail
    refine (HN.out w5).mono ?_
    rintro e w6 ⟨rfl, B6⟩
    have D6 := D5.trans (B6.mono D5.size)
    clear B6 D5
    go_wp2_with fail
    refine (HPa.out w6).mono ?_
    rintro e w7 ⟨rfl, B7⟩
    have D7 := D6.trans (B7.mono D6.size)
    clear B7 D6
    go_wp2_with fail
    refine (HS.out w7).mono ?_
    rintro e w8 ⟨rfl, B8⟩
    have D8 := D7.trans (B8.mono D7.size)
    clear B8 D7
    go_wp2_with fail
    refine (HQ.out w8).mono ?_
    rintro e w9 ⟨rfl, B9⟩
    have D9 := D8.trans (B9.mono D8.size)
    clear B9 D8
    go_wp2_with fail
    refine (HM.out w9).mono ?_
    rintro e w10 ⟨rfl, B10⟩
    have D10 := D9.trans (B10.mono D9.size)
    clear B10 D9
    go_wp2_with fail
    refine (HK.out w10).mono ?_
    rintro e w11 ⟨rfl, B11⟩
    have D11 := D10.trans (B11.mono D10.size)
    clear B11 D10
    go_wp2_with fail
    refine (HX.out w11).mono ?_
    rintro e w12 ⟨rfl, B12⟩
    have D12 := D11.trans (B12.mono D11.size)
    clear B12 D11
    go_wp2_with fail
    refine (HO.out w12).mono ?_
    rintro e w13 ⟨rfl, B13⟩
    have D13 := D12.trans (B13.mono D12.size)
    clear B13 D12
    go_wp2
    go_ret
    exact ⟨rfl, D13⟩
  have ja : ((a : Int) == 0) = false := by rw [beq_eq_false_iff_ne]; omega
  have la := lg_lt ha a0
  have HI := Hid.intro (fun w => finv_any a ha w)
  have HIm := Hid.intro (fun w => fmul_any a (ginv a) ha (ginv_lt a) w)
  rw [ginv_mul ha a0] at HIm
  have HD := Hid.intro (fun w => fdiv_any (gmul a b) a (gmul_lt ha b) ha w)
  rw [gmul_right_comm ha, ginv_mul ha a0, gmul_one_left hb] at HD
  have HL := Hid.intro (fun w => flog_any a ha w)
  rw [rlog_ne a0] at HL
  have HE := Hid.intro (fun w => fexp_any (lg a : Int) w)
  rw [expA_nat (by omega), pw_lg ha a0] at HE
  clear a0
  generalize b ^^^ c = S at HS HQ
  generalize gmul (gmul a b) c = P at HP HPa
  generalize gmul a b ^^^ gmul a c = Q at HQ HX
  generalize gmul b c = N at HN HPa
  generalize gmul a c = K at HK HX
  generalize gmul a b = M at HM HMc HP HX HD
  generalize ginv a = I at HI HIm
  generalize lg a = A at la HL HE
  go_enter Try.func5, Try.ntmps5
  go_wp2_with fail
  refine (alive_any w).mono ?_
  rintro e w1 ⟨rfl, D1⟩
  go_wp2_with fail
  refine (HM.out w1).mono ?_
  rintro e w2 ⟨rfl, B2⟩
  have D2 := D1.trans (B2.mono D1.size)
  clear B2 D1
  go_wp2_with fail
  refine (HMc.out w2).mono ?_
  rintro e w3 ⟨rfl, B3⟩
  have D3 := D2.trans (B3.mono D2.size)
  clear B3 D2
  go_wp2_with fail
  refine (HM.out w3).mono ?_
  rintro e w4 ⟨rfl, B4⟩
  have D4 := D3.trans (B4.mono D3.size)
  clear B4 D3
  go_wp2_with fail
  refine (HP.out w4).mono ?_
  rintro e w5 ⟨rfl, B5⟩
  have D5 := D4.trans (B5.mono D4.size)
  clear B5 D4
  go_wp2_with fail
  refine (HN.out w5).mono ?_
  rintro e w6 ⟨rfl, B6⟩
  have D6 := D5.trans (B6.mono D5.size)
  clear B6 D5
  go_wp2_with fail
  refine (HPa.out w6).mono ?_
  rintro e w7 ⟨rfl, B7⟩
  have D7 := D6.trans (B7.mono D6.size)
  clear B7 D6
  go_wp2_with fail
  refine (HS.out w7).mono ?_
  rintro e w8 ⟨rfl, B8⟩
  have D8 := D7.trans (B8.mono D7.size)
  clear B8 D7
  go_wp2_with fail
  refine (HQ.out w8).mono ?_
  rintro e w9 ⟨rfl, B9⟩
  have D9 := D8.trans (B9.mono D8.size)
  clear B9 D8
  go_wp2_with fail
  refine (HM.out w9).mono ?_
  rintro e w10 ⟨rfl, B10⟩
  have D10 := D9.trans (B10.mono D9.size)
  clear B10 D9
  go_wp2_with fail
  refine (HK.out w10).mono ?_
  rintro e w11 ⟨rfl, B11⟩
  have D11 := D10.trans (B11.mono D10.size)
  clear B11 D10
  go_wp2_with fail
  refine (HX.out w11).mono ?_
  rintro e w12 ⟨rfl, B12⟩
  have D12 := D11.trans (B12.mono D11.size)
  clear B12 D11
  go_wp2_with fail
  refine (HO.out w12).mono ?_
  rintro e w13 ⟨rfl, B13⟩
  have D13 := D12.trans (B13.mono D12.size)
  clear B13 D12
  go_wp2_with fail
  refine (HI.out w13).mono ?_
  rintro e w14 ⟨rfl, B14⟩
  have D14 := D13.trans (B14.mono D13.size)
  clear B14 D13
  go_wp2_with fail
  refine (HIm.out w14).mono ?_
  rintro e w15 ⟨rfl, B15⟩
  have D15 := D14.trans (B15.mono D14.size)
  clear B15 D14
  go_wp2_with fail
  refine (HM.out w15).mono ?_
  rintro e w16 ⟨rfl, B16⟩
  have D16 := D15.trans (B16.mono D15.size)
  clear B16 D15
  go_wp2_with fail
  refine (HD.out w16).mono ?_
  rintro e w17 ⟨rfl, B17⟩
  have D17 := D16.trans (B17.mono D16.size)
  clear B17 D16
  go_wp2_with fail
  refine (HL.out w17).mono ?_
  rintro e w18 ⟨rfl, B18⟩
  have D18 := D17.trans (B18.mono D17.size)
  clear B18 D17
  go_wp2_with fail
  refine (HE.out w18).mono ?_
  rintro e w19 ⟨rfl, B19⟩
  have D19 := D18.trans (B19.mono D18.size)
  clear B19 D18
  go_wp2
  go_ret
  exact ⟨rfl, D19⟩

theorem walk (a : Int) (b : Int) (c : Int) (w : World) (ha : (Lit.int .u8 a).wf = true) (hb : (Lit.int .u8 b).wf = true) (hc : (Lit.int .u8 c).wf = true) :
    Calls Try.prog 5 #[.int .u8 a, .int .u8 b, .int .u8 c] w fun e w' => e = .returned (.bool true) ∧ Below w.heap.size w w' := by
  have ba := bounds_u8 ha
  obtain ⟨A, rfl⟩ := Int.eq_ofNat_of_zero_le ba.1
  have bb := bounds_u8 hb
  obtain ⟨B, rfl⟩ := Int.eq_ofNat_of_zero_le bb.1
  have bc := bounds_u8 hc
  obtain ⟨C, rfl⟩ := Int.eq_ofNat_of_zero_le bc.1
  exact walk_nat A B C (by omega) (by omega) (by omega) w

set_option maxRecDepth 100000 in
theorem lifted (os : Os) (started : os.Started) (H : Type) (enc : TypeId × Value → H) :
    ReturnsInHanded {} Try.checked os 5 .any (Rows.fieldLawsSpec.pre6 enc Try.prog Try.f5 Rows.fieldLawsRow.domain false) (Rows.fieldLawsSpec.post enc Try.prog Try.f5 false true false false) := by
  refine returnsInHanded_of_change (C := Try.checked) own started (by kernel_rfl) Try.func5
    (ChangeSpec.witness6 (enc := enc) (C := Try.checked) false ⟨#[], #[.int .u8 0, .int .u8 0, .int .u8 0], []⟩ 8 (by kernel_rfl) (by kernel_rfl) (by kernel_rfl) (by kernel_rfl)) ?_
  intro W base args ds gs before hval0 hW hcnd _
  have hval : ∀ (j : Nat) t v, Try.f5.params[j]? = some t → args[j]? = some v → Value.okWide Try.prog W .any base t v := hval0
  have hW' := hW
  obtain ⟨p, q, hA0, hV, rfl, hfz, hnd⟩ := hW
  have hA : DataW.TrodAll enc Try.prog W 0 (fun _ => true) true Try.f5.params.toList args.toList ds p := hA0
  rw [Try.params5] at hA hval
  obtain ⟨v0, vs0, d0, ds0, p0, q0, hargs, rfl, rfl, h0, r0⟩ := trodAll_cons hA
  obtain ⟨v1, vs1, d1, ds1, p1, q1, rfl, rfl, rfl, h1, r1⟩ := trodAll_cons r0
  obtain ⟨v2, vs2, d2, ds2, p2, q2, rfl, rfl, rfl, h2, r2⟩ := trodAll_cons r1
  obtain ⟨rfl, rfl, rfl⟩ := trodAll_nil r2
  obtain rfl : args = #[v0, v1, v2] := by cases args; simp_all
  obtain ⟨rfl, rfl⟩ := trodVars_none hV
  obtain ⟨a0, rfl, rfl, rfl, w0⟩ := open_int Try.underlying5 (hval 0 5 v0 rfl rfl) h0
  obtain ⟨a1, rfl, rfl, rfl, w1⟩ := open_int Try.underlying5 (hval 1 5 v1 rfl rfl) h1
  obtain ⟨a2, rfl, rfl, rfl, w2⟩ := open_int Try.underlying5 (hval 2 5 v2 rfl rfl) h2
  clear hA0 hval0
  refine (walk a0 a1 a2 W w0 w1 w2).mono fun e W' ⟨he, bel⟩ => ?_
  subst he
  exact ⟨_, rfl, _, _, _, [], _, [], hW', trodAll_mk1 (shut_bool Try.underlying4 _), (trodAll_cons_mk (shut_int Try.underlying5 w0) (trodAll_cons_mk (shut_int Try.underlying5 w1) (trodAll_cons_mk (shut_int Try.underlying5 w2) trodAll_mk0))), rfl, bel.frame _, fun h => by cases h⟩

theorem over : Rows.fieldLawsRow.holds Try.pinned (OpenSpec.ofChange Rows.fieldLawsSpec) :=
  OpenClaim.holds_of_wide 5 Try.f5 rfl rfl rfl rfl rfl rfl rfl ⟨rfl, rfl, rfl, rfl, rfl⟩ rfl rfl rfl rfl rfl (by kernel_rfl) Try.func5 (by kernel_rfl)
    (of_decide_eq_true (by kernel_rfl)) (by unfold Func.isWrapper; first | (rw [if_pos (by decide +kernel)]; kernel_rfl) | (rw [if_neg (by decide +kernel)]; exact ⟨rfl, rfl⟩))
    (fun os started H enc _ => lifted os started H enc)

end Go.Proofs.Ytookbbefjfpicaa.LFieldLaws

namespace Go.Proofs.Ytookbbefjfpicaa
theorem fieldLaws_holds : Rows.FieldLawsSaid := LFieldLaws.over
#print axioms fieldLaws_holds
end Go.Proofs.Ytookbbefjfpicaa
