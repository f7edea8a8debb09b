/- FieldLogs (layer 4): of all bytes: a product's Log is the sum of both, modulo 255; no condition. -/
import Derived.Test.YtookbbefjfpicaaFiAlive
import Derived.Test.YtookbbefjfpicaaArgs
namespace Go.Proofs.Ytookbbefjfpicaa.LFieldLogs
open Go.ChangeShapes Go.WideShapes Go.ChangeAt Go.RowKit
open Bt

set_option maxRecDepth 100000 in
set_option maxHeartbeats 2000000 in
theorem walk_nat (a b : Nat) (ha : a < 256) (hb : b < 256) (w : World) :
    Calls Try.prog 7 #[.int .u8 (a : Int), .int .u8 (b : Int)] w fun e w' => e = .returned (.bool true) ∧ Below w.heap.size w w' := by
  have HL0 := Hid.intro (fun w => flog_any 0 (by decide) w)
  rw [show rlog 0 = -1 from rfl] at HL0
  by_cases a0 : a = 0
  · subst a0
    have HZ := Hid.intro (fun w => fmul_any 0 b (by decide) hb w)
    rw [gmul_zero_left] at HZ
    go_enter Try.func7, Try.ntmps7
    go_wp2_with fail
    refine (alive_any w).mono ?_
    rintro e w1 ⟨rfl, D1⟩
    go_wp2_with fail
    refine (HL0.out w1).mono ?_
    rintro e w2 ⟨rfl, B2⟩
    have D2 := D1.trans (B2.mono D1.size)
    clear B2 D1
    go_wp2_with fail
    refine (HZ.out w2).mono ?_
    rintro e w3 ⟨rfl, B3⟩
    have D3 := D2.trans (B3.mono D2.size)
    clear B3 D2
    go_wp2
    go_ret
    exact ⟨rfl, D3⟩
  have ja : ((a : Int) == 0) = false := by rw [beq_eq_false_iff_ne]; omega
  by_cases b0 : b = 0
  · subst b0
    have HZ := Hid.intro (fun w => fmul_any a 0 ha (by decide) w)
    rw [gmul_zero ha] at HZ
    go_enter Try.func7, Try.ntmps7
    go_wp2_with fail
    refine (alive_any w).mono ?_
    rintro e w1 ⟨rfl, D1⟩
    go_wp2_with fail
    refine (HL0.out w1).mono ?_
    rintro e w2 ⟨rfl, B2⟩
    have D2 := D1.trans (B2.mono D1.size)
    clear B2 D1
    go_wp2_with fail
    refine (HZ.out w2).mono ?_
    rintro e w3 ⟨rfl, B3⟩
    have D3 := D2.trans (B3.mono D2.size)
    clear B3 D2
    go_wp2
    go_ret
    exact ⟨rfl, D3⟩
  have jb : ((b : Int) == 0) = false := by rw [beq_eq_false_iff_ne]; omega
  have la := lg_lt ha a0
  have lb := lg_lt hb b0
  have HM := Hid.intro (fun w => fmul_any a b ha hb w)
  have HL := Hid.intro (fun w => flog_any (gmul a b) (gmul_lt ha b) w)
  rw [rlog_ne (gmul_ne ha hb a0 b0), lg_gmul ha hb a0 b0] at HL
  have HA := Hid.intro (fun w => flog_any a ha w)
  rw [rlog_ne a0] at HA
  have HB := Hid.intro (fun w => flog_any b hb w)
  rw [rlog_ne b0] at HB
  have HE := Hid.intro (fun w => fexp_any ((lg a : Int) + (lg b : Int)) w)
  have ee : expA ((lg a : Int) + (lg b : Int)) = gmul a b := by
    rw [← Int.natCast_add, expA_nat (by omega), gmul_lg ha hb a0 b0]
  rw [ee] at HE
  clear ee
  generalize gmul a b = M at HM HL HE
  generalize lg a = A at la HA HL HE
  generalize lg b = B at lb HB HL HE
  obtain ⟨K, hK⟩ : ∃ K, K = (A + B) % 255 := ⟨_, rfl⟩
  have hKm : ((A : Int) + (B : Int)) % 255 = (K : Int) := by omega
  rw [← hK] at HL
  clear hK
  go_enter Try.func7, Try.ntmps7
  go_wp2_with fail
  refine (alive_any w).mono ?_
  rintro e w1 ⟨rfl, D1⟩
  go_wp2_with fail
  refine (HM.out w1).mono ?_
  rintro e w2 ⟨rfl, B2⟩
  have D2 := D1.trans (B2.mono D1.size)
  clear B2 D1
  go_wp2_with fail
  refine (HL.out w2).mono ?_
  rintro e w3 ⟨rfl, B3⟩
  have D3 := D2.trans (B3.mono D2.size)
  clear B3 D2
  go_wp2_with fail
  refine (HA.out w3).mono ?_
  rintro e w4 ⟨rfl, B4⟩
  have D4 := D3.trans (B4.mono D3.size)
  clear B4 D3
  go_wp2_with fail
  refine (HB.out w4).mono ?_
  rintro e w5 ⟨rfl, B5⟩
  have D5 := D4.trans (B5.mono D4.size)
  clear B5 D4
  go_wp2_with fail
  refine (HA.out w5).mono ?_
  rintro e w6 ⟨rfl, B6⟩
  have D6 := D5.trans (B6.mono D5.size)
  clear B6 D5
  go_wp2_with fail
  refine (HB.out w6).mono ?_
  rintro e w7 ⟨rfl, B7⟩
  have D7 := D6.trans (B7.mono D6.size)
  clear B7 D6
  go_wp2_with fail
  refine (HE.out w7).mono ?_
  rintro e w8 ⟨rfl, B8⟩
  have D8 := D7.trans (B8.mono D7.size)
  clear B8 D7
  go_wp2_with fail
  refine (HM.out w8).mono ?_
  rintro e w9 ⟨rfl, B9⟩
  have D9 := D8.trans (B9.mono D8.size)
  clear B9 D8
  go_wp2
  go_ret
  exact ⟨rfl, D9⟩

theorem walk (a : Int) (b : Int) (w : World) (ha : (Lit.int .u8 a).wf = true) (hb : (Lit.int .u8 b).wf = true) :
    Calls Try.prog 7 #[.int .u8 a, .int .u8 b] w fun e w' => e = .returned (.bool true) ∧ Below w.heap.size w w' := by
  have ba := bounds_u8 ha
  obtain ⟨A, rfl⟩ := Int.eq_ofNat_of_zero_le ba.1
  have bb := bounds_u8 hb
  obtain ⟨B, rfl⟩ := Int.eq_ofNat_of_zero_le bb.1
  exact walk_nat A B (by omega) (by omega) w

set_option maxRecDepth 100000 in
theorem lifted (os : Os) (started : os.Started) (H : Type) (enc : TypeId × Value → H) :
    ReturnsInHanded {} Try.checked os 7 .any (Rows.fieldLogsSpec.pre6 enc Try.prog Try.f7 Rows.fieldLogsRow.domain false) (Rows.fieldLogsSpec.post enc Try.prog Try.f7 false true false false) := by
  refine returnsInHanded_of_change (C := Try.checked) own started (by kernel_rfl) Try.func7
    (ChangeSpec.witness6 (enc := enc) (C := Try.checked) false ⟨#[], #[.int .u8 0, .int .u8 0], []⟩ 8 (by kernel_rfl) (by kernel_rfl) (by kernel_rfl) (by kernel_rfl)) ?_
  intro W base args ds gs before hval0 hW hcnd _
  have hval : ∀ (j : Nat) t v, Try.f7.params[j]? = some t → args[j]? = some v → Value.okWide Try.prog W .any base t v := hval0
  have hW' := hW
  obtain ⟨p, q, hA0, hV, rfl, hfz, hnd⟩ := hW
  have hA : DataW.TrodAll enc Try.prog W 0 (fun _ => true) true Try.f7.params.toList args.toList ds p := hA0
  rw [Try.params7] at hA hval
  obtain ⟨v0, vs0, d0, ds0, p0, q0, hargs, rfl, rfl, h0, r0⟩ := trodAll_cons hA
  obtain ⟨v1, vs1, d1, ds1, p1, q1, rfl, rfl, rfl, h1, r1⟩ := trodAll_cons r0
  obtain ⟨rfl, rfl, rfl⟩ := trodAll_nil r1
  obtain rfl : args = #[v0, v1] := by cases args; simp_all
  obtain ⟨rfl, rfl⟩ := trodVars_none hV
  obtain ⟨a0, rfl, rfl, rfl, w0⟩ := open_int Try.underlying5 (hval 0 5 v0 rfl rfl) h0
  obtain ⟨a1, rfl, rfl, rfl, w1⟩ := open_int Try.underlying5 (hval 1 5 v1 rfl rfl) h1
  clear hA0 hval0
  refine (walk a0 a1 W w0 w1).mono fun e W' ⟨he, bel⟩ => ?_
  subst he
  exact ⟨_, rfl, _, _, _, [], _, [], hW', trodAll_mk1 (shut_bool Try.underlying4 _), (trodAll_cons_mk (shut_int Try.underlying5 w0) (trodAll_cons_mk (shut_int Try.underlying5 w1) trodAll_mk0)), rfl, bel.frame _, fun h => by cases h⟩

theorem over : Rows.fieldLogsRow.holds Try.pinned (OpenSpec.ofChange Rows.fieldLogsSpec) :=
  OpenClaim.holds_of_wide 7 Try.f7 rfl rfl rfl rfl rfl rfl rfl ⟨rfl, rfl, rfl, rfl, rfl⟩ rfl rfl rfl rfl rfl (by kernel_rfl) Try.func7 (by kernel_rfl)
    (of_decide_eq_true (by kernel_rfl)) (by unfold Func.isWrapper; first | (rw [if_pos (by decide +kernel)]; kernel_rfl) | (rw [if_neg (by decide +kernel)]; exact ⟨rfl, rfl⟩))
    (fun os started H enc _ => lifted os started H enc)

end Go.Proofs.Ytookbbefjfpicaa.LFieldLogs

namespace Go.Proofs.Ytookbbefjfpicaa
theorem fieldLogs_holds : Rows.FieldLogsSaid := LFieldLogs.over
#print axioms fieldLogs_holds
end Go.Proofs.Ytookbbefjfpicaa
