/- FieldPows (layer 4): of all bytes: powers multiply as their numbers add up; no condition. -/
import Derived.Test.YtookbbefjfpicaaFiAlive
import Derived.Test.YtookbbefjfpicaaArgs
namespace Go.Proofs.Ytookbbefjfpicaa.LFieldPows
open Go.ChangeShapes Go.WideShapes Go.ChangeAt Go.RowKit
open Bt

set_option maxRecDepth 100000 in
set_option maxHeartbeats 2000000 in
theorem walk_nat (a m n : Nat) (ha : a < 256) (hm : m < 256) (hn : n < 256) (w : World) :
    Calls Try.prog 6 #[.int .u8 (a : Int), .int .u8 (m : Int), .int .u8 (n : Int)] w fun e w' => e = .returned (.bool true) ∧ Below w.heap.size w w' := by
  have HU := Hid.intro (fun w => fpow_any a (m : Int) ha w)
  have HV := Hid.intro (fun w => fpow_any a (n : Int) ha w)
  have HM := Hid.intro (fun w => fmul_any (gpow a m) (gpow a n) (gpow_lt ha m) (gpow_lt ha n) w)
  have HP := Hid.intro (fun w => fpow_any a ((m : Int) + (n : Int)) ha w)
  have HO := Hid.intro (fun w => fpow_any a 1 ha w)
  have HZ := Hid.intro (fun w => fpow_any a 0 ha w)
  rw [powA_nat] at HU HV
  rw [gpow_add ha] at HM
  rw [show powA a ((m : Int) + (n : Int)) = gpow a (m + n) from by rw [← Int.natCast_add, powA_nat]] at HP
  rw [show powA a 1 = a from by
    have := powA_nat a 1
    rw [show gpow a 1 = a from gmul_one_left ha] at this
    exact this] at HO
  rw [show powA a 0 = 1 from powA_nat a 0] at HZ
  generalize gpow a (m + n) = T at HM HP
  generalize gpow a m = U1 at HU HM
  generalize gpow a n = V1 at HV HM
  go_enter Try.func6, Try.ntmps6
  go_wp2_with fail
  refine (alive_any w).mono ?_
  rintro e w1 ⟨rfl, D1⟩
  go_wp2_with fail
  refine (HU.out w1).mono ?_
  rintro e w2 ⟨rfl, B2⟩
  have D2 := D1.trans (B2.mono D1.size)
  clear B2 D1
  go_wp2_with fail
  refine (HV.out w2).mono ?_
  rintro e w3 ⟨rfl, B3⟩
  have D3 := D2.trans (B3.mono D2.size)
  clear B3 D2
  go_wp2_with fail
  refine (HM.out w3).mono ?_
  rintro e w4 ⟨rfl, B4⟩
  have D4 := D3.trans (B4.mono D3.size)
  clear B4 D3
  go_wp2_with fail
  refine (HP.out w4).mono ?_
  rintro e w5 ⟨rfl, B5⟩
  have D5 := D4.trans (B5.mono D4.size)
  clear B5 D4
  go_wp2_with fail
  refine (HO.out w5).mono ?_
  rintro e w6 ⟨rfl, B6⟩
  have D6 := D5.trans (B6.mono D5.size)
  clear B6 D5
  go_wp2_with fail
  refine (HZ.out w6).mono ?_
  rintro e w7 ⟨rfl, B7⟩
  have D7 := D6.trans (B7.mono D6.size)
  clear B7 D6
  go_wp2
  go_ret
  exact ⟨rfl, D7⟩

theorem walk (a : Int) (m : Int) (n : Int) (w : World) (ha : (Lit.int .u8 a).wf = true) (hm : (Lit.int .u8 m).wf = true) (hn : (Lit.int .u8 n).wf = true) :
    Calls Try.prog 6 #[.int .u8 a, .int .u8 m, .int .u8 n] w fun e w' => e = .returned (.bool true) ∧ Below w.heap.size w w' := by
  have ba := bounds_u8 ha
  obtain ⟨A, rfl⟩ := Int.eq_ofNat_of_zero_le ba.1
  have bm := bounds_u8 hm
  obtain ⟨M, rfl⟩ := Int.eq_ofNat_of_zero_le bm.1
  have bn := bounds_u8 hn
  obtain ⟨N, rfl⟩ := Int.eq_ofNat_of_zero_le bn.1
  exact walk_nat A M N (by omega) (by omega) (by omega) w

set_option maxRecDepth 100000 in
theorem lifted (os : Os) (started : os.Started) (H : Type) (enc : TypeId × Value → H) :
    ReturnsInHanded {} Try.checked os 6 .any (Rows.fieldPowsSpec.pre6 enc Try.prog Try.f6 Rows.fieldPowsRow.domain false) (Rows.fieldPowsSpec.post enc Try.prog Try.f6 false true false false) := by
  refine returnsInHanded_of_change (C := Try.checked) own started (by kernel_rfl) Try.func6
    (ChangeSpec.witness6 (enc := enc) (C := Try.checked) false ⟨#[], #[.int .u8 0, .int .u8 0, .int .u8 0], []⟩ 8 (by kernel_rfl) (by kernel_rfl) (by kernel_rfl) (by kernel_rfl)) ?_
  intro W base args ds gs before hval0 hW hcnd _
  have hval : ∀ (j : Nat) t v, Try.f6.params[j]? = some t → args[j]? = some v → Value.okWide Try.prog W .any base t v := hval0
  have hW' := hW
  obtain ⟨p, q, hA0, hV, rfl, hfz, hnd⟩ := hW
  have hA : DataW.TrodAll enc Try.prog W 0 (fun _ => true) true Try.f6.params.toList args.toList ds p := hA0
  rw [Try.params6] at hA hval
  obtain ⟨v0, vs0, d0, ds0, p0, q0, hargs, rfl, rfl, h0, r0⟩ := trodAll_cons hA
  obtain ⟨v1, vs1, d1, ds1, p1, q1, rfl, rfl, rfl, h1, r1⟩ := trodAll_cons r0
  obtain ⟨v2, vs2, d2, ds2, p2, q2, rfl, rfl, rfl, h2, r2⟩ := trodAll_cons r1
  obtain ⟨rfl, rfl, rfl⟩ := trodAll_nil r2
  obtain rfl : args = #[v0, v1, v2] := by cases args; simp_all
  obtain ⟨rfl, rfl⟩ := trodVars_none hV
  obtain ⟨a0, rfl, rfl, rfl, w0⟩ := open_int Try.underlying5 (hval 0 5 v0 rfl rfl) h0
  obtain ⟨a1, rfl, rfl, rfl, w1⟩ := open_int Try.underlying5 (hval 1 5 v1 rfl rfl) h1
  obtain ⟨a2, rfl, rfl, rfl, w2⟩ := open_int Try.underlying5 (hval 2 5 v2 rfl rfl) h2
  clear hA0 hval0
  refine (walk a0 a1 a2 W w0 w1 w2).mono fun e W' ⟨he, bel⟩ => ?_
  subst he
  exact ⟨_, rfl, _, _, _, [], _, [], hW', trodAll_mk1 (shut_bool Try.underlying4 _), (trodAll_cons_mk (shut_int Try.underlying5 w0) (trodAll_cons_mk (shut_int Try.underlying5 w1) (trodAll_cons_mk (shut_int Try.underlying5 w2) trodAll_mk0))), rfl, bel.frame _, fun h => by cases h⟩

theorem over : Rows.fieldPowsRow.holds Try.pinned (OpenSpec.ofChange Rows.fieldPowsSpec) :=
  OpenClaim.holds_of_wide 6 Try.f6 rfl rfl rfl rfl rfl rfl rfl ⟨rfl, rfl, rfl, rfl, rfl⟩ rfl rfl rfl rfl rfl (by kernel_rfl) Try.func6 (by kernel_rfl)
    (of_decide_eq_true (by kernel_rfl)) (by unfold Func.isWrapper; first | (rw [if_pos (by decide +kernel)]; kernel_rfl) | (rw [if_neg (by decide +kernel)]; exact ⟨rfl, rfl⟩))
    (fun os started H enc _ => lifted os started H enc)

end Go.Proofs.Ytookbbefjfpicaa.LFieldPows

namespace Go.Proofs.Ytookbbefjfpicaa
theorem fieldPows_holds : Rows.FieldPowsSaid := LFieldPows.over
#print axioms fieldPows_holds
end Go.Proofs.Ytookbbefjfpicaa
