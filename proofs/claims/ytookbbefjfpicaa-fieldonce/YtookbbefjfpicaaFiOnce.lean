/- FieldOnce (layer 4): of all bytes: a byte but 0 times two others is the same just if they are; no condition. -/
import Derived.Test.YtookbbefjfpicaaFiAlive
import Derived.Test.YtookbbefjfpicaaFldD
import Derived.Test.YtookbbefjfpicaaArgs
namespace Go.Proofs.Ytookbbefjfpicaa.LFieldOnce
open Go.ChangeShapes Go.WideShapes Go.ChangeAt Go.RowKit
open Bt

set_option maxRecDepth 100000 in
set_option maxHeartbeats 2000000 in
theorem walk_nat (a b c : Nat) (ha : a < 256) (hb : b < 256) (hc : c < 256) (w : World) :
    Calls Try.prog 8 #[.int .u8 (a : Int), .int .u8 (b : Int), .int .u8 (c : Int)] w fun e w' => e = .returned (.bool true) ∧ Below w.heap.size w w' := by
  by_cases a0 : a = 0
  · subst a0
    have HZ := Hid.intro (fun w => fmul_any 0 b (by decide) hb w)
    rw [gmul_zero_left] at HZ
    go_enter Try.func8, Try.ntmps8
    go_wp2_with fail
    refine (alive_any w).mono ?_
    rintro e w1 ⟨rfl, D1⟩
    go_wp2_with fail
    refine (HZ.out w1).mono ?_
    rintro e w2 ⟨rfl, B2⟩
    have D2 := D1.trans (B2.mono D1.size)
    clear B2 D1
    go_wp2
    go_ret
    exact ⟨rfl, D2⟩
  have ja : ((a : Int) == 0) = false := by rw [beq_eq_false_iff_ne]; omega
  have HM := Hid.intro (fun w => fmul_any a b ha hb w)
  have HN := Hid.intro (fun w => fmul_any a c ha hc w)
  have HU := Hid.intro (fun w => fdiv_any b a hb ha w)
  have HV := Hid.intro (fun w => fdiv_any c a hc ha w)
  have h1 : (((gmul a b : Nat) : Int) == ((gmul a c : Nat) : Int)) = ((b : Int) == (c : Int)) := by
    rw [Bool.eq_iff_iff, beq_iff_eq, beq_iff_eq]
    constructor
    · intro h; have := gmul_cancel ha hb hc a0 (by omega); omega
    · intro h; have e : b = c := by omega
      rw [e]
  have h2 : (((gmul b (ginv a) : Nat) : Int) == ((gmul c (ginv a) : Nat) : Int)) = ((b : Int) == (c : Int)) := by
    rw [Bool.eq_iff_iff, beq_iff_eq, beq_iff_eq]
    constructor
    · intro h
      have h' : gmul b (ginv a) = gmul c (ginv a) := by omega
      rw [gmul_comm hb (ginv_lt a), gmul_comm hc (ginv_lt a)] at h'
      have := gmul_cancel (ginv_lt a) hb hc (ginv_ne ha a0) h'
      omega
    · intro h; have e : b = c := by omega
      rw [e]
  generalize gmul a b = M at HM h1
  generalize gmul a c = N at HN h1
  generalize gmul b (ginv a) = U1 at HU h2
  generalize gmul c (ginv a) = V1 at HV h2
  go_enter Try.func8, Try.ntmps8
  go_wp2_with fail
  refine (alive_any w).mono ?_
  rintro e w1 ⟨rfl, D1⟩
  go_wp2_with fail
  refine (HM.out w1).mono ?_
  rintro e w2 ⟨rfl, B2⟩
  have D2 := D1.trans (B2.mono D1.size)
  clear B2 D1
  go_wp2_with fail
  refine (HN.out w2).mono ?_
  rintro e w3 ⟨rfl, B3⟩
  have D3 := D2.trans (B3.mono D2.size)
  clear B3 D2
  go_wp2_with fail
  refine (HU.out w3).mono ?_
  rintro e w4 ⟨rfl, B4⟩
  have D4 := D3.trans (B4.mono D3.size)
  clear B4 D3
  go_wp2_with fail
  refine (HV.out w4).mono ?_
  rintro e w5 ⟨rfl, B5⟩
  have D5 := D4.trans (B5.mono D4.size)
  clear B5 D4
  go_wp2
  go_ret
  exact ⟨rfl, D5⟩

theorem walk (a : Int) (b : Int) (c : Int) (w : World) (ha : (Lit.int .u8 a).wf = true) (hb : (Lit.int .u8 b).wf = true) (hc : (Lit.int .u8 c).wf = true) :
    Calls Try.prog 8 #[.int .u8 a, .int .u8 b, .int .u8 c] w fun e w' => e = .returned (.bool true) ∧ Below w.heap.size w w' := by
  have ba := bounds_u8 ha
  obtain ⟨A, rfl⟩ := Int.eq_ofNat_of_zero_le ba.1
  have bb := bounds_u8 hb
  obtain ⟨B, rfl⟩ := Int.eq_ofNat_of_zero_le bb.1
  have bc := bounds_u8 hc
  obtain ⟨C, rfl⟩ := Int.eq_ofNat_of_zero_le bc.1
  exact walk_nat A B C (by omega) (by omega) (by omega) w

set_option maxRecDepth 100000 in
theorem lifted (os : Os) (started : os.Started) (H : Type) (enc : TypeId × Value → H) :
    ReturnsInHanded {} Try.checked os 8 .any (Rows.fieldOnceSpec.pre6 enc Try.prog Try.f8 Rows.fieldOnceRow.domain false) (Rows.fieldOnceSpec.post enc Try.prog Try.f8 false true false false) := by
  refine returnsInHanded_of_change (C := Try.checked) own started (by kernel_rfl) Try.func8
    (ChangeSpec.witness6 (enc := enc) (C := Try.checked) false ⟨#[], #[.int .u8 0, .int .u8 0, .int .u8 0], []⟩ 8 (by kernel_rfl) (by kernel_rfl) (by kernel_rfl) (by kernel_rfl)) ?_
  intro W base args ds gs before hval0 hW hcnd _
  have hval : ∀ (j : Nat) t v, Try.f8.params[j]? = some t → args[j]? = some v → Value.okWide Try.prog W .any base t v := hval0
  have hW' := hW
  obtain ⟨p, q, hA0, hV, rfl, hfz, hnd⟩ := hW
  have hA : DataW.TrodAll enc Try.prog W 0 (fun _ => true) true Try.f8.params.toList args.toList ds p := hA0
  rw [Try.params8] at hA hval
  obtain ⟨v0, vs0, d0, ds0, p0, q0, hargs, rfl, rfl, h0, r0⟩ := trodAll_cons hA
  obtain ⟨v1, vs1, d1, ds1, p1, q1, rfl, rfl, rfl, h1, r1⟩ := trodAll_cons r0
  obtain ⟨v2, vs2, d2, ds2, p2, q2, rfl, rfl, rfl, h2, r2⟩ := trodAll_cons r1
  obtain ⟨rfl, rfl, rfl⟩ := trodAll_nil r2
  obtain rfl : args = #[v0, v1, v2] := by cases args; simp_all
  obtain ⟨rfl, rfl⟩ := trodVars_none hV
  obtain ⟨a0, rfl, rfl, rfl, w0⟩ := open_int Try.underlying5 (hval 0 5 v0 rfl rfl) h0
  obtain ⟨a1, rfl, rfl, rfl, w1⟩ := open_int Try.underlying5 (hval 1 5 v1 rfl rfl) h1
  obtain ⟨a2, rfl, rfl, rfl, w2⟩ := open_int Try.underlying5 (hval 2 5 v2 rfl rfl) h2
  clear hA0 hval0
  refine (walk a0 a1 a2 W w0 w1 w2).mono fun e W' ⟨he, bel⟩ => ?_
  subst he
  exact ⟨_, rfl, _, _, _, [], _, [], hW', trodAll_mk1 (shut_bool Try.underlying4 _), (trodAll_cons_mk (shut_int Try.underlying5 w0) (trodAll_cons_mk (shut_int Try.underlying5 w1) (trodAll_cons_mk (shut_int Try.underlying5 w2) trodAll_mk0))), rfl, bel.frame _, fun h => by cases h⟩

theorem over : Rows.fieldOnceRow.holds Try.pinned (OpenSpec.ofChange Rows.fieldOnceSpec) :=
  OpenClaim.holds_of_wide 8 Try.f8 rfl rfl rfl rfl rfl rfl rfl ⟨rfl, rfl, rfl, rfl, rfl⟩ rfl rfl rfl rfl rfl (by kernel_rfl) Try.func8 (by kernel_rfl)
    (of_decide_eq_true (by kernel_rfl)) (by unfold Func.isWrapper; first | (rw [if_pos (by decide +kernel)]; kernel_rfl) | (rw [if_neg (by decide +kernel)]; exact ⟨rfl, rfl⟩))
    (fun os started H enc _ => lifted os started H enc)

end Go.Proofs.Ytookbbefjfpicaa.LFieldOnce

namespace Go.Proofs.Ytookbbefjfpicaa
theorem fieldOnce_holds : Rows.FieldOnceSaid := LFieldOnce.over
#print axioms fieldOnce_holds
end Go.Proofs.Ytookbbefjfpicaa
