/- SeqNumbers: whatever group and number come in, it returns true: a group and a place make a number that is split into them; no condition. -/
import Derived.Test.YtonlhddcdipgjaaArgs
import Derived.Test.YtonlhddcdipgjaaSqAlive
namespace Go.Proofs.Ytonlhddcdipgjaa.LSeqNumbers
open Go.ChangeShapes Go.WideShapes Go.ChangeAt Go.RowKit
open Bt

set_option maxHeartbeats 1000000 in
theorem walk (g p : Int) (w : World) (hg : (Lit.int .u8 g).wf = true) (hp : (Lit.int .u8 p).wf = true) :
    Calls Try.prog 8 #[.int .u8 g, .int .u8 p] w fun e w' => e = .returned (.bool true) ∧ Below w.heap.size w w' := by
  have kg := bounds_u8 hg
  have kp := bounds_u8 hp
  clear hg hp
  obtain ⟨P, hP⟩ : ∃ P, P = p % 16 := ⟨_, rfl⟩
  have bP : 0 ≤ P ∧ P ≤ 15 := by omega
  have m1 : isM g P = true := by unfold isM; rw [isG_of kg]; simp; omega
  have m2 : makeA g P = g * 16 + P := by unfold makeA; rw [m1]; rfl
  have s1 : isS (g * 16 + P) = true := by simp [isS]; omega
  have s2 : splitG (g * 16 + P) = g := by unfold splitG; rw [s1, if_pos rfl]; omega
  have s3 : splitP (g * 16 + P) = P := by unfold splitP; rw [s1, if_pos rfl]; omega
  have C1 := Hid.intro (fun w => smake_any g P w)
  have C2 := Hid.intro (fun w => ssplit_any (g * 16 + P) w)
  rw [m1, m2] at C1
  rw [s1, s2, s3] at C2
  obtain ⟨Z, hZ⟩ : ∃ Z, Z = g * 16 + P := ⟨_, rfl⟩
  rw [← hZ] at C1 C2
  have e1 : p % 16 = P := hP.symm
  have q1 : (g == g) = true := by simp
  have q2 : (P == P) = true := by simp
  clear hP m1 m2 s1 s2 s3 hZ
  go_enter Try.func8, Try.ntmps8
  have D0 := Below.refl w.heap.size w
  have S1 := Hid.intro (alive_any w)
  go_wp2_with fail
  refine S1.out.mono ?_
  clear S1
  rintro e w1 ⟨rfl, B1⟩
  have D1 := D0.trans (B1.mono D0.size)
  clear B1 D0
  have S2 := Hid.intro (C1.out w1)
  go_wp2_with fail
  refine S2.out.mono ?_
  clear S2
  rintro e w2 ⟨rfl, B2⟩
  have D2 := D1.trans (B2.mono D1.size)
  clear B2 D1
  have S3 := Hid.intro (C2.out w2)
  go_wp2_with fail
  refine S3.out.mono ?_
  clear S3
  rintro e w3 ⟨rfl, B3⟩
  have D3 := D2.trans (B3.mono D2.size)
  clear B3 D2
  go_wp2
  go_ret
  exact ⟨rfl, D3⟩

set_option maxRecDepth 100000 in
theorem lifted (os : Os) (started : os.Started) (H : Type) (enc : TypeId × Value → H) :
    ReturnsInHanded {} Try.checked os 8 .any (Rows.seqNumbersSpec.pre6 enc Try.prog Try.f8 Rows.seqNumbersRow.domain false) (Rows.seqNumbersSpec.post enc Try.prog Try.f8 false true false false) := by
  refine returnsInHanded_of_change (C := Try.checked) own started (by kernel_rfl) Try.func8
    (ChangeSpec.witness6 (enc := enc) (C := Try.checked) false ⟨#[], #[.int .u8 0, .int .u8 0], []⟩ 8 (by kernel_rfl) (by kernel_rfl) (by kernel_rfl) (by kernel_rfl)) ?_
  intro W base args ds gs before hval0 hW hcnd _
  have hval : ∀ (j : Nat) t v, Try.f8.params[j]? = some t → args[j]? = some v → Value.okWide Try.prog W .any base t v := hval0
  have hW' := hW
  obtain ⟨p, q, hA0, hV, rfl, hfz, hnd⟩ := hW
  have hA : DataW.TrodAll enc Try.prog W 0 (fun _ => true) true Try.f8.params.toList args.toList ds p := hA0
  rw [Try.params8] at hA hval
  obtain ⟨v0, vs0, d0, ds0, p0, q0, hargs, rfl, rfl, h0, r0⟩ := trodAll_cons hA
  obtain ⟨v1, vs1, d1, ds1, p1, q1, rfl, rfl, rfl, h1, r1⟩ := trodAll_cons r0
  obtain ⟨rfl, rfl, rfl⟩ := trodAll_nil r1
  obtain rfl : args = #[v0, v1] := by cases args; simp_all
  obtain ⟨rfl, rfl⟩ := trodVars_none hV
  obtain ⟨a0, rfl, rfl, rfl, w0⟩ := open_int Try.underlying5 (hval 0 5 v0 rfl rfl) h0
  obtain ⟨a1, rfl, rfl, rfl, w1⟩ := open_int Try.underlying5 (hval 1 5 v1 rfl rfl) h1
  clear hA0 hval0
  refine (walk a0 a1 W w0 w1).mono fun e W' ⟨he, bel⟩ => ?_
  subst he
  exact ⟨_, rfl, _, _, _, [], _, [], hW', trodAll_mk1 (shut_bool Try.underlying4 _), (trodAll_cons_mk (shut_int Try.underlying5 w0) (trodAll_cons_mk (shut_int Try.underlying5 w1) trodAll_mk0)), rfl, bel.frame _, fun h => by cases h⟩

theorem over : Rows.seqNumbersRow.holds Try.pinned (OpenSpec.ofChange Rows.seqNumbersSpec) :=
  OpenClaim.holds_of_wide 8 Try.f8 rfl rfl rfl rfl rfl rfl rfl ⟨rfl, rfl, rfl, rfl, rfl⟩ rfl rfl rfl rfl rfl (by kernel_rfl) Try.func8 (by kernel_rfl)
    (of_decide_eq_true (by kernel_rfl)) (by unfold Func.isWrapper; first | (rw [if_pos (by decide +kernel)]; kernel_rfl) | (rw [if_neg (by decide +kernel)]; exact ⟨rfl, rfl⟩))
    (fun os started H enc _ => lifted os started H enc)

end Go.Proofs.Ytonlhddcdipgjaa.LSeqNumbers

namespace Go.Proofs.Ytonlhddcdipgjaa
theorem seqNumbers_holds : Rows.SeqNumbersSaid := LSeqNumbers.over
#print axioms seqNumbers_holds
end Go.Proofs.Ytonlhddcdipgjaa
