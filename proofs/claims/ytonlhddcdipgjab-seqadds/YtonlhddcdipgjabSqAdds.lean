/- SeqAdds: whatever group and numbers come in, it returns true: steps add up; no condition. -/
import Derived.Test.YtonlhddcdipgjabArgs
import Derived.Test.YtonlhddcdipgjabSqAlive
namespace Go.Proofs.Ytonlhddcdipgjab.LSeqAdds
open Go.ChangeShapes Go.WideShapes Go.ChangeAt Go.RowKit
open Bt

set_option maxHeartbeats 1000000 in
theorem walk (g a b : Int) (w : World) (hg : (Lit.int .u8 g).wf = true) (ha : (Lit.int .i16 a).wf = true) (hb : (Lit.int .i16 b).wf = true) :
    Calls Try.prog 3 #[.int .u8 g, .int .i16 a, .int .i16 b] w fun e w' => e = .returned (.bool true) ∧ Below w.heap.size w w' := by
  have kg := bounds_u8 hg
  have ka : -32768 ≤ a ∧ a ≤ 32767 := bounds_i16 ha
  have kb : -32768 ≤ b ∧ b ≤ 32767 := bounds_i16 hb
  clear hg ha hb
  obtain ⟨x, hx⟩ : ∃ x, x = nextA g a := ⟨_, rfl⟩
  have ex := nextA_in a kg
  rw [← hx] at ex
  have xb : 0 ≤ x ∧ x ≤ 255 := by omega
  obtain ⟨y, hy⟩ : ∃ y, y = nextA x b := ⟨_, rfl⟩
  have ey := nextA_in b xb
  rw [← hy] at ey
  have yb : 0 ≤ y ∧ y ≤ 255 := by omega
  have n1 : nextA g (a + b) = y := by rw [nextA_in (a + b) kg]; omega
  have C1 := Hid.intro (fun w => snext_any g a (by omega) w)
  have C2 := Hid.intro (fun w => snext_any x b (by omega) w)
  have C3 := Hid.intro (fun w => snext_any g (a + b) (by omega) w)
  rw [← hx] at C1
  rw [← hy] at C2
  rw [n1] at C3
  have q1 : (y == y) = true := by simp
  obtain ⟨y0, y1⟩ := yb
  have y2 : y < 256 := by omega
  clear hx hy ex ey n1 y1
  go_enter Try.func3, Try.ntmps3
  have D0 := Below.refl w.heap.size w
  have S1 := Hid.intro (alive_any w)
  go_wp2_with fail
  refine S1.out.mono ?_
  clear S1
  rintro e w1 ⟨rfl, B1⟩
  have D1 := D0.trans (B1.mono D0.size)
  clear B1 D0
  have S2 := Hid.intro (C1.out w1)
  go_wp2_with fail
  refine S2.out.mono ?_
  clear S2
  rintro e w2 ⟨rfl, B2⟩
  have D2 := D1.trans (B2.mono D1.size)
  clear B2 D1
  have S3 := Hid.intro (C2.out w2)
  go_wp2_with fail
  refine S3.out.mono ?_
  clear S3
  rintro e w3 ⟨rfl, B3⟩
  have D3 := D2.trans (B3.mono D2.size)
  clear B3 D2
  have S4 := Hid.intro (C3.out w3)
  go_wp2_with fail
  refine S4.out.mono ?_
  clear S4
  rintro e w4 ⟨rfl, B4⟩
  have D4 := D3.trans (B4.mono D3.size)
  clear B4 D3
  go_wp2
  go_ret
  exact ⟨rfl, D4⟩

set_option maxRecDepth 100000 in
theorem lifted (os : Os) (started : os.Started) (H : Type) (enc : TypeId × Value → H) :
    ReturnsInHanded {} Try.checked os 3 .any (Rows.seqAddsSpec.pre6 enc Try.prog Try.f3 Rows.seqAddsRow.domain false) (Rows.seqAddsSpec.post enc Try.prog Try.f3 false true false false) := by
  refine returnsInHanded_of_change (C := Try.checked) own started (by kernel_rfl) Try.func3
    (ChangeSpec.witness6 (enc := enc) (C := Try.checked) false ⟨#[], #[.int .u8 0, .int .i16 0, .int .i16 0], []⟩ 8 (by kernel_rfl) (by kernel_rfl) (by kernel_rfl) (by kernel_rfl)) ?_
  intro W base args ds gs before hval0 hW hcnd _
  have hval : ∀ (j : Nat) t v, Try.f3.params[j]? = some t → args[j]? = some v → Value.okWide Try.prog W .any base t v := hval0
  have hW' := hW
  obtain ⟨p, q, hA0, hV, rfl, hfz, hnd⟩ := hW
  have hA : DataW.TrodAll enc Try.prog W 0 (fun _ => true) true Try.f3.params.toList args.toList ds p := hA0
  rw [Try.params3] at hA hval
  obtain ⟨v0, vs0, d0, ds0, p0, q0, hargs, rfl, rfl, h0, r0⟩ := trodAll_cons hA
  obtain ⟨v1, vs1, d1, ds1, p1, q1, rfl, rfl, rfl, h1, r1⟩ := trodAll_cons r0
  obtain ⟨v2, vs2, d2, ds2, p2, q2, rfl, rfl, rfl, h2, r2⟩ := trodAll_cons r1
  obtain ⟨rfl, rfl, rfl⟩ := trodAll_nil r2
  obtain rfl : args = #[v0, v1, v2] := by cases args; simp_all
  obtain ⟨rfl, rfl⟩ := trodVars_none hV
  obtain ⟨a0, rfl, rfl, rfl, w0⟩ := open_int Try.underlying5 (hval 0 5 v0 rfl rfl) h0
  obtain ⟨a1, rfl, rfl, rfl, w1⟩ := open_int Try.underlying22 (hval 1 22 v1 rfl rfl) h1
  obtain ⟨a2, rfl, rfl, rfl, w2⟩ := open_int Try.underlying22 (hval 2 22 v2 rfl rfl) h2
  clear hA0 hval0
  refine (walk a0 a1 a2 W w0 w1 w2).mono fun e W' ⟨he, bel⟩ => ?_
  subst he
  exact ⟨_, rfl, _, _, _, [], _, [], hW', trodAll_mk1 (shut_bool Try.underlying4 _), (trodAll_cons_mk (shut_int Try.underlying5 w0) (trodAll_cons_mk (shut_int Try.underlying22 w1) (trodAll_cons_mk (shut_int Try.underlying22 w2) trodAll_mk0))), rfl, bel.frame _, fun h => by cases h⟩

theorem over : Rows.seqAddsRow.holds Try.pinned (OpenSpec.ofChange Rows.seqAddsSpec) :=
  OpenClaim.holds_of_wide 3 Try.f3 rfl rfl rfl rfl rfl rfl rfl ⟨rfl, rfl, rfl, rfl, rfl⟩ rfl rfl rfl rfl rfl (by kernel_rfl) Try.func3 (by kernel_rfl)
    (of_decide_eq_true (by kernel_rfl)) (by unfold Func.isWrapper; first | (rw [if_pos (by decide +kernel)]; kernel_rfl) | (rw [if_neg (by decide +kernel)]; exact ⟨rfl, rfl⟩))
    (fun os started H enc _ => lifted os started H enc)

end Go.Proofs.Ytonlhddcdipgjab.LSeqAdds

namespace Go.Proofs.Ytonlhddcdipgjab
theorem seqAdds_holds : Rows.SeqAddsSaid := LSeqAdds.over
#print axioms seqAdds_holds
end Go.Proofs.Ytonlhddcdipgjab
