/- SeqRound: whatever group and number come in, it returns true: 256 steps are none, and the group n steps behind is n far; no condition. -/
import Derived.Test.YtonlhddcdipgjaaArgs
import Derived.Test.YtonlhddcdipgjaaSqAlive
namespace Go.Proofs.Ytonlhddcdipgjaa.LSeqRound
open Go.ChangeShapes Go.WideShapes Go.ChangeAt Go.RowKit
open Bt

set_option maxHeartbeats 1000000 in
theorem walk (a n : Int) (w : World) (ha : (Lit.int .u8 a).wf = true) (hn : (Lit.int .u8 n).wf = true) :
    Calls Try.prog 6 #[.int .u8 a, .int .u8 n] w fun e w' => e = .returned (.bool true) ∧ Below w.heap.size w w' := by
  have ka := bounds_u8 ha
  have kn := bounds_u8 hn
  clear ha hn
  obtain ⟨x, hx⟩ : ∃ x, x = nextA a n := ⟨_, rfl⟩
  have ex := nextA_in n ka
  rw [← hx] at ex
  have xb : 0 ≤ x ∧ x ≤ 255 := by omega
  have n1 : nextA a 256 = a := by rw [nextA_in 256 ka]; omega
  have n2 : farA a x = n := by rw [farA_in ka xb]; omega
  have n3 : nextA a (n - 256) = x := by rw [nextA_in (n - 256) ka]; omega
  have C1 := Hid.intro (fun w => snext_any a 256 (by omega) w)
  have C2 := Hid.intro (fun w => snext_any a n (by omega) w)
  have C3 := Hid.intro (fun w => sfar_any a x w)
  have C4 := Hid.intro (fun w => snext_any a (n - 256) (by omega) w)
  rw [n1] at C1
  rw [← hx] at C2
  rw [n2] at C3
  rw [n3] at C4
  have q1 : (a == a) = true := by simp
  have q2 : (n == n) = true := by simp
  have q3 : (x == x) = true := by simp
  clear hx ex n1 n2 n3
  go_enter Try.func6, Try.ntmps6
  have D0 := Below.refl w.heap.size w
  have S1 := Hid.intro (alive_any w)
  go_wp2_with fail
  refine S1.out.mono ?_
  clear S1
  rintro e w1 ⟨rfl, B1⟩
  have D1 := D0.trans (B1.mono D0.size)
  clear B1 D0
  have S2 := Hid.intro (C1.out w1)
  go_wp2_with fail
  refine S2.out.mono ?_
  clear S2
  rintro e w2 ⟨rfl, B2⟩
  have D2 := D1.trans (B2.mono D1.size)
  clear B2 D1
  have S3 := Hid.intro (C2.out w2)
  go_wp2_with fail
  refine S3.out.mono ?_
  clear S3
  rintro e w3 ⟨rfl, B3⟩
  have D3 := D2.trans (B3.mono D2.size)
  clear B3 D2
  have S4 := Hid.intro (C3.out w3)
  go_wp2_with fail
  refine S4.out.mono ?_
  clear S4
  rintro e w4 ⟨rfl, B4⟩
  have D4 := D3.trans (B4.mono D3.size)
  clear B4 D3
  have S5 := Hid.intro (C4.out w4)
  go_wp2_with fail
  refine S5.out.mono ?_
  clear S5
  rintro e w5 ⟨rfl, B5⟩
  have D5 := D4.trans (B5.mono D4.size)
  clear B5 D4
  have S6 := Hid.intro (C2.out w5)
  go_wp2_with fail
  refine S6.out.mono ?_
  clear S6
  rintro e w6 ⟨rfl, B6⟩
  have D6 := D5.trans (B6.mono D5.size)
  clear B6 D5
  go_wp2
  go_ret
  exact ⟨rfl, D6⟩

set_option maxRecDepth 100000 in
theorem lifted (os : Os) (started : os.Started) (H : Type) (enc : TypeId × Value → H) :
    ReturnsInHanded {} Try.checked os 6 .any (Rows.seqRoundSpec.pre6 enc Try.prog Try.f6 Rows.seqRoundRow.domain false) (Rows.seqRoundSpec.post enc Try.prog Try.f6 false true false false) := by
  refine returnsInHanded_of_change (C := Try.checked) own started (by kernel_rfl) Try.func6
    (ChangeSpec.witness6 (enc := enc) (C := Try.checked) false ⟨#[], #[.int .u8 0, .int .u8 0], []⟩ 8 (by kernel_rfl) (by kernel_rfl) (by kernel_rfl) (by kernel_rfl)) ?_
  intro W base args ds gs before hval0 hW hcnd _
  have hval : ∀ (j : Nat) t v, Try.f6.params[j]? = some t → args[j]? = some v → Value.okWide Try.prog W .any base t v := hval0
  have hW' := hW
  obtain ⟨p, q, hA0, hV, rfl, hfz, hnd⟩ := hW
  have hA : DataW.TrodAll enc Try.prog W 0 (fun _ => true) true Try.f6.params.toList args.toList ds p := hA0
  rw [Try.params6] at hA hval
  obtain ⟨v0, vs0, d0, ds0, p0, q0, hargs, rfl, rfl, h0, r0⟩ := trodAll_cons hA
  obtain ⟨v1, vs1, d1, ds1, p1, q1, rfl, rfl, rfl, h1, r1⟩ := trodAll_cons r0
  obtain ⟨rfl, rfl, rfl⟩ := trodAll_nil r1
  obtain rfl : args = #[v0, v1] := by cases args; simp_all
  obtain ⟨rfl, rfl⟩ := trodVars_none hV
  obtain ⟨a0, rfl, rfl, rfl, w0⟩ := open_int Try.underlying5 (hval 0 5 v0 rfl rfl) h0
  obtain ⟨a1, rfl, rfl, rfl, w1⟩ := open_int Try.underlying5 (hval 1 5 v1 rfl rfl) h1
  clear hA0 hval0
  refine (walk a0 a1 W w0 w1).mono fun e W' ⟨he, bel⟩ => ?_
  subst he
  exact ⟨_, rfl, _, _, _, [], _, [], hW', trodAll_mk1 (shut_bool Try.underlying4 _), (trodAll_cons_mk (shut_int Try.underlying5 w0) (trodAll_cons_mk (shut_int Try.underlying5 w1) trodAll_mk0)), rfl, bel.frame _, fun h => by cases h⟩

theorem over : Rows.seqRoundRow.holds Try.pinned (OpenSpec.ofChange Rows.seqRoundSpec) :=
  OpenClaim.holds_of_wide 6 Try.f6 rfl rfl rfl rfl rfl rfl rfl ⟨rfl, rfl, rfl, rfl, rfl⟩ rfl rfl rfl rfl rfl (by kernel_rfl) Try.func6 (by kernel_rfl)
    (of_decide_eq_true (by kernel_rfl)) (by unfold Func.isWrapper; first | (rw [if_pos (by decide +kernel)]; kernel_rfl) | (rw [if_neg (by decide +kernel)]; exact ⟨rfl, rfl⟩))
    (fun os started H enc _ => lifted os started H enc)

end Go.Proofs.Ytonlhddcdipgjaa.LSeqRound

namespace Go.Proofs.Ytonlhddcdipgjaa
theorem seqRound_holds : Rows.SeqRoundSaid := LSeqRound.over
#print axioms seqRound_holds
end Go.Proofs.Ytonlhddcdipgjaa
