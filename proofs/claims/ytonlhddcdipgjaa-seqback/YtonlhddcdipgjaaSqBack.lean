/- SeqBack: whatever groups and number come in, it returns true: Next by Far is the group, steps there and back are none, no group is both open and behind, and two ways round are 256; no condition. -/
import Derived.Test.YtonlhddcdipgjaaArgs
import Derived.Test.YtonlhddcdipgjaaSqAlive
namespace Go.Proofs.Ytonlhddcdipgjaa.LSeqBack
open Go.ChangeShapes Go.WideShapes Go.ChangeAt Go.RowKit
open Bt

set_option maxHeartbeats 1000000 in
theorem walk (a b n : Int) (w : World) (ha : (Lit.int .u8 a).wf = true) (hb : (Lit.int .u8 b).wf = true) (hn : (Lit.int .i16 n).wf = true) :
    Calls Try.prog 5 #[.int .u8 a, .int .u8 b, .int .i16 n] w fun e w' => e = .returned (.bool true) ∧ Below w.heap.size w w' := by
  have ka := bounds_u8 ha
  have kb := bounds_u8 hb
  have kn : -32768 ≤ n ∧ n ≤ 32767 := bounds_i16 hn
  clear ha hb hn
  obtain ⟨f, hf⟩ : ∃ f, f = farA a b := ⟨_, rfl⟩
  obtain ⟨f2, hf2⟩ : ∃ f2, f2 = farA b a := ⟨_, rfl⟩
  obtain ⟨x, hx⟩ : ∃ x, x = nextA a n := ⟨_, rfl⟩
  have ef := farA_in ka kb
  have ef2 := farA_in kb ka
  have ex := nextA_in n ka
  rw [← hf] at ef
  rw [← hf2] at ef2
  rw [← hx] at ex
  have fb : 0 ≤ f ∧ f ≤ 255 := by omega
  have f2b : 0 ≤ f2 ∧ f2 ≤ 255 := by omega
  have xb : 0 ≤ x ∧ x ≤ 255 := by omega
  have n1 : nextA a f = b := by rw [nextA_in f ka]; omega
  have n2 : nextA x (-n) = a := by rw [nextA_in (-n) xb]; omega
  have ob : openA a b = true → behindA a b = false := by
    unfold openA behindA
    rw [← hf]
    intro h
    simp at h ⊢
    omega
  have s2 : a ≠ b → f + f2 = 256 := fun h => by omega
  have C1 := Hid.intro (fun w => sfar_any a b w)
  have C2 := Hid.intro (fun w => snext_any a f (by omega) w)
  have C3 := Hid.intro (fun w => snext_any a n (by omega) w)
  have C4 := Hid.intro (fun w => snext_any x (-n) (by omega) w)
  have C5 := Hid.intro (fun w => sopen_any a b w)
  have C6 := Hid.intro (fun w => sbehind_any a b w)
  have C7 := Hid.intro (fun w => sfar_any b a w)
  rw [← hf] at C1
  rw [n1] at C2
  rw [← hx] at C3
  rw [n2] at C4
  rw [← hf2] at C7
  have OB := Hid.intro ob
  have S2 := Hid.intro s2
  generalize openA a b = o at C5 OB
  generalize behindA a b = k at C6 OB
  have q1 : (b != b) = false := by simp
  have q2 : (a != a) = false := by simp
  clear hf hf2 hx ef ef2 ex n1 n2 ob s2
  by_cases hab : a = b
  · subst hab
    have q3 : (a == a) = true := by simp
    clear C7 S2
    go_enter Try.func5, Try.ntmps5
    have D0 := Below.refl w.heap.size w
    have S1 := Hid.intro (alive_any w)
    go_wp2_with fail
    refine S1.out.mono ?_
    clear S1
    rintro e w1 ⟨rfl, B1⟩
    have D1 := D0.trans (B1.mono D0.size)
    clear B1 D0
    have S2 := Hid.intro (C1.out w1)
    go_wp2_with fail
    refine S2.out.mono ?_
    clear S2
    rintro e w2 ⟨rfl, B2⟩
    have D2 := D1.trans (B2.mono D1.size)
    clear B2 D1
    have S3 := Hid.intro (C2.out w2)
    go_wp2_with fail
    refine S3.out.mono ?_
    clear S3
    rintro e w3 ⟨rfl, B3⟩
    have D3 := D2.trans (B3.mono D2.size)
    clear B3 D2
    have S4 := Hid.intro (C3.out w3)
    go_wp2_with fail
    refine S4.out.mono ?_
    clear S4
    rintro e w4 ⟨rfl, B4⟩
    have D4 := D3.trans (B4.mono D3.size)
    clear B4 D3
    have S5 := Hid.intro (C4.out w4)
    go_wp2_with fail
    refine S5.out.mono ?_
    clear S5
    rintro e w5 ⟨rfl, B5⟩
    have D5 := D4.trans (B5.mono D4.size)
    clear B5 D4
    have S6 := Hid.intro (C5.out w5)
    go_wp2_with fail
    refine S6.out.mono ?_
    clear S6
    rintro e w6 ⟨rfl, B6⟩
    have D6 := D5.trans (B6.mono D5.size)
    clear B6 D5
    rcases o with _ | _
    · go_wp2
      go_ret
      exact ⟨rfl, D6⟩
    · have hk := OB.out rfl
      subst hk
      have S7 := Hid.intro (C6.out w6)
      go_wp2_with fail
      refine S7.out.mono ?_
      clear S7
      rintro e w7 ⟨rfl, B7⟩
      have D7 := D6.trans (B7.mono D6.size)
      clear B7 D6
      go_wp2
      go_ret
      exact ⟨rfl, D7⟩
  · have q3 : (a == b) = false := by rw [beq_eq_false_iff_ne]; exact hab
    have q4 := S2.out hab
    clear S2
    go_enter Try.func5, Try.ntmps5
    have D0 := Below.refl w.heap.size w
    have S1 := Hid.intro (alive_any w)
    go_wp2_with fail
    refine S1.out.mono ?_
    clear S1
    rintro e w1 ⟨rfl, B1⟩
    have D1 := D0.trans (B1.mono D0.size)
    clear B1 D0
    have C1b := C1
    have S2 := Hid.intro (C1.out w1)
    go_wp2_with fail
    refine S2.out.mono ?_
    clear S2
    rintro e w2 ⟨rfl, B2⟩
    have D2 := D1.trans (B2.mono D1.size)
    clear B2 D1
    have S3 := Hid.intro (C2.out w2)
    go_wp2_with fail
    refine S3.out.mono ?_
    clear S3
    rintro e w3 ⟨rfl, B3⟩
    have D3 := D2.trans (B3.mono D2.size)
    clear B3 D2
    have S4 := Hid.intro (C3.out w3)
    go_wp2_with fail
    refine S4.out.mono ?_
    clear S4
    rintro e w4 ⟨rfl, B4⟩
    have D4 := D3.trans (B4.mono D3.size)
    clear B4 D3
    have S5 := Hid.intro (C4.out w4)
    go_wp2_with fail
    refine S5.out.mono ?_
    clear S5
    rintro e w5 ⟨rfl, B5⟩
    have D5 := D4.trans (B5.mono D4.size)
    clear B5 D4
    have S6 := Hid.intro (C5.out w5)
    go_wp2_with fail
    refine S6.out.mono ?_
    clear S6
    rintro e w6 ⟨rfl, B6⟩
    have D6 := D5.trans (B6.mono D5.size)
    clear B6 D5
    rcases o with _ | _
    · clear C6
      have S7 := Hid.intro (C1b.out w6)
      go_wp2_with fail
      refine S7.out.mono ?_
      clear S7
      rintro e w7 ⟨rfl, B7⟩
      have D7 := D6.trans (B7.mono D6.size)
      clear B7 D6
      have S8 := Hid.intro (C7.out w7)
      go_wp2_with fail
      refine S8.out.mono ?_
      clear S8
      rintro e w8 ⟨rfl, B8⟩
      have D8 := D7.trans (B8.mono D7.size)
      clear B8 D7
      go_wp2
      go_ret
      exact ⟨rfl, D8⟩
    · have hk := OB.out rfl
      subst hk
      have S7 := Hid.intro (C6.out w6)
      go_wp2_with fail
      refine S7.out.mono ?_
      clear S7
      rintro e w7 ⟨rfl, B7⟩
      have D7 := D6.trans (B7.mono D6.size)
      clear B7 D6
      have S8 := Hid.intro (C1b.out w7)
      go_wp2_with fail
      refine S8.out.mono ?_
      clear S8
      rintro e w8 ⟨rfl, B8⟩
      have D8 := D7.trans (B8.mono D7.size)
      clear B8 D7
      have S9 := Hid.intro (C7.out w8)
      go_wp2_with fail
      refine S9.out.mono ?_
      clear S9
      rintro e w9 ⟨rfl, B9⟩
      have D9 := D8.trans (B9.mono D8.size)
      clear B9 D8
      go_wp2
      go_ret
      exact ⟨rfl, D9⟩

set_option maxRecDepth 100000 in
theorem lifted (os : Os) (started : os.Started) (H : Type) (enc : TypeId × Value → H) :
    ReturnsInHanded {} Try.checked os 5 .any (Rows.seqBackSpec.pre6 enc Try.prog Try.f5 Rows.seqBackRow.domain false) (Rows.seqBackSpec.post enc Try.prog Try.f5 false true false false) := by
  refine returnsInHanded_of_change (C := Try.checked) own started (by kernel_rfl) Try.func5
    (ChangeSpec.witness6 (enc := enc) (C := Try.checked) false ⟨#[], #[.int .u8 0, .int .u8 0, .int .i16 0], []⟩ 8 (by kernel_rfl) (by kernel_rfl) (by kernel_rfl) (by kernel_rfl)) ?_
  intro W base args ds gs before hval0 hW hcnd _
  have hval : ∀ (j : Nat) t v, Try.f5.params[j]? = some t → args[j]? = some v → Value.okWide Try.prog W .any base t v := hval0
  have hW' := hW
  obtain ⟨p, q, hA0, hV, rfl, hfz, hnd⟩ := hW
  have hA : DataW.TrodAll enc Try.prog W 0 (fun _ => true) true Try.f5.params.toList args.toList ds p := hA0
  rw [Try.params5] at hA hval
  obtain ⟨v0, vs0, d0, ds0, p0, q0, hargs, rfl, rfl, h0, r0⟩ := trodAll_cons hA
  obtain ⟨v1, vs1, d1, ds1, p1, q1, rfl, rfl, rfl, h1, r1⟩ := trodAll_cons r0
  obtain ⟨v2, vs2, d2, ds2, p2, q2, rfl, rfl, rfl, h2, r2⟩ := trodAll_cons r1
  obtain ⟨rfl, rfl, rfl⟩ := trodAll_nil r2
  obtain rfl : args = #[v0, v1, v2] := by cases args; simp_all
  obtain ⟨rfl, rfl⟩ := trodVars_none hV
  obtain ⟨a0, rfl, rfl, rfl, w0⟩ := open_int Try.underlying5 (hval 0 5 v0 rfl rfl) h0
  obtain ⟨a1, rfl, rfl, rfl, w1⟩ := open_int Try.underlying5 (hval 1 5 v1 rfl rfl) h1
  obtain ⟨a2, rfl, rfl, rfl, w2⟩ := open_int Try.underlying31 (hval 2 31 v2 rfl rfl) h2
  clear hA0 hval0
  refine (walk a0 a1 a2 W w0 w1 w2).mono fun e W' ⟨he, bel⟩ => ?_
  subst he
  exact ⟨_, rfl, _, _, _, [], _, [], hW', trodAll_mk1 (shut_bool Try.underlying4 _), (trodAll_cons_mk (shut_int Try.underlying5 w0) (trodAll_cons_mk (shut_int Try.underlying5 w1) (trodAll_cons_mk (shut_int Try.underlying31 w2) trodAll_mk0))), rfl, bel.frame _, fun h => by cases h⟩

theorem over : Rows.seqBackRow.holds Try.pinned (OpenSpec.ofChange Rows.seqBackSpec) :=
  OpenClaim.holds_of_wide 5 Try.f5 rfl rfl rfl rfl rfl rfl rfl ⟨rfl, rfl, rfl, rfl, rfl⟩ rfl rfl rfl rfl rfl (by kernel_rfl) Try.func5 (by kernel_rfl)
    (of_decide_eq_true (by kernel_rfl)) (by unfold Func.isWrapper; first | (rw [if_pos (by decide +kernel)]; kernel_rfl) | (rw [if_neg (by decide +kernel)]; exact ⟨rfl, rfl⟩))
    (fun os started H enc _ => lifted os started H enc)

end Go.Proofs.Ytonlhddcdipgjaa.LSeqBack

namespace Go.Proofs.Ytonlhddcdipgjaa
theorem seqBack_holds : Rows.SeqBackSaid := LSeqBack.over
#print axioms seqBack_holds
end Go.Proofs.Ytonlhddcdipgjaa
