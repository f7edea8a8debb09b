/- SeqFar: whatever numbers come in, it returns true: how far every group is from every other one, whether it is open, or behind, and the ones behind it (up to 100,000 steps), are the document's; no condition. -/
import Derived.Test.YtonlhddcdipgjaaArgs
import Derived.Test.YtonlhddcdipgjaaSqAlive
import Derived.Test.YtonlhddcdipgjaaRefSix
namespace Go.Proofs.Ytonlhddcdipgjaa.LSeqFar
open Go.ChangeShapes Go.WideShapes Go.ChangeAt Go.RowKit
open Bt

theorem walk_low (b g n : Int) (w : World) (h : n < -100000) :
    Calls Try.prog 4 #[.int .i64 b, .int .i64 g, .int .i64 n] w fun e w' => e = .returned (.bool true) ∧ Below w.heap.size w w' := by
  have j : decide (n < -100000) = true := by simp; omega
  go_enter Try.func4, Try.ntmps4
  have D0 := Below.refl w.heap.size w
  have S1 := Hid.intro (alive_any w)
  go_wp2_with fail
  refine S1.out.mono ?_
  clear S1
  rintro e w1 ⟨rfl, B1⟩
  have D1 := D0.trans (B1.mono D0.size)
  clear B1 D0
  go_wp2
  go_ret
  exact ⟨rfl, D1⟩

theorem walk_high (b g n : Int) (w : World) (h2 : 100000 < n) :
    Calls Try.prog 4 #[.int .i64 b, .int .i64 g, .int .i64 n] w fun e w' => e = .returned (.bool true) ∧ Below w.heap.size w w' := by
  have j : decide (n < -100000) = false := by simp; omega
  have j2 : decide (100000 < n) = true := by simp; omega
  go_enter Try.func4, Try.ntmps4
  have D0 := Below.refl w.heap.size w
  have S1 := Hid.intro (alive_any w)
  go_wp2_with fail
  refine S1.out.mono ?_
  clear S1
  rintro e w1 ⟨rfl, B1⟩
  have D1 := D0.trans (B1.mono D0.size)
  clear B1 D0
  go_wp2
  go_ret
  exact ⟨rfl, D1⟩

set_option maxHeartbeats 1000000 in
theorem walk_in (b g n : Int) (w : World) (h : -100000 ≤ n) (h2 : n ≤ 100000) :
    Calls Try.prog 4 #[.int .i64 b, .int .i64 g, .int .i64 n] w fun e w' => e = .returned (.bool true) ∧ Below w.heap.size w w' := by
  have j : decide (n < -100000) = false := by simp; omega
  have j2 : decide (100000 < n) = false := by simp; omega
  have C1 := Hid.intro (fun w => sfar_any b g w)
  have C2 := Hid.intro (fun w => refFar_any b g w)
  have C3 := Hid.intro (fun w => sopen_any b g w)
  have C4 := Hid.intro (fun w => refOpen_any b g w)
  have C5 := Hid.intro (fun w => sbehind_any b g w)
  have C6 := Hid.intro (fun w => refBehind_any b g w)
  have C7 := Hid.intro (fun w => snext_any g n (by omega) w)
  have C8 := Hid.intro (fun w => refNext_any g n (by omega) w)
  generalize farA b g = f at C1 C2
  generalize openA b g = o at C3 C4
  generalize behindA b g = k at C5 C6
  generalize nextA g n = x at C7 C8
  have q1 : (f == f) = true := by simp
  have q2 : (o == o) = true := by simp
  have q3 : (k == k) = true := by simp
  have q4 : (x == x) = true := by simp
  go_enter Try.func4, Try.ntmps4
  have D0 := Below.refl w.heap.size w
  have S1 := Hid.intro (alive_any w)
  go_wp2_with fail
  refine S1.out.mono ?_
  clear S1
  rintro e w1 ⟨rfl, B1⟩
  have D1 := D0.trans (B1.mono D0.size)
  clear B1 D0
  have S2 := Hid.intro (C1.out w1)
  go_wp2_with fail
  refine S2.out.mono ?_
  clear S2
  rintro e w2 ⟨rfl, B2⟩
  have D2 := D1.trans (B2.mono D1.size)
  clear B2 D1
  go_wp2_with fail
  refine (C2.out w2).mono ?_
  rintro e w2b ⟨rfl, rfl⟩
  have S3 := Hid.intro (C3.out w2)
  go_wp2_with fail
  refine S3.out.mono ?_
  clear S3
  rintro e w3 ⟨rfl, B3⟩
  have D3 := D2.trans (B3.mono D2.size)
  clear B3 D2
  go_wp2_with fail
  refine (C4.out w3).mono ?_
  rintro e w3b ⟨rfl, rfl⟩
  have S4 := Hid.intro (C5.out w3)
  go_wp2_with fail
  refine S4.out.mono ?_
  clear S4
  rintro e w4 ⟨rfl, B4⟩
  have D4 := D3.trans (B4.mono D3.size)
  clear B4 D3
  go_wp2_with fail
  refine (C6.out w4).mono ?_
  rintro e w4b ⟨rfl, rfl⟩
  have S5 := Hid.intro (C7.out w4)
  go_wp2_with fail
  refine S5.out.mono ?_
  clear S5
  rintro e w5 ⟨rfl, B5⟩
  have D5 := D4.trans (B5.mono D4.size)
  clear B5 D4
  go_wp2_with fail
  refine (C8.out w5).mono ?_
  rintro e w5b ⟨rfl, rfl⟩
  go_wp2
  go_ret
  exact ⟨rfl, D5⟩

theorem walk (b g n : Int) (w : World) (_ : (Lit.int .i64 b).wf = true) (_ : (Lit.int .i64 g).wf = true) (_ : (Lit.int .i64 n).wf = true) :
    Calls Try.prog 4 #[.int .i64 b, .int .i64 g, .int .i64 n] w fun e w' => e = .returned (.bool true) ∧ Below w.heap.size w w' := by
  by_cases h : n < -100000
  · exact walk_low b g n w h
  · by_cases h2 : 100000 < n
    · exact walk_high b g n w h2
    · exact walk_in b g n w (by omega) (by omega)

set_option maxRecDepth 100000 in
theorem lifted (os : Os) (started : os.Started) (H : Type) (enc : TypeId × Value → H) :
    ReturnsInHanded {} Try.checked os 4 .any (Rows.seqFarSpec.pre6 enc Try.prog Try.f4 Rows.seqFarRow.domain false) (Rows.seqFarSpec.post enc Try.prog Try.f4 false true false false) := by
  refine returnsInHanded_of_change (C := Try.checked) own started (by kernel_rfl) Try.func4
    (ChangeSpec.witness6 (enc := enc) (C := Try.checked) false ⟨#[], #[.int .i64 0, .int .i64 0, .int .i64 0], []⟩ 8 (by kernel_rfl) (by kernel_rfl) (by kernel_rfl) (by kernel_rfl)) ?_
  intro W base args ds gs before hval0 hW hcnd _
  have hval : ∀ (j : Nat) t v, Try.f4.params[j]? = some t → args[j]? = some v → Value.okWide Try.prog W .any base t v := hval0
  have hW' := hW
  obtain ⟨p, q, hA0, hV, rfl, hfz, hnd⟩ := hW
  have hA : DataW.TrodAll enc Try.prog W 0 (fun _ => true) true Try.f4.params.toList args.toList ds p := hA0
  rw [Try.params4] at hA hval
  obtain ⟨v0, vs0, d0, ds0, p0, q0, hargs, rfl, rfl, h0, r0⟩ := trodAll_cons hA
  obtain ⟨v1, vs1, d1, ds1, p1, q1, rfl, rfl, rfl, h1, r1⟩ := trodAll_cons r0
  obtain ⟨v2, vs2, d2, ds2, p2, q2, rfl, rfl, rfl, h2, r2⟩ := trodAll_cons r1
  obtain ⟨rfl, rfl, rfl⟩ := trodAll_nil r2
  obtain rfl : args = #[v0, v1, v2] := by cases args; simp_all
  obtain ⟨rfl, rfl⟩ := trodVars_none hV
  obtain ⟨a0, rfl, rfl, rfl, w0⟩ := open_int Try.underlying3 (hval 0 3 v0 rfl rfl) h0
  obtain ⟨a1, rfl, rfl, rfl, w1⟩ := open_int Try.underlying3 (hval 1 3 v1 rfl rfl) h1
  obtain ⟨a2, rfl, rfl, rfl, w2⟩ := open_int Try.underlying3 (hval 2 3 v2 rfl rfl) h2
  clear hA0 hval0
  refine (walk a0 a1 a2 W w0 w1 w2).mono fun e W' ⟨he, bel⟩ => ?_
  subst he
  exact ⟨_, rfl, _, _, _, [], _, [], hW', trodAll_mk1 (shut_bool Try.underlying4 _), (trodAll_cons_mk (shut_int Try.underlying3 w0) (trodAll_cons_mk (shut_int Try.underlying3 w1) (trodAll_cons_mk (shut_int Try.underlying3 w2) trodAll_mk0))), rfl, bel.frame _, fun h => by cases h⟩

theorem over : Rows.seqFarRow.holds Try.pinned (OpenSpec.ofChange Rows.seqFarSpec) :=
  OpenClaim.holds_of_wide 4 Try.f4 rfl rfl rfl rfl rfl rfl rfl ⟨rfl, rfl, rfl, rfl, rfl⟩ rfl rfl rfl rfl rfl (by kernel_rfl) Try.func4 (by kernel_rfl)
    (of_decide_eq_true (by kernel_rfl)) (by unfold Func.isWrapper; first | (rw [if_pos (by decide +kernel)]; kernel_rfl) | (rw [if_neg (by decide +kernel)]; exact ⟨rfl, rfl⟩))
    (fun os started H enc _ => lifted os started H enc)

end Go.Proofs.Ytonlhddcdipgjaa.LSeqFar

namespace Go.Proofs.Ytonlhddcdipgjaa
theorem seqFar_holds : Rows.SeqFarSaid := LSeqFar.over
#print axioms seqFar_holds
end Go.Proofs.Ytonlhddcdipgjaa
