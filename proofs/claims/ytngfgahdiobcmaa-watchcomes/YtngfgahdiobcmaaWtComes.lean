/- The statement WatchComes: a bed that comes isn't lost until it was silent for more ticks than it may be, and is once it was. -/
import Derived.Test.YtngfgahdiobcmaaWtAlive
import Derived.Test.YtngfgahdiobcmaaWtOne
import Derived.Test.YtngfgahdiobcmaaWtRng
import Derived.Test.YtngfgahdiobcmaaArgs
namespace Go.Proofs.Ytngfgahdiobcmaa
open Go.ChangeShapes Go.WideShapes Go.ChangeAt Go.RowKit
open Bt

namespace LWatchComes

set_option maxRecDepth 100000 in
set_option maxHeartbeats 2000000 in
theorem walk_nat (most : Int) (N M : Nat) (hN : N < 65536) (hM : M < 65536) (w : World) :
    Calls Try.prog 6 #[.int .i64 most, .int .u16 (N : Int), .int .u16 (M : Int)] w fun e w' => e = .returned (.bool true) ∧ Below w.heap.size w w' := by
  have AL := Hid.intro (alive15_any w)
  go_enter Try.func6, Try.ntmps6
  go_wp2_with fail
  refine AL.out.mono ?_
  rintro e w1 ⟨rfl, B1⟩
  have BH := Hid.intro B1
  clear AL B1
  go_wp2_with fail
  refine (wnew_any w1).mono ?_
  rintro e w2 ⟨b, T, rfl, hS, hF, B2⟩
  have P1 := tadd 4 most N (tw_small (by omega) (by omega)) (one_new (P := WS b []) hS hF B2)
  clear hS hF B2
  cases hm : mostWb most with
  | false =>
    rw [o1_not hm] at P1
    have PH := Hid.intro P1
    have hm' := mostWb_false hm
    clear P1 hm
    go_wp2_with fail
    refine PH.out.mono ?_
    rintro e w3 ⟨rfl, L3⟩
    have FI := Hid.intro (BH.out.trans ((L3.out (Nat.le_refl _)).mono BH.out.size))
    clear PH L3 BH
    by_cases q : most < 1
    · go_wp2
      go_ret
      exact ⟨rfl, FI.out⟩
    · have q2 : 1000 < most := by omega
      clear hm'
      go_wp2
      go_ret
      exact ⟨rfl, FI.out⟩
  | true =>
    rw [(o1_add (N : Int) hm).1, (o1_add (N : Int) hm).2] at P1
    have PH := Hid.intro P1
    have hm' := mostWb_true hm
    clear P1 hm
    go_wp2_with fail
    refine PH.out.mono ?_
    rintro e w3 ⟨rfl, L3⟩
    have P2 := tlost 4 L3
    rw [o1_lost] at P2
    have P2H := Hid.intro P2
    clear PH P2 L3
    go_wp2_with fail
    refine P2H.out.mono ?_
    rintro e w4 ⟨rfl, L4⟩
    have P3 := tlook ((N : Int) + (M : Int)) (tw_small (by omega) (by omega)) L4
    rw [o1_look, o1_told] at P3
    have ed : decide ((N : Int) + most < (N : Int) + (M : Int)) = decide (most < (M : Int)) := by
      by_cases q : most < (M : Int)
      · rw [decide_eq_true q, decide_eq_true (by omega)]
      · rw [decide_eq_false q, decide_eq_false (by omega)]
    rw [ed, Bool.false_or] at P3
    have wr1 : IntKind.i64.wrap ((N : Int) + (M : Int)) = (N : Int) + (M : Int) := by unfold IntKind.wrap; simp [IntKind.bits, IntKind.signed]; omega
    have LK := Hid.intro (fun (F : Nat → Prop) (w0 w : World) (x : Bool) (hx : x = decide (most < (M : Int))) (h : One (WS b [⟨4, most, (N : Int), x⟩]) F w0 w) => tlook ((N : Int) + (M : Int)) (tw_small (by omega) (by omega)) h)
    have LZ : Hid (∀ x : Bool, x = decide (most < (M : Int)) → lookWl [⟨4, most, (N : Int), x⟩] ((N : Int) + (M : Int)) = []) := fun x hx => by
      rw [o1_told, if_neg]
      rintro ⟨q1, q2⟩
      rw [hx, decide_eq_false_iff_not] at q1
      omega
    by_cases q : most < (M : Int)
    · rw [if_pos ⟨rfl, by omega⟩, decide_eq_true q] at P3
      rw [decide_eq_true q] at LK LZ
      have PH := Hid.intro P3
      clear P3 P2H L4 ed
      go_wp2_with fail
      refine PH.out.mono ?_
      rintro e w5 ⟨v5, rfl, n5, L5, _⟩
      obtain ⟨a5, c5, rfl⟩ := n5.len
      simp only [List.length_cons, List.length_nil, Nat.reduceAdd]
      have P4 := tlost 4 L5
      rw [o1_lost] at P4
      have P4H := Hid.intro P4
      clear P4 L5 n5 PH
      go_wp2_with fail
      refine P4H.out.mono ?_
      rintro e w6 ⟨rfl, L6⟩
      have P5 := LK.out _ _ _ true rfl L6
      rw [LZ.out true rfl] at P5
      have P5H := Hid.intro P5
      clear P5 L6 P4H LK LZ
      go_wp2_with fail
      refine P5H.out.mono ?_
      rintro e w7 ⟨v7, rfl, n7, L7, _⟩
      obtain ⟨a7, c7, rfl⟩ := n7.len
      have FI := Hid.intro (BH.out.trans ((L7.out (Nat.le_refl _)).mono BH.out.size))
      clear n7 L7 P5H BH
      go_wp2
      go_ret
      exact ⟨rfl, FI.out⟩
    · have q' : ¬ most < (M : Int) := q
      rw [if_neg (fun r => q' (by omega)), decide_eq_false q'] at P3
      rw [decide_eq_false q'] at LK LZ
      have PH := Hid.intro P3
      clear P3 P2H L4 ed
      go_wp2_with fail
      refine PH.out.mono ?_
      rintro e w5 ⟨v5, rfl, n5, L5, _⟩
      obtain ⟨a5, c5, rfl⟩ := n5.len
      simp only [List.length_nil]
      have P4 := tlost 4 L5
      rw [o1_lost] at P4
      have P4H := Hid.intro P4
      have q2 : ¬ most < (M : Int) := by omega
      clear P4 L5 n5 PH
      go_wp2_with fail
      refine P4H.out.mono ?_
      rintro e w6 ⟨rfl, L6⟩
      have P5 := LK.out _ _ _ false rfl L6
      rw [LZ.out false rfl] at P5
      have P5H := Hid.intro P5
      clear P5 L6 P4H LK LZ
      go_wp2_with fail
      refine P5H.out.mono ?_
      rintro e w7 ⟨v7, rfl, n7, L7, _⟩
      obtain ⟨a7, c7, rfl⟩ := n7.len
      have FI := Hid.intro (BH.out.trans ((L7.out (Nat.le_refl _)).mono BH.out.size))
      clear n7 L7 P5H BH
      go_wp2
      go_ret
      exact ⟨rfl, FI.out⟩

theorem walk (most n m : Int) (w : World) (_ : (Lit.int .i64 most).wf = true) (h1 : (Lit.int .u16 n).wf = true) (h2 : (Lit.int .u16 m).wf = true) :
    Calls Try.prog 6 #[.int .i64 most, .int .u16 n, .int .u16 m] w fun e w' => e = .returned (.bool true) ∧ Below w.heap.size w w' := by
  obtain ⟨N, rfl, hN⟩ := u16_nat h1
  obtain ⟨M, rfl, hM⟩ := u16_nat h2
  exact walk_nat most N M hN hM w

set_option maxRecDepth 100000 in
theorem lifted (os : Os) (started : os.Started) (H : Type) (enc : TypeId × Value → H) :
    ReturnsInHanded {} Try.checked os 6 .any (Rows.watchComesSpec.pre6 enc Try.prog Try.f6 Rows.watchComesRow.domain false) (Rows.watchComesSpec.post enc Try.prog Try.f6 false true false false) := by
  refine returnsInHanded_of_change (C := Try.checked) own started (by kernel_rfl) Try.func6
    (ChangeSpec.witness6 (enc := enc) (C := Try.checked) false ⟨#[], #[.int .i64 0, .int .u16 0, .int .u16 0], []⟩ 8 (by kernel_rfl) (by kernel_rfl) (by kernel_rfl) (by kernel_rfl)) ?_
  intro W base args ds gs before hval0 hW hcnd _
  have hval : ∀ (j : Nat) t v, Try.f6.params[j]? = some t → args[j]? = some v → Value.okWide Try.prog W .any base t v := hval0
  have hW' := hW
  obtain ⟨p, q, hA0, hV, rfl, hfz, hnd⟩ := hW
  have hA : DataW.TrodAll enc Try.prog W 0 (fun _ => true) true Try.f6.params.toList args.toList ds p := hA0
  rw [Try.params6] at hA hval
  obtain ⟨v0, vs0, d0, ds0, p0, q0, hargs, rfl, rfl, h0, r0⟩ := trodAll_cons hA
  obtain ⟨v1, vs1, d1, ds1, p1, q1, rfl, rfl, rfl, h1, r1⟩ := trodAll_cons r0
  obtain ⟨v2, vs2, d2, ds2, p2, q2, rfl, rfl, rfl, h2, r2⟩ := trodAll_cons r1
  obtain ⟨rfl, rfl, rfl⟩ := trodAll_nil r2
  obtain rfl : args = #[v0, v1, v2] := by cases args; simp_all
  obtain ⟨rfl, rfl⟩ := trodVars_none hV
  obtain ⟨a0, rfl, rfl, rfl, w0⟩ := open_int Try.underlying3 (hval 0 3 v0 rfl rfl) h0
  obtain ⟨a1, rfl, rfl, rfl, w1⟩ := open_int Try.underlying43 (hval 1 43 v1 rfl rfl) h1
  obtain ⟨a2, rfl, rfl, rfl, w2⟩ := open_int Try.underlying43 (hval 2 43 v2 rfl rfl) h2
  clear hA0 hval0
  refine (walk a0 a1 a2 W w0 w1 w2).mono fun e W' ⟨he, bel⟩ => ?_
  subst he
  exact ⟨_, rfl, _, _, _, [], _, [], hW', trodAll_mk1 (shut_bool Try.underlying4 _), (trodAll_cons_mk (shut_int Try.underlying3 w0) (trodAll_cons_mk (shut_int Try.underlying43 w1) (trodAll_cons_mk (shut_int Try.underlying43 w2) trodAll_mk0))), rfl, bel.frame _, fun h => by cases h⟩

theorem over : Rows.watchComesRow.holds Try.pinned (OpenSpec.ofChange Rows.watchComesSpec) :=
  OpenClaim.holds_of_wide 6 Try.f6 rfl rfl rfl rfl rfl rfl rfl ⟨rfl, rfl, rfl, rfl, rfl⟩ rfl rfl rfl rfl rfl (by kernel_rfl) Try.func6 (by kernel_rfl)
    (of_decide_eq_true (by kernel_rfl)) (by unfold Func.isWrapper; first | (rw [if_pos (by decide +kernel)]; kernel_rfl) | (rw [if_neg (by decide +kernel)]; exact ⟨rfl, rfl⟩))
    (fun os started H enc _ => lifted os started H enc)

end Go.Proofs.Ytngfgahdiobcmaa.LWatchComes

namespace Go.Proofs.Ytngfgahdiobcmaa
theorem watchComes_holds : Rows.WatchComesSaid := LWatchComes.over
#print axioms watchComes_holds
end Go.Proofs.Ytngfgahdiobcmaa
