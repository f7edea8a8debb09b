/- The statement PanelAgain: an alarm that is raised again behind being cleared stands since then, and isn't acknowledged. -/
import Derived.Test.YtbeeigfcchjdlabPnAlive
import Derived.Test.YtbeeigfcchjdlabPnOne
import Derived.Test.YtbeeigfcchjdlabArgs
namespace Go.Proofs.Ytbeeigfcchjdlab
open Go.ChangeShapes Go.WideShapes Go.ChangeAt Go.RowKit
open Pn

namespace LPanelAgain

set_option maxRecDepth 100000 in
set_option maxHeartbeats 2000000 in
theorem walk_bad (bed kind a b : Int) (hk : kindA kind = false) (hlt : kind < 0 ∨ 4 < kind) (w : World) :
    Calls Try.prog 3 #[.int .i64 bed, .int .i64 kind, .int .i64 a, .int .i64 b] w fun e w' => e = .returned (.bool true) ∧ Below w.heap.size w w' := by
  have AL := Hid.intro (alive16_any w)
  by_cases q : kind < 0
  · clear hlt
    go_enter Try.func3, Try.ntmps3
    go_wp2_with fail
    refine AL.out.mono ?_
    rintro e w1 ⟨rfl, B1⟩
    have BH := Hid.intro B1
    clear AL B1
    go_wp2_with fail
    refine (pnew_any w1).mono ?_
    rintro e w2 ⟨p, T, rfl, hS, hF, B2⟩
    have P1 := traise bed kind a (one_new (P := PK p [] 0) hS hF B2)
    rw [(r_bad (now := a) [] hk).1, (r_bad (now := a) [] hk).2] at P1
    have PH := Hid.intro P1
    clear hS hF B2 P1
    go_wp2_with fail
    refine PH.out.mono ?_
    rintro e w3 ⟨rfl, L3⟩
    have FI := Hid.intro (BH.out.trans ((L3.out (Nat.le_refl _)).mono BH.out.size))
    clear PH L3 BH
    go_wp2
    go_ret
    exact ⟨rfl, FI.out⟩
  · have q2 : 4 < kind := by omega
    clear hlt
    go_enter Try.func3, Try.ntmps3
    go_wp2_with fail
    refine AL.out.mono ?_
    rintro e w1 ⟨rfl, B1⟩
    have BH := Hid.intro B1
    clear AL B1
    go_wp2_with fail
    refine (pnew_any w1).mono ?_
    rintro e w2 ⟨p, T, rfl, hS, hF, B2⟩
    have P1 := traise bed kind a (one_new (P := PK p [] 0) hS hF B2)
    rw [(r_bad (now := a) [] hk).1, (r_bad (now := a) [] hk).2] at P1
    have PH := Hid.intro P1
    clear hS hF B2 P1
    go_wp2_with fail
    refine PH.out.mono ?_
    rintro e w3 ⟨rfl, L3⟩
    have FI := Hid.intro (BH.out.trans ((L3.out (Nat.le_refl _)).mono BH.out.size))
    clear PH L3 BH
    go_wp2
    go_ret
    exact ⟨rfl, FI.out⟩

set_option maxRecDepth 100000 in
set_option maxHeartbeats 2000000 in
theorem walk_good (bed kind a b : Int) (hk : kindA kind = true) (k1 : ¬ kind < 0) (k2 : ¬ 4 < kind) (w : World) :
    Calls Try.prog 3 #[.int .i64 bed, .int .i64 kind, .int .i64 a, .int .i64 b] w fun e w' => e = .returned (.bool true) ∧ Below w.heap.size w w' := by
  have AL := Hid.intro (alive16_any w)
  have HK := Hid.intro hk
  have se : ∀ W, (Op.equalIn 10000 30 (.agg #[.int .i64 bed, .int .i64 kind, .int .i64 b, .bool true, .bool false]) (.agg #[.int .i64 bed, .int .i64 kind, .int .i64 b, .bool true, .bool false])).run Try.prog W = .ok true W := fun W => by
    rw [al_eq]
    simp
  clear hk
  go_enter Try.func3, Try.ntmps3
  go_wp2_with fail
  refine AL.out.mono ?_
  rintro e w1 ⟨rfl, B1⟩
  have BH := Hid.intro B1
  clear AL B1
  go_wp2_with fail
  refine (pnew_any w1).mono ?_
  rintro e w2 ⟨p, T, rfl, hS, hF, B2⟩
  have P1 := traise bed kind a (one_new (P := PK p [] 0) hS hF B2)
  rw [(r_none (now := a) HK.out).1, (r_none (now := a) HK.out).2] at P1
  have PH := Hid.intro P1
  clear hS hF B2 P1
  go_wp2_with fail
  refine PH.out.mono ?_
  rintro e w3 ⟨rfl, L3⟩
  have P2 := traise bed kind b L3
  rw [(r_on (now := b) HK.out false).1, (r_on (now := b) HK.out false).2] at P2
  have P2H := Hid.intro P2
  clear PH P2 L3
  go_wp2_with fail
  refine P2H.out.mono ?_
  rintro e w4 ⟨rfl, L4⟩
  have P3 := tclear bed kind L4
  rw [(c_one true false).1, (c_one true false).2, if_pos rfl, if_neg (by decide)] at P3
  have P3H := Hid.intro P3
  clear P2H P3 L4
  go_wp2_with fail
  refine P3H.out.mono ?_
  rintro e w5 ⟨rfl, L5⟩
  have P4 := traise bed kind b L5
  rw [(r_off (now := b) HK.out false).1, (r_off (now := b) HK.out false).2] at P4
  have P4H := Hid.intro P4
  clear P3H P4 L5
  go_wp2_with fail
  refine P4H.out.mono ?_
  rintro e w6 ⟨rfl, L6⟩
  have P5H := Hid.intro (tlist L6)
  have O5 := Hid.intro L6
  clear P4H L6
  go_wp2_with fail
  refine P5H.out.mono ?_
  rintro e w7 ⟨ao, c, rfl, N7, L7⟩
  have G7 := Hid.intro (L7.here)
  have nn := N7.own
  obtain ⟨oa, oc, e6, z6⟩ := ownsRow_form nn
  obtain ⟨g, hg⟩ := z6.resolve_left (by simp)
  simp only [Value.slice.injEq] at e6
  obtain ⟨rfl, _, rfl⟩ := e6
  subst hg
  obtain ⟨d0, d1, d2, d3, d4⟩ := al_at (L := [⟨bed, kind, b, true, false⟩]) nn (t := 0) (by simp)
  change w7.cell? ⟨g, 0, none⟩ = some (.int .i64 bed) at d0
  change w7.cell? ⟨g, 1, none⟩ = some (.int .i64 kind) at d1
  change w7.cell? ⟨g, 2, none⟩ = some (.int .i64 b) at d2
  change w7.cell? ⟨g, 3, none⟩ = some (.bool true) at d3
  change w7.cell? ⟨g, 4, none⟩ = some (.bool false) at d4
  have P6 := tack bed kind L7
  rw [(a_one true false).1, (a_one true false).2, if_neg (by decide), if_pos rfl] at P6
  have P6H := Hid.intro P6
  have pl : ([⟨bed, kind, b, true, false⟩] : List Al).length = 1 := rfl
  simp only [pl]
  clear P5H P6 O5 G7 N7 L7 nn z6
  go_wp2_with fail
  refine P6H.out.mono ?_
  rintro e w8 ⟨rfl, L8⟩
  have P7 := tclear bed kind L8
  rw [(c_one true true).1, (c_one true true).2, if_pos rfl, if_pos rfl] at P7
  have P7H := Hid.intro P7
  clear P6H P7 L8 d0 d1 d2 d3 d4
  go_wp2_with fail
  refine P7H.out.mono ?_
  rintro e w9 ⟨rfl, L9⟩
  have P8H := Hid.intro (tlist L9)
  clear P7H L9
  go_wp2_with fail
  refine P8H.out.mono ?_
  rintro e w10 ⟨ad, cd, rfl, _, L10⟩
  have FI := Hid.intro (BH.out.trans ((L10.out (Nat.le_refl _)).mono BH.out.size))
  simp only [List.length_nil]
  clear P8H L10 BH
  go_wp2
  go_ret
  exact ⟨rfl, FI.out⟩

theorem walk (bed kind a b : Int) (w : World) (_ : (Lit.int .i64 bed).wf = true) (_ : (Lit.int .i64 kind).wf = true) (_ : (Lit.int .i64 a).wf = true) (_ : (Lit.int .i64 b).wf = true) :
    Calls Try.prog 3 #[.int .i64 bed, .int .i64 kind, .int .i64 a, .int .i64 b] w fun e w' => e = .returned (.bool true) ∧ Below w.heap.size w w' := by
  cases hk : kindA kind with
  | true =>
    obtain ⟨h1, h2⟩ := kindA_iff.1 hk
    exact walk_good bed kind a b hk (by omega) (by omega) w
  | false =>
    refine walk_bad bed kind a b hk ?_ w
    rcases Int.lt_or_le kind 0 with q | q
    · exact .inl q
    · rcases Int.lt_or_le 4 kind with r | r
      · exact .inr r
      · rw [kindA_iff.2 ⟨q, r⟩] at hk
        cases hk

set_option maxRecDepth 100000 in
theorem lifted (os : Os) (started : os.Started) (H : Type) (enc : TypeId × Value → H) :
    ReturnsInHanded {} Try.checked os 3 .any (Rows.panelAgainSpec.pre6 enc Try.prog Try.f3 Rows.panelAgainRow.domain false) (Rows.panelAgainSpec.post enc Try.prog Try.f3 false true false false) := by
  refine returnsInHanded_of_change (C := Try.checked) own started (by kernel_rfl) Try.func3
    (ChangeSpec.witness6 (enc := enc) (C := Try.checked) false ⟨#[], #[.int .i64 0, .int .i64 0, .int .i64 0, .int .i64 0], []⟩ 8 (by kernel_rfl) (by kernel_rfl) (by kernel_rfl) (by kernel_rfl)) ?_
  intro W base args ds gs before hval0 hW hcnd _
  have hval : ∀ (j : Nat) t v, Try.f3.params[j]? = some t → args[j]? = some v → Value.okWide Try.prog W .any base t v := hval0
  have hW' := hW
  obtain ⟨p, q, hA0, hV, rfl, hfz, hnd⟩ := hW
  have hA : DataW.TrodAll enc Try.prog W 0 (fun _ => true) true Try.f3.params.toList args.toList ds p := hA0
  rw [Try.params3] at hA hval
  obtain ⟨v0, vs0, d0, ds0, p0, q0, hargs, rfl, rfl, h0, r0⟩ := trodAll_cons hA
  obtain ⟨v1, vs1, d1, ds1, p1, q1, rfl, rfl, rfl, h1, r1⟩ := trodAll_cons r0
  obtain ⟨v2, vs2, d2, ds2, p2, q2, rfl, rfl, rfl, h2, r2⟩ := trodAll_cons r1
  obtain ⟨v3, vs3, d3, ds3, p3, q3, rfl, rfl, rfl, h3, r3⟩ := trodAll_cons r2
  obtain ⟨rfl, rfl, rfl⟩ := trodAll_nil r3
  obtain rfl : args = #[v0, v1, v2, v3] := by cases args; simp_all
  obtain ⟨rfl, rfl⟩ := trodVars_none hV
  obtain ⟨a0, rfl, rfl, rfl, w0⟩ := open_int Try.underlying3 (hval 0 3 v0 rfl rfl) h0
  obtain ⟨a1, rfl, rfl, rfl, w1⟩ := open_int Try.underlying3 (hval 1 3 v1 rfl rfl) h1
  obtain ⟨a2, rfl, rfl, rfl, w2⟩ := open_int Try.underlying3 (hval 2 3 v2 rfl rfl) h2
  obtain ⟨a3, rfl, rfl, rfl, w3⟩ := open_int Try.underlying3 (hval 3 3 v3 rfl rfl) h3
  clear hA0 hval0
  refine (walk a0 a1 a2 a3 W w0 w1 w2 w3).mono fun e W' ⟨he, bel⟩ => ?_
  subst he
  exact ⟨_, rfl, _, _, _, [], _, [], hW', trodAll_mk1 (shut_bool Try.underlying4 _), (trodAll_cons_mk (shut_int Try.underlying3 w0) (trodAll_cons_mk (shut_int Try.underlying3 w1) (trodAll_cons_mk (shut_int Try.underlying3 w2) (trodAll_cons_mk (shut_int Try.underlying3 w3) trodAll_mk0)))), rfl, bel.frame _, fun h => by cases h⟩

theorem over : Rows.panelAgainRow.holds Try.pinned (OpenSpec.ofChange Rows.panelAgainSpec) :=
  OpenClaim.holds_of_wide 3 Try.f3 rfl rfl rfl rfl rfl rfl rfl ⟨rfl, rfl, rfl, rfl, rfl⟩ rfl rfl rfl rfl rfl (by kernel_rfl) Try.func3 (by kernel_rfl)
    (of_decide_eq_true (by kernel_rfl)) (by unfold Func.isWrapper; first | (rw [if_pos (by decide +kernel)]; kernel_rfl) | (rw [if_neg (by decide +kernel)]; exact ⟨rfl, rfl⟩))
    (fun os started H enc _ => lifted os started H enc)

end Go.Proofs.Ytbeeigfcchjdlab.LPanelAgain

namespace Go.Proofs.Ytbeeigfcchjdlab
theorem panelAgain_holds : Rows.PanelAgainSaid := LPanelAgain.over
#print axioms panelAgain_holds
end Go.Proofs.Ytbeeigfcchjdlab
