/- The statement PanelSounds: it sounds just if an alarm isn't acknowledged and it isn't silent. -/
import Derived.Test.YtbeeigfcchjdlaaPnStep
import Derived.Deep.RegionHeld3
import Derived.Deep.CutBlock
import Derived.BigQuiet
namespace Go.Proofs.Ytbeeigfcchjdlaa
open Go.ChangeShapes Go.WideShapes Go.ChangeAt Go.RowKit
open Pn

namespace LPanelSounds

set_option maxRecDepth 100000 in
set_option maxHeartbeats 4000000 in
theorem walk (a : Option Addr) (len cap : Nat) (l : List Act16) (until_ now : Int) (w : World) (hz : l.length = len ∧ ActsAt16 w a l ∧ len ≤ maxLen) (_ : (Lit.int .i64 until_).wf = true) (_ : (Lit.int .i64 now).wf = true) :
    Calls Try.prog 7 #[.slice a len cap, .int .i64 until_, .int .i64 now] w fun e w' => e = .returned (.bool true) ∧ Below w.heap.size w w' := by
  obtain ⟨rfl, hact, hmx⟩ := hz
  have HA := Hid.intro (fun t (ht : t < l.length) => hact.at ht)
  have AL := Hid.intro (alive16_any w)
  obtain ⟨len, hlen⟩ : ∃ len, len = l.length := ⟨_, rfl⟩
  have HLEN := Hid.intro hlen
  rw [← hlen] at hmx ⊢
  unfold maxLen at hmx
  clear hact hlen
  by_cases hl : 100 < len
  · have l1 : (100 : Int) < (len : Int) := by omega
    go_enter Try.func7, Try.ntmps7
    go_wp2_with fail
    refine AL.out.mono ?_
    rintro e w1 ⟨rfl, B1⟩
    have BH := Hid.intro B1
    clear AL B1
    go_wp2
    go_ret
    exact ⟨rfl, BH.out⟩
  · have l1 : ¬ (100 : Int) < (len : Int) := by omega
    go_enter Try.func7, Try.ntmps7
    go_wp2_with fail
    refine AL.out.mono ?_
    rintro e w1 ⟨rfl, B1⟩
    have BH := Hid.intro B1
    clear AL B1
    go_wp2_with fail
    refine (pnew_any w1).mono ?_
    rintro e w2 ⟨p, T, rfl, hS, hF, B2⟩
    have O0 := Hid.intro (one_new (P := PK p [] 0) hS hF B2)
    clear hS hF B2
    go_wp2_with fail
    go_loopw [8] (fun iv ws => ∃ (t : Nat) (L : List Al), t ≤ len ∧ iv = .int .i64 t ∧ One (PK p L 0) (fun k => k < w1.heap.size) w1 ws) (fun iv _ => len - (intOf iv).toNat)
    case atStart => exact ⟨0, [], by omega, rfl, O0.out⟩
    case round =>
      clear O0
      obtain ⟨t, L, ht, rfl, hO⟩ := hrel
      have OH := Hid.intro hO
      clear hO
      by_cases hlt : t < len
      · have hlt' : t < l.length := by rw [← HLEN.out]; exact hlt
        obtain ⟨ab, off, rfl, hc⟩ := HA.out t hlt'
        obtain ⟨c0, c1, c2, c3⟩ := act_one hc BH.out OH.out
        have KK := Hid.intro (fun (W : World) (L' : List Al) (h : One (PK p L' 0) (fun k => k < w1.heap.size) w1 W) => act_one hc BH.out h)
        have t0 : (0 : Int) ≤ (t : Int) := by omega
        have t1 : (t : Int) < (len : Int) := by omega
        generalize l[t] = x at *
        obtain ⟨k, x0, x1, x2⟩ := x
        simp only [ActAt16] at c0 c1 c2 c3 KK
        clear hc
        by_cases hk0 : k = 0
        · subst hk0
          have P1 := Hid.intro (traise x0 x1 x2 (OH.out.below (pk_owned p L 0) (Below.refl _ wr).drew))
          have KS := Hid.intro (fun (W : World) (L' : List Al) (h : One (PK p L' 0) (fun k => k < w1.heap.size) w1 W) => (show W.cell? ⟨ab, off + t * 4 + 1, none⟩ = some (.int .i64 x0) ∧ W.cell? ⟨ab, off + t * 4 + 2, none⟩ = some (.int .i64 x1) ∧ W.cell? ⟨ab, off + t * 4 + 3, none⟩ = some (.int .i64 x2) from by
            obtain ⟨d0, d1, d2, d3⟩ := KK.out W L' h
            exact ⟨d1, d2, d3⟩))
          go_wp2_with fail
          go_region_held3 (fun W => W.cell? ⟨ab, off + t * 4 + 1, none⟩ = some (.int .i64 x0) ∧ W.cell? ⟨ab, off + t * 4 + 2, none⟩ = some (.int .i64 x1) ∧ W.cell? ⟨ab, off + t * 4 + 3, none⟩ = some (.int .i64 x2))
            (first | exact KS.out _ _ L5 | go_keep)
            (first | (go_at_call 11; refine P1.out.mono ?_; rintro e w5 ⟨rfl, L5⟩) | fail)
          all_goals
            have L5H := Hid.intro L5
            have q0 := (KK.out _ _ L5).1
            clear L5 P1 KS KK c0 c1 c2 c3
            go_wp2
            go_roundw
            case rel => exact ⟨t + 1, _, by omega, by go_num, L5H.out⟩
            case measure => simp [intOf]; omega
        by_cases hk2 : k = 2
        · subst hk2
          have P1 := Hid.intro (tack x0 x1 (OH.out.below (pk_owned p L 0) (Below.refl _ wr).drew))
          have KS := Hid.intro (fun (W : World) (L' : List Al) (h : One (PK p L' 0) (fun k => k < w1.heap.size) w1 W) => (show W.cell? ⟨ab, off + t * 4 + 1, none⟩ = some (.int .i64 x0) ∧ W.cell? ⟨ab, off + t * 4 + 2, none⟩ = some (.int .i64 x1) from by
            obtain ⟨d0, d1, d2, d3⟩ := KK.out W L' h
            exact ⟨d1, d2⟩))
          go_wp2_with fail
          go_region_held3 (fun W => W.cell? ⟨ab, off + t * 4 + 1, none⟩ = some (.int .i64 x0) ∧ W.cell? ⟨ab, off + t * 4 + 2, none⟩ = some (.int .i64 x1))
            (first | exact KS.out _ _ L5 | go_keep)
            (first | (go_at_call 13; refine P1.out.mono ?_; rintro e w5 ⟨rfl, L5⟩) | fail)
          all_goals
            have L5H := Hid.intro L5
            have q0 := (KK.out _ _ L5).1
            clear L5 P1 KS KK c0 c1 c2 c3
            go_wp2
            go_roundw
            case rel => exact ⟨t + 1, _, by omega, by go_num, L5H.out⟩
            case measure => simp [intOf]; omega
        have n0 : (k == 0) = false := by simpa using hk0
        have n2 : (k == 2) = false := by simpa using hk2
        clear hk0 hk2 KK
        go_wp2
        go_roundw
        case rel => exact ⟨t + 1, L, by omega, by go_num, OH.out⟩
        case measure => simp [intOf]; omega
      · obtain rfl : t = len := by omega
        have t1 : ¬ (t : Int) < (t : Int) := by omega
        have P1 := Hid.intro (tsil until_ OH.out)
        go_wp2_with fail
        refine P1.out.mono ?_
        rintro e w4 ⟨rfl, L4⟩
        have P2 := Hid.intro (tlist L4)
        have L4H := Hid.intro L4
        clear P1 L4 OH
        go_wp2_with fail
        refine P2.out.mono ?_
        rintro e w5 ⟨ao, c, rfl, N5, L5⟩
        have G5 := Hid.intro (tsound now (L4H.out.grow (pk_owned p L until_) N5.below))
        have BB := Hid.intro (BH.out.trans ((L5.out (Nat.le_refl _)).mono BH.out.size))
        have AF := any_first L
        have SL := sortA_length L
        have NO := Hid.intro N5.own
        have GE := Hid.intro (fun k (hk : (Value.slice ao L.length c).ownBlock = some k) => (show w4.heap.size ≤ k ∧ k < w5.heap.size from ⟨N5.ge k hk, (World.ownsRow.lt N5.own k hk).2⟩))
        have S15 := L5.chg.size
        have S01 := BH.out.size
        unfold soundA at G5
        clear P2 N5 L5 L4H
        cases hM : sortA L with
        | nil =>
          rw [hM] at AF SL
          simp only at AF
          rw [AF, Bool.and_false] at G5
          have hl0 : L.length = 0 := by rw [← SL]; rfl
          rw [hl0]
          clear AF SL NO GE hM
          go_wp2_with fail
          refine G5.out.mono ?_
          rintro e w6 ⟨rfl, L6⟩
          have FI := Hid.intro (BB.out.trans (((L6.less (G := fun k => k < w1.heap.size) (fun _ q => .inl q)).out S15).mono S01))
          clear G5 L6
          go_wp2
          go_ret
          exact ⟨rfl, FI.out⟩
        | cons x r =>
          rw [hM] at AF SL NO
          simp only at AF
          rw [AF] at G5
          have hl0 : L.length = r.length + 1 := by rw [← SL]; rfl
          rw [hl0] at NO GE ⊢
          obtain ⟨oa, oc, e6, z6⟩ := ownsRow_form NO.out
          obtain ⟨g, hg⟩ := z6.resolve_left (by simp)
          simp only [Value.slice.injEq] at e6
          obtain ⟨rfl, _, rfl⟩ := e6
          subst hg
          have d4 : w5.cell? ⟨g, 4, none⟩ = some (.bool x.acked) := (al_at NO.out (t := 0) (by simp)).2.2.2.2
          have gg := GE.out g rfl
          clear AF SL NO GE hM z6 hl0
          generalize x.acked = xa at *
          have l0 : (0 : Int) < ((r.length + 1 : Nat) : Int) := by omega
          generalize r.length + 1 = n at *
          by_cases hu : until_ ≤ now
          · rw [decide_eq_true hu, Bool.true_and] at G5
            cases xa
            all_goals
              go_wp2_with fail
              refine G5.out.mono ?_
              rintro e w6 ⟨rfl, L6⟩
              have FI := Hid.intro (BB.out.trans (((L6.less (G := fun k => k < w1.heap.size) (fun _ q => .inl q)).out S15).mono S01))
              have q4 := L6.cell d4 (.inr gg)
              clear G5 L6 d4
              go_wp2
              go_ret
              exact ⟨rfl, FI.out⟩
          · rw [decide_eq_false hu, Bool.false_and] at G5
            cases xa
            all_goals
              go_wp2_with fail
              refine G5.out.mono ?_
              rintro e w6 ⟨rfl, L6⟩
              have FI := Hid.intro (BB.out.trans (((L6.less (G := fun k => k < w1.heap.size) (fun _ q => .inl q)).out S15).mono S01))
              have q4 := L6.cell d4 (.inr gg)
              clear G5 L6 d4
              go_wp2
              go_ret
              first
                | exact ⟨rfl, FI.out⟩
                | exact ⟨by rw [show decide (until_ ≤ now) = false from decide_eq_false (by omega)]; rfl, FI.out⟩

set_option maxRecDepth 100000 in
theorem lifted (os : Os) (started : os.Started) (H : Type) (enc : TypeId × Value → H) :
    ReturnsInHanded {} Try.checked os 7 .any (Rows.panelSoundsSpec.pre6 enc Try.prog Try.f7 Rows.panelSoundsRow.domain false) (Rows.panelSoundsSpec.post enc Try.prog Try.f7 false true false false) := by
  refine returnsInHanded_of_change (C := Try.checked) own started (by kernel_rfl) Try.func7
    (ChangeSpec.witness6 (enc := enc) (C := Try.checked) false ⟨#[], #[.slice none 0 0, .int .i64 0, .int .i64 0], []⟩ 8 (by kernel_rfl) (by kernel_rfl) (by kernel_rfl) (by kernel_rfl)) ?_
  intro W base args ds gs before hval0 hW hcnd _
  have hval : ∀ (j : Nat) t v, Try.f7.params[j]? = some t → args[j]? = some v → Value.okWide Try.prog W .any base t v := hval0
  have hW' := hW
  obtain ⟨p, q, hA0, hV, rfl, hfz, hnd⟩ := hW
  have hA : DataW.TrodAll enc Try.prog W 0 (fun _ => true) true Try.f7.params.toList args.toList ds p := hA0
  rw [Try.params7] at hA hval
  obtain ⟨v0, vs0, d0, ds0, p0, q0, hargs, rfl, rfl, h0, r0⟩ := trodAll_cons hA
  obtain ⟨v1, vs1, d1, ds1, p1, q1, rfl, rfl, rfl, h1, r1⟩ := trodAll_cons r0
  obtain ⟨v2, vs2, d2, ds2, p2, q2, rfl, rfl, rfl, h2, r2⟩ := trodAll_cons r1
  obtain ⟨rfl, rfl, rfl⟩ := trodAll_nil r2
  obtain rfl : args = #[v0, v1, v2] := by cases args; simp_all
  obtain ⟨rfl, rfl⟩ := trodVars_none hV
  have k0 := h0
  have lt0 : ∀ x ∈ p0, x.block < W.heap.size := by obtain ⟨m, hm⟩ := k0; exact DataW.trod_lt m _ _ _ hm
  obtain ⟨a0, len0, cap0, rfl⟩ := okWide_slice Try.underlying22 (hval 0 22 v0 rfl rfl)
  obtain ⟨z0, w0⟩ := open_acts h0
  obtain ⟨a1, rfl, rfl, rfl, w1⟩ := open_int Try.underlying3 (hval 1 3 v1 rfl rfl) h1
  obtain ⟨a2, rfl, rfl, rfl, w2⟩ := open_int Try.underlying3 (hval 2 3 v2 rfl rfl) h2
  clear hA0 hval0
  refine (walk a0 len0 cap0 z0 a1 a2 W w0 w1 w2).mono fun e W' ⟨he, bel⟩ => ?_
  subst he
  exact ⟨_, rfl, _, _, _, [], _, [], hW', trodAll_mk1 (shut_bool Try.underlying4 _), (trodAll_cons_mk (Below.trod laidOut (by kernel_rfl) (of_decide_eq_true (by kernel_rfl)) k0 bel lt0) (trodAll_cons_mk (shut_int Try.underlying3 w1) (trodAll_cons_mk (shut_int Try.underlying3 w2) trodAll_mk0))), rfl, bel.frame _, fun h => by cases h⟩

theorem over : Rows.panelSoundsRow.holds Try.pinned (OpenSpec.ofChange Rows.panelSoundsSpec) :=
  OpenClaim.holds_of_wide 7 Try.f7 rfl rfl rfl rfl rfl rfl rfl ⟨rfl, rfl, rfl, rfl, rfl⟩ rfl rfl rfl rfl rfl (by kernel_rfl) Try.func7 (by kernel_rfl)
    (of_decide_eq_true (by kernel_rfl)) (by unfold Func.isWrapper; first | (rw [if_pos (by decide +kernel)]; kernel_rfl) | (rw [if_neg (by decide +kernel)]; exact ⟨rfl, rfl⟩))
    (fun os started H enc _ => lifted os started H enc)

end Go.Proofs.Ytbeeigfcchjdlaa.LPanelSounds

namespace Go.Proofs.Ytbeeigfcchjdlaa
theorem panelSounds_holds : Rows.PanelSoundsSaid := LPanelSounds.over
#print axioms panelSounds_holds
end Go.Proofs.Ytbeeigfcchjdlaa
