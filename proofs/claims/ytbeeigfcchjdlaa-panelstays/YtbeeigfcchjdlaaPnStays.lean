/- The statement PanelStays: what was raised is shown until it was cleared and acknowledged, in whichever order. -/
import Derived.Test.YtbeeigfcchjdlaaPnAlive
import Derived.Test.YtbeeigfcchjdlaaPnOne
import Derived.Test.YtbeeigfcchjdlaaArgs
namespace Go.Proofs.Ytbeeigfcchjdlaa
open Go.ChangeShapes Go.WideShapes Go.ChangeAt Go.RowKit
open Bt Pn

namespace LPanelStays

theorem u8_at {w : World} {a : Option Addr} {len cap : Nat} {zs : List Int} (h : IsRow .u8 w a len cap zs) {j : Nat} (hj : j < len) :
    ∃ b off, ∃ z : Nat, a = some ⟨b, off, none⟩ ∧ z < 256 ∧ w.cell? ⟨b, off + j, none⟩ = some (.int .u8 (z : Int)) := by
  obtain ⟨bs, hl, hb, hr⟩ := h.bytes
  subst hl
  obtain ⟨b, off, rfl, hc⟩ := reads_at hr (by omega)
  exact ⟨b, off, bs[j], rfl, hb _ (List.getElem_mem hj), hc j hj⟩

set_option maxRecDepth 100000 in
set_option maxHeartbeats 4000000 in
theorem walk (bed kind now : Int) (ao : Option Addr) (len cap : Nat) (zs : List Int) (w : World) (_ : (Lit.int .i64 bed).wf = true) (_ : (Lit.int .i64 kind).wf = true) (_ : (Lit.int .i64 now).wf = true) (hz : IsRow .u8 w ao len cap zs) :
    Calls Try.prog 4 #[.int .i64 bed, .int .i64 kind, .int .i64 now, .slice ao len cap] w fun e w' => e = .returned (.bool true) ∧ Below w.heap.size w w' := by
  have AL := Hid.intro (alive16_any w)
  have HU := Hid.intro (fun j (hj : j < len) => u8_at hz hj)
  have hlm := hz.len
  unfold maxLen at hlm
  clear hz
  by_cases hl : 60 < len
  · have l1 : (60 : Int) < (len : Int) := by omega
    go_enter Try.func4, Try.ntmps4
    go_wp2_with fail
    refine AL.out.mono ?_
    rintro e w1 ⟨rfl, B1⟩
    have BH := Hid.intro B1
    clear AL B1
    go_wp2_with fail
    refine (pnew_any w1).mono ?_
    rintro e w2 ⟨p, T, rfl, hS, hF, B2⟩
    have FI := Hid.intro (BH.out.trans (B2.mono BH.out.size))
    clear hS hF B2 BH
    go_wp2
    go_ret
    exact ⟨rfl, FI.out⟩
  · have l1 : ¬ (60 : Int) < (len : Int) := by omega
    cases hk : kindA kind with
    | false =>
      have hlt : kind < 0 ∨ 4 < kind := by
        rcases Int.lt_or_le kind 0 with q | q
        · exact .inl q
        · rcases Int.lt_or_le 4 kind with r | r
          · exact .inr r
          · rw [kindA_iff.2 ⟨q, r⟩] at hk
            cases hk
      clear hk
      go_enter Try.func4, Try.ntmps4
      go_wp2_with fail
      refine AL.out.mono ?_
      rintro e w1 ⟨rfl, B1⟩
      have BH := Hid.intro B1
      clear AL B1
      go_wp2_with fail
      refine (pnew_any w1).mono ?_
      rintro e w2 ⟨p, T, rfl, hS, hF, B2⟩
      have FI := Hid.intro (BH.out.trans (B2.mono BH.out.size))
      clear hS hF B2 BH
      by_cases q : kind < 0
      · clear hlt
        go_wp2
        go_ret
        exact ⟨rfl, FI.out⟩
      · have q2 : 4 < kind := by omega
        clear hlt
        go_wp2
        go_ret
        exact ⟨rfl, FI.out⟩
    | true =>
      have HK := Hid.intro hk
      obtain ⟨k1, k2⟩ := kindA_iff.1 hk
      have k3 : ¬ kind < 0 := by omega
      have k4 : ¬ 4 < kind := by omega
      clear hk k1 k2
      go_enter Try.func4, Try.ntmps4
      go_wp2_with fail
      refine AL.out.mono ?_
      rintro e w1 ⟨rfl, B1⟩
      have BH := Hid.intro B1
      clear AL B1
      go_wp2_with fail
      refine (pnew_any w1).mono ?_
      rintro e w2 ⟨p, T, rfl, hS, hF, B2⟩
      have P1 := traise bed kind now (one_new (P := PK p [] 0) hS hF B2)
      rw [(r_none (now := now) HK.out).1, (r_none (now := now) HK.out).2] at P1
      have PH := Hid.intro P1
      clear hS hF B2 P1
      go_wp2_with fail
      refine PH.out.mono ?_
      rintro e w3 ⟨rfl, L3⟩
      have L3H := Hid.intro (show One (PK p (stA bed kind now true false) 0) (fun k => k < w1.heap.size) w1 w3 from L3)
      clear PH L3
      go_wp2_with fail
      go_loopw [10, 11, 12] (fun ov av iv ws => ∃ (t : Nat) (on acked : Bool), t ≤ len ∧ iv = .int .i64 t ∧ ov = .bool on ∧ av = .bool acked ∧ One (PK p (stA bed kind now on acked) 0) (fun k => k < w1.heap.size) w1 ws) (fun _ _ iv _ => len - (intOf iv).toNat)
      case atStart => exact ⟨0, true, false, by omega, rfl, rfl, rfl, L3H.out⟩
      case round =>
        clear L3H
        obtain ⟨t, on, acked, ht, rfl, rfl, rfl, hO⟩ := hrel
        have OH := Hid.intro hO
        clear hO
        by_cases hlt : t < len
        · obtain ⟨lb, off, z, rfl, hz, hc⟩ := HU.out t hlt
          have hlb : lb < w.heap.size := cell_lt hc
          have sz1 := BH.out.size
          have c0 : wr.cell? ⟨lb, off + t, none⟩ = some (.int .u8 (z : Int)) := OH.out.cell (cell_chg (below_chg BH.out) hc id) (by show lb < _; omega)
          have t0 : (0 : Int) ≤ (t : Int) := by omega
          have t1 : (t : Int) < (len : Int) := by omega
          have z0 : (0 : Int) ≤ (z : Int) := by omega
          have z1 : (z : Int) < 256 := by omega
          have PC := tclear bed kind OH.out
          rw [(st_clear on acked).1, (st_clear on acked).2] at PC
          have PCH := Hid.intro PC
          have PA := tack bed kind OH.out
          rw [(st_ack on acked).1, (st_ack on acked).2] at PA
          have PAH := Hid.intro PA
          have PR := traise bed kind now OH.out
          rw [(st_raise HK.out on acked).1, (st_raise HK.out on acked).2] at PR
          have PRH := Hid.intro PR
          have LI := Hid.intro (fun (W : World) (on acked : Bool) (h : One (PK p (stA bed kind now on acked) 0) (fun k => k < w1.heap.size) w1 W) => tlist h)
          have SL := Hid.intro (@st_len bed kind now)
          clear hc hlb sz1 PC PA PR
          have hm : z % 3 = 0 ∨ z % 3 = 1 ∨ z % 3 = 2 := by omega
          rcases hm with hm | hm | hm
          · have hz3 : (z : Int) % 3 = 0 := by omega
            clear PAH PRH
            cases on <;> cases acked
            all_goals
              go_wp2_with fail
              refine PCH.out.mono ?_
              rintro e w5 ⟨rfl, L5⟩
              have LH := Hid.intro (LI.out _ _ _ L5)
              rw [SL.out] at LH
              clear L5 PCH
              go_wp2_with fail
              refine LH.out.mono ?_
              rintro e w6 ⟨ad, cd, rfl, _, L6⟩
              have L6H := Hid.intro L6
              clear LH L6
              go_wp2
              go_roundw
              case rel => exact ⟨t + 1, _, _, by omega, by go_num, rfl, rfl, L6H.out⟩
              case measure => simp [intOf]; omega
          · have hz3 : (z : Int) % 3 = 1 := by omega
            clear PCH PRH
            cases on <;> cases acked
            all_goals
              go_wp2_with fail
              refine PAH.out.mono ?_
              rintro e w5 ⟨rfl, L5⟩
              have LH := Hid.intro (LI.out _ _ _ L5)
              rw [SL.out] at LH
              clear L5 PAH
              go_wp2_with fail
              refine LH.out.mono ?_
              rintro e w6 ⟨ad, cd, rfl, _, L6⟩
              have L6H := Hid.intro L6
              clear LH L6
              go_wp2
              go_roundw
              case rel => exact ⟨t + 1, _, _, by omega, by go_num, rfl, rfl, L6H.out⟩
              case measure => simp [intOf]; omega
          · have hz3 : (z : Int) % 3 = 2 := by omega
            clear PCH PAH
            cases on <;> cases acked
            all_goals
              go_wp2_with fail
              refine PRH.out.mono ?_
              rintro e w5 ⟨rfl, L5⟩
              have LH := Hid.intro (LI.out _ _ _ L5)
              rw [SL.out] at LH
              clear L5 PRH
              go_wp2_with fail
              refine LH.out.mono ?_
              rintro e w6 ⟨ad, cd, rfl, _, L6⟩
              have L6H := Hid.intro L6
              clear LH L6
              go_wp2
              go_roundw
              case rel => exact ⟨t + 1, _, _, by omega, by go_num, rfl, rfl, L6H.out⟩
              case measure => simp [intOf]; omega
        · obtain rfl : t = len := by omega
          have t1 : ¬ (t : Int) < (t : Int) := by omega
          have FI := Hid.intro (BH.out.trans ((OH.out.out (Nat.le_refl _)).mono BH.out.size))
          clear OH BH
          go_wp2
          go_ret
          exact ⟨rfl, FI.out⟩

set_option maxRecDepth 100000 in
theorem lifted (os : Os) (started : os.Started) (H : Type) (enc : TypeId × Value → H) :
    ReturnsInHanded {} Try.checked os 4 .any (Rows.panelStaysSpec.pre6 enc Try.prog Try.f4 Rows.panelStaysRow.domain false) (Rows.panelStaysSpec.post enc Try.prog Try.f4 false true false false) := by
  refine returnsInHanded_of_change (C := Try.checked) own started (by kernel_rfl) Try.func4
    (ChangeSpec.witness6 (enc := enc) (C := Try.checked) false ⟨#[], #[.int .i64 0, .int .i64 0, .int .i64 0, .slice none 0 0], []⟩ 8 (by kernel_rfl) (by kernel_rfl) (by kernel_rfl) (by kernel_rfl)) ?_
  intro W base args ds gs before hval0 hW hcnd _
  have hval : ∀ (j : Nat) t v, Try.f4.params[j]? = some t → args[j]? = some v → Value.okWide Try.prog W .any base t v := hval0
  have hW' := hW
  obtain ⟨p, q, hA0, hV, rfl, hfz, hnd⟩ := hW
  have hA : DataW.TrodAll enc Try.prog W 0 (fun _ => true) true Try.f4.params.toList args.toList ds p := hA0
  rw [Try.params4] at hA hval
  obtain ⟨v0, vs0, d0, ds0, p0, q0, hargs, rfl, rfl, h0, r0⟩ := trodAll_cons hA
  obtain ⟨v1, vs1, d1, ds1, p1, q1, rfl, rfl, rfl, h1, r1⟩ := trodAll_cons r0
  obtain ⟨v2, vs2, d2, ds2, p2, q2, rfl, rfl, rfl, h2, r2⟩ := trodAll_cons r1
  obtain ⟨v3, vs3, d3, ds3, p3, q3, rfl, rfl, rfl, h3, r3⟩ := trodAll_cons r2
  obtain ⟨rfl, rfl, rfl⟩ := trodAll_nil r3
  obtain rfl : args = #[v0, v1, v2, v3] := by cases args; simp_all
  obtain ⟨rfl, rfl⟩ := trodVars_none hV
  obtain ⟨a0, rfl, rfl, rfl, w0⟩ := open_int Try.underlying3 (hval 0 3 v0 rfl rfl) h0
  obtain ⟨a1, rfl, rfl, rfl, w1⟩ := open_int Try.underlying3 (hval 1 3 v1 rfl rfl) h1
  obtain ⟨a2, rfl, rfl, rfl, w2⟩ := open_int Try.underlying3 (hval 2 3 v2 rfl rfl) h2
  obtain ⟨a3, len3, cap3, rfl⟩ := okWide_slice Try.underlying39 (hval 3 39 v3 rfl rfl)
  have k3 := h3
  have lt3 : ∀ x ∈ p3, x.block < W.heap.size := by obtain ⟨m, hm⟩ := k3; exact DataW.trod_lt m _ _ _ hm
  obtain ⟨z3, w3⟩ : ∃ zs, IsRow .u8 W a3 len3 cap3 zs := by
    obtain ⟨fuel, hf⟩ := h3
    rcases open_ints Try.underlying39 Try.underlying5 (by kernel_rfl) hf with ⟨hcs, _⟩ | ⟨x, l, c, zs, hcs, _, hl, hm, hz, _, hcell, hwz⟩
    · simp [Value.cells] at hcs
      obtain ⟨rfl, rfl, rfl⟩ := hcs
      exact ⟨[], .inl ⟨rfl, rfl, rfl, rfl⟩⟩
    · simp [Value.cells] at hcs
      obtain ⟨rfl, rfl, rfl⟩ := hcs
      exact ⟨zs, .inr ⟨_, rfl, hl, hm, by simpa using hz, hcell, hwz⟩⟩
  clear hA0 hval0
  refine (walk a0 a1 a2 a3 len3 cap3 z3 W w0 w1 w2 w3).mono fun e W' ⟨he, bel⟩ => ?_
  subst he
  exact ⟨_, rfl, _, _, _, [], _, [], hW', trodAll_mk1 (shut_bool Try.underlying4 _), (trodAll_cons_mk (shut_int Try.underlying3 w0) (trodAll_cons_mk (shut_int Try.underlying3 w1) (trodAll_cons_mk (shut_int Try.underlying3 w2) (trodAll_cons_mk (Below.trod laidOut (by kernel_rfl) (of_decide_eq_true (by kernel_rfl)) k3 bel lt3) trodAll_mk0)))), rfl, bel.frame _, fun h => by cases h⟩

theorem over : Rows.panelStaysRow.holds Try.pinned (OpenSpec.ofChange Rows.panelStaysSpec) :=
  OpenClaim.holds_of_wide 4 Try.f4 rfl rfl rfl rfl rfl rfl rfl ⟨rfl, rfl, rfl, rfl, rfl⟩ rfl rfl rfl rfl rfl (by kernel_rfl) Try.func4 (by kernel_rfl)
    (of_decide_eq_true (by kernel_rfl)) (by unfold Func.isWrapper; first | (rw [if_pos (by decide +kernel)]; kernel_rfl) | (rw [if_neg (by decide +kernel)]; exact ⟨rfl, rfl⟩))
    (fun os started H enc _ => lifted os started H enc)

end Go.Proofs.Ytbeeigfcchjdlaa.LPanelStays

namespace Go.Proofs.Ytbeeigfcchjdlaa
theorem panelStays_holds : Rows.PanelStaysSaid := LPanelStays.over
#print axioms panelStays_holds
end Go.Proofs.Ytbeeigfcchjdlaa
