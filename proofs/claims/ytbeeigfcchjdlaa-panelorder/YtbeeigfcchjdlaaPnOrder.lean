/- The statement PanelOrder: an alarm that isn't acknowledged stands ahead of all that are, and a lost signal ahead of limits. -/
import Derived.Test.YtbeeigfcchjdlaaPnStep
import Derived.Deep.RegionHeld3
import Derived.Deep.CutBlock
import Derived.BigQuiet
namespace Go.Proofs.Ytbeeigfcchjdlaa
open Go.ChangeShapes Go.WideShapes Go.ChangeAt Go.RowKit
open Pn

namespace LPanelOrder

set_option maxRecDepth 100000 in
set_option maxHeartbeats 4000000 in
theorem walk (a : Option Addr) (len cap : Nat) (l : List Act16) (w : World) (hz : l.length = len ∧ ActsAt16 w a l ∧ len ≤ maxLen) :
    Calls Try.prog 5 #[.slice a len cap] w fun e w' => e = .returned (.bool true) ∧ Below w.heap.size w w' := by
  obtain ⟨rfl, hact, hmx⟩ := hz
  have HA := Hid.intro (fun t (ht : t < l.length) => hact.at ht)
  have AL := Hid.intro (alive16_any w)
  obtain ⟨len, hlen⟩ : ∃ len, len = l.length := ⟨_, rfl⟩
  have HLEN := Hid.intro hlen
  rw [← hlen] at hmx ⊢
  unfold maxLen at hmx
  clear hact hlen
  by_cases hl : 100 < len
  · have l1 : (100 : Int) < (len : Int) := by omega
    go_enter Try.func5, Try.ntmps5
    go_wp2_with fail
    refine AL.out.mono ?_
    rintro e w1 ⟨rfl, B1⟩
    have BH := Hid.intro B1
    clear AL B1
    go_wp2
    go_ret
    exact ⟨rfl, BH.out⟩
  · have l1 : ¬ (100 : Int) < (len : Int) := by omega
    go_enter Try.func5, Try.ntmps5
    go_wp2_with fail
    refine AL.out.mono ?_
    rintro e w1 ⟨rfl, B1⟩
    have BH := Hid.intro B1
    clear AL B1
    go_wp2_with fail
    refine (pnew_any w1).mono ?_
    rintro e w2 ⟨p, T, rfl, hS, hF, B2⟩
    have O0 := Hid.intro (one_new (P := PK p [] 0) hS hF B2)
    clear hS hF B2
    go_wp2_with fail
    go_loopw [4] (fun iv ws => ∃ (t : Nat) (L : List Al), t ≤ len ∧ iv = .int .i64 t ∧ One (PK p L 0) (fun k => k < w1.heap.size) w1 ws) (fun iv _ => len - (intOf iv).toNat)
    case atStart => exact ⟨0, [], by omega, rfl, O0.out⟩
    case round =>
      clear O0
      obtain ⟨t, L, ht, rfl, hO⟩ := hrel
      have OH := Hid.intro hO
      clear hO
      by_cases hlt : t < len
      · have hlt' : t < l.length := by rw [← HLEN.out]; exact hlt
        obtain ⟨ab, off, rfl, hc⟩ := HA.out t hlt'
        obtain ⟨c0, c1, c2, c3⟩ := act_one hc BH.out OH.out
        have KK := Hid.intro (fun (W : World) (L' : List Al) (h : One (PK p L' 0) (fun k => k < w1.heap.size) w1 W) => act_one hc BH.out h)
        have t0 : (0 : Int) ≤ (t : Int) := by omega
        have t1 : (t : Int) < (len : Int) := by omega
        generalize l[t] = x at *
        obtain ⟨k, x0, x1, x2⟩ := x
        simp only [ActAt16] at c0 c1 c2 c3 KK
        clear hc
        go_upto_block 2 with fail
        go_cut [24] from 13 to 120 (fun _ ws => ∃ L' : List Al, One (PK p L' 0) (fun k => k < w1.heap.size) w1 ws)
        case first =>
          by_cases hk0 : k = 0
          · subst hk0
            have P1 := Hid.intro (traise x0 x1 x2 (OH.out.below (pk_owned p L 0) (Below.refl _ wr).drew))
            have KS := Hid.intro (fun (W : World) (L' : List Al) (h : One (PK p L' 0) (fun k => k < w1.heap.size) w1 W) => (show W.cell? ⟨ab, off + t * 4 + 1, none⟩ = some (.int .i64 x0) ∧ W.cell? ⟨ab, off + t * 4 + 2, none⟩ = some (.int .i64 x1) ∧ W.cell? ⟨ab, off + t * 4 + 3, none⟩ = some (.int .i64 x2) from by
              obtain ⟨d0, d1, d2, d3⟩ := KK.out W L' h
              exact ⟨d1, d2, d3⟩))
            clear KK
            go_wp2_with fail
            go_region_held3 (fun W => W.cell? ⟨ab, off + t * 4 + 1, none⟩ = some (.int .i64 x0) ∧ W.cell? ⟨ab, off + t * 4 + 2, none⟩ = some (.int .i64 x1) ∧ W.cell? ⟨ab, off + t * 4 + 3, none⟩ = some (.int .i64 x2))
              (first | exact KS.out _ _ L5 | go_keep)
              (first | (go_at_call 11; refine P1.out.mono ?_; rintro e w5 ⟨rfl, L5⟩) | fail)
            all_goals
              have L5H := Hid.intro L5
              clear L5 P1 KS
              go_wp2_with fail
              go_meet
              case rel => exact ⟨_, L5H.out⟩
          by_cases hk1 : k = 1
          · subst hk1
            have P1 := Hid.intro (tclear x0 x1 (OH.out.below (pk_owned p L 0) (Below.refl _ wr).drew))
            have KS := Hid.intro (fun (W : World) (L' : List Al) (h : One (PK p L' 0) (fun k => k < w1.heap.size) w1 W) => (show W.cell? ⟨ab, off + t * 4 + 1, none⟩ = some (.int .i64 x0) ∧ W.cell? ⟨ab, off + t * 4 + 2, none⟩ = some (.int .i64 x1) from by
              obtain ⟨d0, d1, d2, d3⟩ := KK.out W L' h
              exact ⟨d1, d2⟩))
            clear KK
            go_wp2_with fail
            go_region_held3 (fun W => W.cell? ⟨ab, off + t * 4 + 1, none⟩ = some (.int .i64 x0) ∧ W.cell? ⟨ab, off + t * 4 + 2, none⟩ = some (.int .i64 x1))
              (first | exact KS.out _ _ L5 | go_keep)
              (first | (go_at_call 12; refine P1.out.mono ?_; rintro e w5 ⟨rfl, L5⟩) | fail)
            all_goals
              have L5H := Hid.intro L5
              clear L5 P1 KS
              go_wp2_with fail
              go_meet
              case rel => exact ⟨_, L5H.out⟩
          by_cases hk2 : k = 2
          · subst hk2
            have P1 := Hid.intro (tack x0 x1 (OH.out.below (pk_owned p L 0) (Below.refl _ wr).drew))
            have KS := Hid.intro (fun (W : World) (L' : List Al) (h : One (PK p L' 0) (fun k => k < w1.heap.size) w1 W) => (show W.cell? ⟨ab, off + t * 4 + 1, none⟩ = some (.int .i64 x0) ∧ W.cell? ⟨ab, off + t * 4 + 2, none⟩ = some (.int .i64 x1) from by
              obtain ⟨d0, d1, d2, d3⟩ := KK.out W L' h
              exact ⟨d1, d2⟩))
            clear KK
            go_wp2_with fail
            go_region_held3 (fun W => W.cell? ⟨ab, off + t * 4 + 1, none⟩ = some (.int .i64 x0) ∧ W.cell? ⟨ab, off + t * 4 + 2, none⟩ = some (.int .i64 x1))
              (first | exact KS.out _ _ L5 | go_keep)
              (first | (go_at_call 13; refine P1.out.mono ?_; rintro e w5 ⟨rfl, L5⟩) | fail)
            all_goals
              have L5H := Hid.intro L5
              clear L5 P1 KS
              go_wp2_with fail
              go_meet
              case rel => exact ⟨_, L5H.out⟩
          have n0 : (k == 0) = false := by simpa using hk0
          have n1 : (k == 1) = false := by simpa using hk1
          have n2 : (k == 2) = false := by simpa using hk2
          clear hk0 hk1 hk2 KK
          go_wp2_with fail
          go_meet
          case rel => exact ⟨_, OH.out⟩
        case rest =>
          obtain ⟨L', hO'⟩ := hcut
          have LI := Hid.intro (tlist hO')
          have OK := pone_ok hO'
          have fe := OK.few
          clear KK OH c0 c1 c2 c3
          go_wp2_with fail
          refine LI.out.mono ?_
          rintro e w6 ⟨ao, c, rfl, N6, L6⟩
          have L6H := Hid.intro L6
          obtain ⟨M, hM⟩ : ∃ M, M = sortA L' := ⟨_, rfl⟩
          have SN : Hid (∀ i (hi : i + 1 < M.length), ltA M[i + 1] M[i] = false) := by subst hM; exact fun i hi => sorted_next hi
          have MLn : M.length = L'.length := by rw [hM]; exact sortA_length L'
          have NO := Hid.intro N6.own
          rw [← hM, ← MLn] at NO
          rw [← MLn] at fe ⊢
          clear N6 L6 LI hO' OK hM
          obtain ⟨n, hn⟩ : ∃ n, n = M.length := ⟨_, rfl⟩
          have MN := Hid.intro hn
          rw [← hn] at NO fe ⊢
          clear hn MLn
          have HX := Hid.intro (fun (g : Nat) (e : ao = some ⟨g, 0, none⟩) i (hi : i < M.length) => (show AlAt w6 g (i * 5) M[i] from by subst e; exact al_at NO.out hi))
          obtain ⟨oa, oc, e6, z6⟩ := ownsRow_form NO.out
          simp only [Value.slice.injEq] at e6
          obtain ⟨rfl, _, rfl⟩ := e6
          have Z6 := Hid.intro z6
          clear NO z6
          go_wp2_with fail
          go_loopw [6] (fun kv ws => ∃ (j q : Nat), (j < n ∨ j = 0) ∧ kv = .int .i64 ((j : Int) + 1) ∧ ws = w6.drewN q) (fun kv _ => n - (intOf kv).toNat)
          case atStart => exact ⟨0, 0, .inr rfl, by go_num, rfl⟩
          case round =>
            obtain ⟨j, q, hj, rfl, hw⟩ := hrel
            by_cases hjn : j + 1 < n
            · obtain ⟨g, rfl⟩ := Z6.out.resolve_left (by omega)
              have hm2 : j + 1 < M.length := by have := MN.out; omega
              have hm1 : j < M.length := by omega
              have x1 := HX.out g rfl j hm1
              have x2 := HX.out g rfl (j + 1) hm2
              have NX := ltA_next (SN.out j hm2)
              obtain ⟨_, d1, _, _, d4⟩ := x1
              obtain ⟨_, e1, _, _, e4⟩ := x2
              have y1 : wr.cell? ⟨g, j * 5 + 1, none⟩ = some (.int .i64 M[j].kind) := by rw [hw]; exact d1
              have y4 : wr.cell? ⟨g, j * 5 + 4, none⟩ = some (.bool M[j].acked) := by rw [hw]; exact d4
              have z1 : wr.cell? ⟨g, (j + 1) * 5 + 1, none⟩ = some (.int .i64 M[j + 1].kind) := by rw [hw]; exact e1
              have z4 : wr.cell? ⟨g, (j + 1) * 5 + 4, none⟩ = some (.bool M[j + 1].acked) := by rw [hw]; exact e4
              have HW := Hid.intro hw
              clear d1 d4 e1 e4 hw
              generalize M[j].kind = yk at *
              generalize M[j + 1].kind = zk at *
              generalize M[j].acked = ya at *
              generalize M[j + 1].acked = za at *
              have j1 : ((j : Int) + 1 - 1) = (j : Int) := by omega
              have j2 : (j : Int) < (n : Int) := by omega
              have j3 : (0 : Int) ≤ (j : Int) := by omega
              have j4 : (j : Int) ≤ 40 := by omega
              have j5 : (j : Int) + 1 < (n : Int) := by omega
              have j6 : (0 : Int) ≤ (j : Int) + 1 := by omega
              have jw : IntKind.i64.wrap (j : Int) = (j : Int) := by rw [IntKind.wrap_i64]; omega
              have jw2 : IntKind.i64.wrap ((j : Int) + 1 - 1) = (j : Int) := by rw [j1]; exact jw
              have pt : ((j : Int) + 1).toNat = j + 1 := by omega
              obtain ⟨nx1, nx2⟩ := NX
              cases ya <;> cases za
              · have kk := nx2 rfl
                have kd : decide (zk < yk) = false := decide_eq_false kk
                clear nx1 nx2
                go_wp2_with fail
                go_quiet (fail)
                go_wp2
                go_roundw
                case rel => exact ⟨j + 1, q + nq, .inl (by omega), by go_num, by rw [HW.out]; simp [World.drewN, Nat.add_assoc]⟩
                case measure => simp [intOf]; omega
              · clear nx1 nx2
                go_wp2_with fail
                go_quiet (fail)
                go_wp2
                go_roundw
                case rel => exact ⟨j + 1, q + nq, .inl (by omega), by go_num, by rw [HW.out]; simp [World.drewN, Nat.add_assoc]⟩
                case measure => simp [intOf]; omega
              · exact absurd (nx1 rfl) (by decide)
              · have kk := nx2 rfl
                have kd : decide (zk < yk) = false := decide_eq_false kk
                clear nx1 nx2
                go_wp2_with fail
                go_quiet (fail)
                go_wp2
                go_roundw
                case rel => exact ⟨j + 1, q + nq, .inl (by omega), by go_num, by rw [HW.out]; simp [World.drewN, Nat.add_assoc]⟩
                case measure => simp [intOf]; omega
            · have j5 : ¬ (j : Int) + 1 < (n : Int) := by omega
              have FO : Hid (One (PK p L' 0) (fun k => k < w1.heap.size) w1 wr) := by
                rw [Hid, hw]
                exact L6H.out.below (pk_owned p L' 0) (below_drewN (Below.refl _ w6) q)
              clear hw
              go_wp2
              go_roundw
              case rel => exact ⟨t + 1, L', by omega, by go_num, FO.out⟩
              case measure => simp [intOf]; omega
      · obtain rfl : t = len := by omega
        have t1 : ¬ (t : Int) < (t : Int) := by omega
        have FI := Hid.intro (BH.out.trans ((OH.out.out (Nat.le_refl _)).mono BH.out.size))
        clear OH BH
        go_wp2
        go_ret
        exact ⟨rfl, FI.out⟩

set_option maxRecDepth 100000 in
theorem lifted (os : Os) (started : os.Started) (H : Type) (enc : TypeId × Value → H) :
    ReturnsInHanded {} Try.checked os 5 .any (Rows.panelOrderSpec.pre6 enc Try.prog Try.f5 Rows.panelOrderRow.domain false) (Rows.panelOrderSpec.post enc Try.prog Try.f5 false true false false) := by
  refine returnsInHanded_of_change (C := Try.checked) own started (by kernel_rfl) Try.func5
    (ChangeSpec.witness6 (enc := enc) (C := Try.checked) false ⟨#[], #[.slice none 0 0], []⟩ 8 (by kernel_rfl) (by kernel_rfl) (by kernel_rfl) (by kernel_rfl)) ?_
  intro W base args ds gs before hval0 hW hcnd _
  have hval : ∀ (j : Nat) t v, Try.f5.params[j]? = some t → args[j]? = some v → Value.okWide Try.prog W .any base t v := hval0
  have hW' := hW
  obtain ⟨p, q, hA0, hV, rfl, hfz, hnd⟩ := hW
  have hA : DataW.TrodAll enc Try.prog W 0 (fun _ => true) true Try.f5.params.toList args.toList ds p := hA0
  rw [Try.params5] at hA hval
  obtain ⟨v0, vs0, d0, ds0, p0, q0, hargs, rfl, rfl, h0, r0⟩ := trodAll_cons hA
  obtain ⟨rfl, rfl, rfl⟩ := trodAll_nil r0
  obtain rfl : args = #[v0] := by cases args; simp_all
  obtain ⟨rfl, rfl⟩ := trodVars_none hV
  have k0 := h0
  have lt0 : ∀ x ∈ p0, x.block < W.heap.size := by obtain ⟨m, hm⟩ := k0; exact DataW.trod_lt m _ _ _ hm
  obtain ⟨a0, len0, cap0, rfl⟩ := okWide_slice Try.underlying22 (hval 0 22 v0 rfl rfl)
  obtain ⟨z0, w0⟩ := open_acts h0
  clear hA0 hval0
  refine (walk a0 len0 cap0 z0 W w0).mono fun e W' ⟨he, bel⟩ => ?_
  subst he
  exact ⟨_, rfl, _, _, _, [], _, [], hW', trodAll_mk1 (shut_bool Try.underlying4 _), (trodAll_cons_mk (Below.trod laidOut (by kernel_rfl) (of_decide_eq_true (by kernel_rfl)) k0 bel lt0) trodAll_mk0), rfl, bel.frame _, fun h => by cases h⟩

theorem over : Rows.panelOrderRow.holds Try.pinned (OpenSpec.ofChange Rows.panelOrderSpec) :=
  OpenClaim.holds_of_wide 5 Try.f5 rfl rfl rfl rfl rfl rfl rfl ⟨rfl, rfl, rfl, rfl, rfl⟩ rfl rfl rfl rfl rfl (by kernel_rfl) Try.func5 (by kernel_rfl)
    (of_decide_eq_true (by kernel_rfl)) (by unfold Func.isWrapper; first | (rw [if_pos (by decide +kernel)]; kernel_rfl) | (rw [if_neg (by decide +kernel)]; exact ⟨rfl, rfl⟩))
    (fun os started H enc _ => lifted os started H enc)

end Go.Proofs.Ytbeeigfcchjdlaa.LPanelOrder

namespace Go.Proofs.Ytbeeigfcchjdlaa
theorem panelOrder_holds : Rows.PanelOrderSaid := LPanelOrder.over
#print axioms panelOrder_holds
end Go.Proofs.Ytbeeigfcchjdlaa
