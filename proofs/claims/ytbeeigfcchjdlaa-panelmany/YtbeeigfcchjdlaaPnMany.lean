/- The statement PanelMany: a bed and kind is shown at most once, and no more are shown than there may be. -/
import Derived.Test.YtbeeigfcchjdlaaPnStep
import Derived.Deep.RegionHeld3
import Derived.Deep.CutBlock
import Derived.BigQuiet
namespace Go.Proofs.Ytbeeigfcchjdlaa
open Go.ChangeShapes Go.WideShapes Go.ChangeAt Go.RowKit
open Pn

namespace LPanelMany

set_option maxRecDepth 100000 in
set_option maxHeartbeats 4000000 in
theorem walk (a : Option Addr) (len cap : Nat) (l : List Act16) (w : World) (hz : l.length = len ∧ ActsAt16 w a l ∧ len ≤ maxLen) :
    Calls Try.prog 6 #[.slice a len cap] w fun e w' => e = .returned (.bool true) ∧ Below w.heap.size w w' := by
  obtain ⟨rfl, hact, hmx⟩ := hz
  have HA := Hid.intro (fun t (ht : t < l.length) => hact.at ht)
  have AL := Hid.intro (alive16_any w)
  obtain ⟨len, hlen⟩ : ∃ len, len = l.length := ⟨_, rfl⟩
  have HLEN := Hid.intro hlen
  rw [← hlen] at hmx ⊢
  unfold maxLen at hmx
  clear hact hlen
  by_cases hl : 100 < len
  · have l1 : (100 : Int) < (len : Int) := by omega
    go_enter Try.func6, Try.ntmps6
    go_wp2_with fail
    refine AL.out.mono ?_
    rintro e w1 ⟨rfl, B1⟩
    have BH := Hid.intro B1
    clear AL B1
    go_wp2
    go_ret
    exact ⟨rfl, BH.out⟩
  · have l1 : ¬ (100 : Int) < (len : Int) := by omega
    go_enter Try.func6, Try.ntmps6
    go_wp2_with fail
    refine AL.out.mono ?_
    rintro e w1 ⟨rfl, B1⟩
    have BH := Hid.intro B1
    clear AL B1
    go_wp2_with fail
    refine (pnew_any w1).mono ?_
    rintro e w2 ⟨p, T, rfl, hS, hF, B2⟩
    have O0 := Hid.intro (one_new (P := PK p [] 0) hS hF B2)
    clear hS hF B2
    go_wp2_with fail
    go_loopw [4] (fun iv ws => ∃ (t : Nat) (L : List Al), t ≤ len ∧ iv = .int .i64 t ∧ One (PK p L 0) (fun k => k < w1.heap.size) w1 ws) (fun iv _ => len - (intOf iv).toNat)
    case atStart => exact ⟨0, [], by omega, rfl, O0.out⟩
    case round =>
      clear O0
      obtain ⟨t, L, ht, rfl, hO⟩ := hrel
      have OH := Hid.intro hO
      clear hO
      by_cases hlt : t < len
      · have hlt' : t < l.length := by rw [← HLEN.out]; exact hlt
        obtain ⟨ab, off, rfl, hc⟩ := HA.out t hlt'
        obtain ⟨c0, c1, c2, c3⟩ := act_one hc BH.out OH.out
        have KK := Hid.intro (fun (W : World) (L' : List Al) (h : One (PK p L' 0) (fun k => k < w1.heap.size) w1 W) => act_one hc BH.out h)
        have t0 : (0 : Int) ≤ (t : Int) := by omega
        have t1 : (t : Int) < (len : Int) := by omega
        generalize l[t] = x at *
        obtain ⟨k, x0, x1, x2⟩ := x
        simp only [ActAt16] at c0 c1 c2 c3 KK
        clear hc
        go_upto_block 2 with fail
        go_cut [25] from 14 to 124 (fun _ ws => ∃ L' : List Al, One (PK p L' 0) (fun k => k < w1.heap.size) w1 ws)
        case first =>
          by_cases hk0 : k = 0
          · subst hk0
            have P1 := Hid.intro (traise x0 x1 x2 (OH.out.below (pk_owned p L 0) (Below.refl _ wr).drew))
            have KS := Hid.intro (fun (W : World) (L' : List Al) (h : One (PK p L' 0) (fun k => k < w1.heap.size) w1 W) => (show W.cell? ⟨ab, off + t * 4 + 1, none⟩ = some (.int .i64 x0) ∧ W.cell? ⟨ab, off + t * 4 + 2, none⟩ = some (.int .i64 x1) ∧ W.cell? ⟨ab, off + t * 4 + 3, none⟩ = some (.int .i64 x2) from by
              obtain ⟨d0, d1, d2, d3⟩ := KK.out W L' h
              exact ⟨d1, d2, d3⟩))
            clear KK
            go_wp2_with fail
            go_region_held3 (fun W => W.cell? ⟨ab, off + t * 4 + 1, none⟩ = some (.int .i64 x0) ∧ W.cell? ⟨ab, off + t * 4 + 2, none⟩ = some (.int .i64 x1) ∧ W.cell? ⟨ab, off + t * 4 + 3, none⟩ = some (.int .i64 x2))
              (first | exact KS.out _ _ L5 | go_keep)
              (first | (go_at_call 11; refine P1.out.mono ?_; rintro e w5 ⟨rfl, L5⟩) | fail)
            all_goals
              have L5H := Hid.intro L5
              clear L5 P1 KS
              go_wp2_with fail
              go_meet
              case rel => exact ⟨_, L5H.out⟩
          by_cases hk1 : k = 1
          · subst hk1
            have P1 := Hid.intro (tclear x0 x1 (OH.out.below (pk_owned p L 0) (Below.refl _ wr).drew))
            have KS := Hid.intro (fun (W : World) (L' : List Al) (h : One (PK p L' 0) (fun k => k < w1.heap.size) w1 W) => (show W.cell? ⟨ab, off + t * 4 + 1, none⟩ = some (.int .i64 x0) ∧ W.cell? ⟨ab, off + t * 4 + 2, none⟩ = some (.int .i64 x1) from by
              obtain ⟨d0, d1, d2, d3⟩ := KK.out W L' h
              exact ⟨d1, d2⟩))
            clear KK
            go_wp2_with fail
            go_region_held3 (fun W => W.cell? ⟨ab, off + t * 4 + 1, none⟩ = some (.int .i64 x0) ∧ W.cell? ⟨ab, off + t * 4 + 2, none⟩ = some (.int .i64 x1))
              (first | exact KS.out _ _ L5 | go_keep)
              (first | (go_at_call 12; refine P1.out.mono ?_; rintro e w5 ⟨rfl, L5⟩) | fail)
            all_goals
              have L5H := Hid.intro L5
              clear L5 P1 KS
              go_wp2_with fail
              go_meet
              case rel => exact ⟨_, L5H.out⟩
          by_cases hk2 : k = 2
          · subst hk2
            have P1 := Hid.intro (tack x0 x1 (OH.out.below (pk_owned p L 0) (Below.refl _ wr).drew))
            have KS := Hid.intro (fun (W : World) (L' : List Al) (h : One (PK p L' 0) (fun k => k < w1.heap.size) w1 W) => (show W.cell? ⟨ab, off + t * 4 + 1, none⟩ = some (.int .i64 x0) ∧ W.cell? ⟨ab, off + t * 4 + 2, none⟩ = some (.int .i64 x1) from by
              obtain ⟨d0, d1, d2, d3⟩ := KK.out W L' h
              exact ⟨d1, d2⟩))
            clear KK
            go_wp2_with fail
            go_region_held3 (fun W => W.cell? ⟨ab, off + t * 4 + 1, none⟩ = some (.int .i64 x0) ∧ W.cell? ⟨ab, off + t * 4 + 2, none⟩ = some (.int .i64 x1))
              (first | exact KS.out _ _ L5 | go_keep)
              (first | (go_at_call 13; refine P1.out.mono ?_; rintro e w5 ⟨rfl, L5⟩) | fail)
            all_goals
              have L5H := Hid.intro L5
              clear L5 P1 KS
              go_wp2_with fail
              go_meet
              case rel => exact ⟨_, L5H.out⟩
          have n0 : (k == 0) = false := by simpa using hk0
          have n1 : (k == 1) = false := by simpa using hk1
          have n2 : (k == 2) = false := by simpa using hk2
          clear hk0 hk1 hk2 KK
          go_wp2_with fail
          go_meet
          case rel => exact ⟨_, OH.out⟩
        case rest =>
          obtain ⟨L', hO'⟩ := hcut
          have LI := Hid.intro (tlist hO')
          have OK := pone_ok hO'
          have fe := OK.few
          clear KK OH c0 c1 c2 c3
          go_wp2_with fail
          refine LI.out.mono ?_
          rintro e w6 ⟨ao, c, rfl, N6, L6⟩
          have L6H := Hid.intro L6
          obtain ⟨M, hM⟩ : ∃ M, M = sortA L' := ⟨_, rfl⟩
          have ON : Hid (∀ m k (hm : m < k) (hk : k < M.length), keyA (M[m]'(by omega)) ≠ keyA M[k]) := by subst hM; exact fun m k hm hk => once_two OK hm hk
          have LV : Hid (∀ k (hk : k < M.length), overA M[k] = false) := by subst hM; exact fun k hk => live_one OK hk
          have MLn : M.length = L'.length := by rw [hM]; exact sortA_length L'
          have NO := Hid.intro N6.own
          rw [← hM, ← MLn] at NO
          rw [← MLn] at fe ⊢
          clear N6 L6 LI hO' OK hM
          obtain ⟨n, hn⟩ : ∃ n, n = M.length := ⟨_, rfl⟩
          have MN := Hid.intro hn
          rw [← hn] at NO fe ⊢
          clear hn MLn
          have HX := Hid.intro (fun (g : Nat) (e : ao = some ⟨g, 0, none⟩) i (hi : i < M.length) => (show AlAt w6 g (i * 5) M[i] from by subst e; exact al_at NO.out hi))
          obtain ⟨oa, oc, e6, z6⟩ := ownsRow_form NO.out
          simp only [Value.slice.injEq] at e6
          obtain ⟨rfl, _, rfl⟩ := e6
          have Z6 := Hid.intro z6
          clear NO z6
          have n40 : ¬ (40 : Int) < (n : Int) := by omega
          go_wp2_with fail
          go_loopw [6] (fun kv ws => ∃ (j q : Nat), j ≤ n ∧ kv = .int .i64 (j : Int) ∧ ws = w6.drewN q) (fun kv _ => n - (intOf kv).toNat)
          case atStart => exact ⟨0, 0, Nat.zero_le _, by go_num, rfl⟩
          case round =>
            obtain ⟨j, q, hj, rfl, hw⟩ := hrel
            by_cases hjn : j < n
            · obtain ⟨g, rfl⟩ := Z6.out.resolve_left (by omega)
              have hm1 : j < M.length := by have := MN.out; omega
              have NV := LV.out j hm1
              obtain ⟨d0, d1, _, d3, d4⟩ := HX.out g rfl j hm1
              have y3 : wr.cell? ⟨g, j * 5 + 3, none⟩ = some (.bool M[j].on) := by rw [hw]; exact d3
              have y4 : wr.cell? ⟨g, j * 5 + 4, none⟩ = some (.bool M[j].acked) := by rw [hw]; exact d4
              have D0 := Hid.intro d0
              have D1 := Hid.intro d1
              have HW0 := Hid.intro hw
              unfold overA at NV
              clear d0 d1 d3 d4 hw
              generalize M[j].on = yo at *
              generalize M[j].acked = ya at *
              have j1 : (j : Int) < (n : Int) := by omega
              have j3 : (0 : Int) ≤ (j : Int) := by omega
              have NK := Hid.intro (fun m (hm : m < j) => ON.out m j hm hm1)
              cases yo
              · cases ya
                · skip
                  go_wp2_with fail
                  go_loopw [7] (fun mv ws => ∃ (m q2 : Nat), m ≤ j ∧ mv = .int .i64 (m : Int) ∧ ws = w6.drewN q2) (fun mv _ => j - (intOf mv).toNat)
                  case atStart => exact ⟨0, q, Nat.zero_le _, by go_num, HW0.out⟩
                  case round =>
                    clear y3 y4
                    obtain ⟨m, q2, hmj, rfl, hw⟩ := hrel
                    by_cases hmj2 : m < j
                    · have hm2 : m < M.length := by omega
                      obtain ⟨e0, e1, _, _, _⟩ := HX.out g rfl m hm2
                      have NE := NK.out m hmj2
                      have a0 : wr.cell? ⟨g, j * 5, none⟩ = some (.int .i64 M[j].bed) := by rw [hw]; exact D0.out
                      have a1 : wr.cell? ⟨g, j * 5 + 1, none⟩ = some (.int .i64 M[j].kind) := by rw [hw]; exact D1.out
                      have b0 : wr.cell? ⟨g, m * 5, none⟩ = some (.int .i64 M[m].bed) := by rw [hw]; exact e0
                      have b1 : wr.cell? ⟨g, m * 5 + 1, none⟩ = some (.int .i64 M[m].kind) := by rw [hw]; exact e1
                      have HW := Hid.intro hw
                      unfold keyA at NE
                      clear e0 e1 hw
                      have m1 : (m : Int) < (j : Int) := by omega
                      have m2 : (m : Int) < (n : Int) := by omega
                      have m3 : (0 : Int) ≤ (m : Int) := by omega
                      generalize M[m].bed = mb at *
                      generalize M[m].kind = mk at *
                      have NB : mb = M[j].bed → ¬ mk = M[j].kind := fun q1 q2 => NE (by rw [q1, q2])
                      clear NE NK D0 D1 NV
                      generalize M[j].bed = jb at *
                      generalize M[j].kind = jk at *
                      by_cases eb : mb = jb
                      · subst eb
                        have nk := NB rfl
                        have nk2 : (mk == jk) = false := by rw [beq_eq_false_iff_ne]; exact nk
                        have be : (mb == mb) = true := by simp
                        have de : decide (mk = jk) = false := decide_eq_false nk
                        clear NB nk
                        go_wp2_with fail
                        go_quiet (fail)
                        go_wp2
                        go_roundw
                        case rel => exact ⟨m + 1, q2 + nq, by omega, by go_num, by rw [HW.out]; simp [World.drewN, Nat.add_assoc]⟩
                        case measure => simp [intOf]; omega
                      · have be : (mb == jb) = false := by rw [beq_eq_false_iff_ne]; exact eb
                        have de : decide (mb = jb) = false := decide_eq_false eb
                        clear NB eb
                        go_wp2_with fail
                        go_quiet (fail)
                        go_wp2
                        go_roundw
                        case rel => exact ⟨m + 1, q2 + nq, by omega, by go_num, by rw [HW.out]; simp [World.drewN, Nat.add_assoc]⟩
                        case measure => simp [intOf]; omega
                    · obtain rfl : m = j := by omega
                      have m5 : ¬ (m : Int) < (m : Int) := by omega
                      have HW := Hid.intro hw
                      clear hw
                      go_wp2
                      go_roundw
                      case rel => exact ⟨m + 1, q2, by omega, by go_num, HW.out⟩
                      case measure => simp [intOf]; omega
                · exact absurd NV (by decide)
              · skip
                go_wp2_with fail
                go_loopw [7] (fun mv ws => ∃ (m q2 : Nat), m ≤ j ∧ mv = .int .i64 (m : Int) ∧ ws = w6.drewN q2) (fun mv _ => j - (intOf mv).toNat)
                case atStart => exact ⟨0, q, Nat.zero_le _, by go_num, HW0.out⟩
                case round =>
                  clear y3 y4
                  obtain ⟨m, q2, hmj, rfl, hw⟩ := hrel
                  by_cases hmj2 : m < j
                  · have hm2 : m < M.length := by omega
                    obtain ⟨e0, e1, _, _, _⟩ := HX.out g rfl m hm2
                    have NE := NK.out m hmj2
                    have a0 : wr.cell? ⟨g, j * 5, none⟩ = some (.int .i64 M[j].bed) := by rw [hw]; exact D0.out
                    have a1 : wr.cell? ⟨g, j * 5 + 1, none⟩ = some (.int .i64 M[j].kind) := by rw [hw]; exact D1.out
                    have b0 : wr.cell? ⟨g, m * 5, none⟩ = some (.int .i64 M[m].bed) := by rw [hw]; exact e0
                    have b1 : wr.cell? ⟨g, m * 5 + 1, none⟩ = some (.int .i64 M[m].kind) := by rw [hw]; exact e1
                    have HW := Hid.intro hw
                    unfold keyA at NE
                    clear e0 e1 hw
                    have m1 : (m : Int) < (j : Int) := by omega
                    have m2 : (m : Int) < (n : Int) := by omega
                    have m3 : (0 : Int) ≤ (m : Int) := by omega
                    generalize M[m].bed = mb at *
                    generalize M[m].kind = mk at *
                    have NB : mb = M[j].bed → ¬ mk = M[j].kind := fun q1 q2 => NE (by rw [q1, q2])
                    clear NE NK D0 D1 NV
                    generalize M[j].bed = jb at *
                    generalize M[j].kind = jk at *
                    by_cases eb : mb = jb
                    · subst eb
                      have nk := NB rfl
                      have nk2 : (mk == jk) = false := by rw [beq_eq_false_iff_ne]; exact nk
                      have be : (mb == mb) = true := by simp
                      have de : decide (mk = jk) = false := decide_eq_false nk
                      clear NB nk
                      go_wp2_with fail
                      go_quiet (fail)
                      go_wp2
                      go_roundw
                      case rel => exact ⟨m + 1, q2 + nq, by omega, by go_num, by rw [HW.out]; simp [World.drewN, Nat.add_assoc]⟩
                      case measure => simp [intOf]; omega
                    · have be : (mb == jb) = false := by rw [beq_eq_false_iff_ne]; exact eb
                      have de : decide (mb = jb) = false := decide_eq_false eb
                      clear NB eb
                      go_wp2_with fail
                      go_quiet (fail)
                      go_wp2
                      go_roundw
                      case rel => exact ⟨m + 1, q2 + nq, by omega, by go_num, by rw [HW.out]; simp [World.drewN, Nat.add_assoc]⟩
                      case measure => simp [intOf]; omega
                  · obtain rfl : m = j := by omega
                    have m5 : ¬ (m : Int) < (m : Int) := by omega
                    have HW := Hid.intro hw
                    clear hw
                    go_wp2
                    go_roundw
                    case rel => exact ⟨m + 1, q2, by omega, by go_num, HW.out⟩
                    case measure => simp [intOf]; omega
            · obtain rfl : j = n := by omega
              have j5 : ¬ (j : Int) < (j : Int) := by omega
              have FO : Hid (One (PK p L' 0) (fun k => k < w1.heap.size) w1 wr) := by
                rw [Hid, hw]
                exact L6H.out.below (pk_owned p L' 0) (below_drewN (Below.refl _ w6) q)
              clear hw
              go_wp2
              go_roundw
              case rel => exact ⟨t + 1, L', by omega, by go_num, FO.out⟩
              case measure => simp [intOf]; omega
      · obtain rfl : t = len := by omega
        have t1 : ¬ (t : Int) < (t : Int) := by omega
        have FI := Hid.intro (BH.out.trans ((OH.out.out (Nat.le_refl _)).mono BH.out.size))
        clear OH BH
        go_wp2
        go_ret
        exact ⟨rfl, FI.out⟩

set_option maxRecDepth 100000 in
theorem lifted (os : Os) (started : os.Started) (H : Type) (enc : TypeId × Value → H) :
    ReturnsInHanded {} Try.checked os 6 .any (Rows.panelManySpec.pre6 enc Try.prog Try.f6 Rows.panelManyRow.domain false) (Rows.panelManySpec.post enc Try.prog Try.f6 false true false false) := by
  refine returnsInHanded_of_change (C := Try.checked) own started (by kernel_rfl) Try.func6
    (ChangeSpec.witness6 (enc := enc) (C := Try.checked) false ⟨#[], #[.slice none 0 0], []⟩ 8 (by kernel_rfl) (by kernel_rfl) (by kernel_rfl) (by kernel_rfl)) ?_
  intro W base args ds gs before hval0 hW hcnd _
  have hval : ∀ (j : Nat) t v, Try.f6.params[j]? = some t → args[j]? = some v → Value.okWide Try.prog W .any base t v := hval0
  have hW' := hW
  obtain ⟨p, q, hA0, hV, rfl, hfz, hnd⟩ := hW
  have hA : DataW.TrodAll enc Try.prog W 0 (fun _ => true) true Try.f6.params.toList args.toList ds p := hA0
  rw [Try.params6] at hA hval
  obtain ⟨v0, vs0, d0, ds0, p0, q0, hargs, rfl, rfl, h0, r0⟩ := trodAll_cons hA
  obtain ⟨rfl, rfl, rfl⟩ := trodAll_nil r0
  obtain rfl : args = #[v0] := by cases args; simp_all
  obtain ⟨rfl, rfl⟩ := trodVars_none hV
  have k0 := h0
  have lt0 : ∀ x ∈ p0, x.block < W.heap.size := by obtain ⟨m, hm⟩ := k0; exact DataW.trod_lt m _ _ _ hm
  obtain ⟨a0, len0, cap0, rfl⟩ := okWide_slice Try.underlying22 (hval 0 22 v0 rfl rfl)
  obtain ⟨z0, w0⟩ := open_acts h0
  clear hA0 hval0
  refine (walk a0 len0 cap0 z0 W w0).mono fun e W' ⟨he, bel⟩ => ?_
  subst he
  exact ⟨_, rfl, _, _, _, [], _, [], hW', trodAll_mk1 (shut_bool Try.underlying4 _), (trodAll_cons_mk (Below.trod laidOut (by kernel_rfl) (of_decide_eq_true (by kernel_rfl)) k0 bel lt0) trodAll_mk0), rfl, bel.frame _, fun h => by cases h⟩

theorem over : Rows.panelManyRow.holds Try.pinned (OpenSpec.ofChange Rows.panelManySpec) :=
  OpenClaim.holds_of_wide 6 Try.f6 rfl rfl rfl rfl rfl rfl rfl ⟨rfl, rfl, rfl, rfl, rfl⟩ rfl rfl rfl rfl rfl (by kernel_rfl) Try.func6 (by kernel_rfl)
    (of_decide_eq_true (by kernel_rfl)) (by unfold Func.isWrapper; first | (rw [if_pos (by decide +kernel)]; kernel_rfl) | (rw [if_neg (by decide +kernel)]; exact ⟨rfl, rfl⟩))
    (fun os started H enc _ => lifted os started H enc)

end Go.Proofs.Ytbeeigfcchjdlaa.LPanelMany

namespace Go.Proofs.Ytbeeigfcchjdlaa
theorem panelMany_holds : Rows.PanelManySaid := LPanelMany.over
#print axioms panelMany_holds
end Go.Proofs.Ytbeeigfcchjdlaa
