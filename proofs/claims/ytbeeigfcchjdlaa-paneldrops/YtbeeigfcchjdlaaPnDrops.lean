/- The statement PanelDrops: a bed's alarms go, and the others stand as they stood. -/
import Derived.Test.YtbeeigfcchjdlaaPnStep
import Derived.Test.YtbeeigfcchjdlaaPnR3
import Derived.Deep.RegionHeld3
import Derived.Deep.CutBlock
import Derived.BigQuiet
namespace Go.Proofs.Ytbeeigfcchjdlaa
open Go.ChangeShapes Go.WideShapes Go.ChangeAt Go.RowKit
open Pn

namespace LPanelDrops

set_option maxRecDepth 100000 in
set_option maxHeartbeats 4000000 in
theorem walk (a : Option Addr) (len cap : Nat) (l : List Act16) (bed : Int) (w : World) (hz : l.length = len ∧ ActsAt16 w a l ∧ len ≤ maxLen) (_ : (Lit.int .i64 bed).wf = true) :
    Calls Try.prog 8 #[.slice a len cap, .int .i64 bed] w fun e w' => e = .returned (.bool true) ∧ Below w.heap.size w w' := by
  obtain ⟨rfl, hact, hmx⟩ := hz
  have HA := Hid.intro (fun t (ht : t < l.length) => hact.at ht)
  have AL := Hid.intro (alive16_any w)
  obtain ⟨len, hlen⟩ : ∃ len, len = l.length := ⟨_, rfl⟩
  have HLEN := Hid.intro hlen
  rw [← hlen] at hmx ⊢
  unfold maxLen at hmx
  clear hact hlen
  by_cases hl : 100 < len
  · have l1 : (100 : Int) < (len : Int) := by omega
    go_enter Try.func8, Try.ntmps8
    go_wp2_with fail
    refine AL.out.mono ?_
    rintro e w1 ⟨rfl, B1⟩
    have BH := Hid.intro B1
    clear AL B1
    go_wp2
    go_ret
    exact ⟨rfl, BH.out⟩
  · have l1 : ¬ (100 : Int) < (len : Int) := by omega
    go_enter Try.func8, Try.ntmps8
    go_wp2_with fail
    refine AL.out.mono ?_
    rintro e w1 ⟨rfl, B1⟩
    have BH := Hid.intro B1
    clear AL B1
    go_wp2_with fail
    refine (pnew_any w1).mono ?_
    rintro e w2 ⟨p, T, rfl, hS, hF, B2⟩
    have O0 := Hid.intro (one_new (P := PK p [] 0) hS hF B2)
    clear hS hF B2
    go_wp2_with fail
    go_loopw [6] (fun iv ws => ∃ (t : Nat) (L : List Al), t ≤ len ∧ iv = .int .i64 t ∧ One (PK p L 0) (fun k => k < w1.heap.size) w1 ws) (fun iv _ => len - (intOf iv).toNat)
    case atStart => exact ⟨0, [], by omega, rfl, O0.out⟩
    case round =>
      clear O0
      obtain ⟨t, L, ht, rfl, hO⟩ := hrel
      have OH := Hid.intro hO
      clear hO
      by_cases hlt : t < len
      · have hlt' : t < l.length := by rw [← HLEN.out]; exact hlt
        obtain ⟨ab, off, rfl, hc⟩ := HA.out t hlt'
        obtain ⟨c0, c1, c2, c3⟩ := act_one hc BH.out OH.out
        have KK := Hid.intro (fun (W : World) (L' : List Al) (h : One (PK p L' 0) (fun k => k < w1.heap.size) w1 W) => act_one hc BH.out h)
        have t0 : (0 : Int) ≤ (t : Int) := by omega
        have t1 : (t : Int) < (len : Int) := by omega
        generalize l[t] = x at *
        obtain ⟨k, x0, x1, x2⟩ := x
        simp only [ActAt16] at c0 c1 c2 c3 KK
        clear hc
        by_cases hk0 : k = 0
        · subst hk0
          have P1 := Hid.intro (traise x0 x1 x2 (OH.out.below (pk_owned p L 0) (Below.refl _ wr).drew))
          have KS := Hid.intro (fun (W : World) (L' : List Al) (h : One (PK p L' 0) (fun k => k < w1.heap.size) w1 W) => (show W.cell? ⟨ab, off + t * 4 + 1, none⟩ = some (.int .i64 x0) ∧ W.cell? ⟨ab, off + t * 4 + 2, none⟩ = some (.int .i64 x1) ∧ W.cell? ⟨ab, off + t * 4 + 3, none⟩ = some (.int .i64 x2) from by
            obtain ⟨d0, d1, d2, d3⟩ := KK.out W L' h
            exact ⟨d1, d2, d3⟩))
          go_wp2_with fail
          go_region_held3 (fun W => W.cell? ⟨ab, off + t * 4 + 1, none⟩ = some (.int .i64 x0) ∧ W.cell? ⟨ab, off + t * 4 + 2, none⟩ = some (.int .i64 x1) ∧ W.cell? ⟨ab, off + t * 4 + 3, none⟩ = some (.int .i64 x2))
            (first | exact KS.out _ _ L5 | go_keep)
            (first | (go_at_call 11; refine P1.out.mono ?_; rintro e w5 ⟨rfl, L5⟩) | fail)
          all_goals
            have L5H := Hid.intro L5
            have q0 := (KK.out _ _ L5).1
            clear L5 P1 KS KK c0 c1 c2 c3
            go_wp2
            go_roundw
            case rel => exact ⟨t + 1, _, by omega, by go_num, L5H.out⟩
            case measure => simp [intOf]; omega
        have n0 : (k == 0) = false := by simpa using hk0
        clear hk0 KK
        go_wp2
        go_roundw
        case rel => exact ⟨t + 1, L, by omega, by go_num, OH.out⟩
        case measure => simp [intOf]; omega
      · obtain rfl : t = len := by omega
        have t1 : ¬ (t : Int) < (t : Int) := by omega
        have P2 := Hid.intro (tlist OH.out)
        have OKL := Hid.intro (pone_ok OH.out)
        clear OH
        go_wp2_with fail
        refine P2.out.mono ?_
        rintro e w6 ⟨ao, c, rfl, N6, L6⟩
        have L6H := Hid.intro L6
        have DS := Hid.intro (drop_sort OKL.out bed)
        have MLn := sortA_length L
        have NO := Hid.intro N6.own
        have FEW := OKL.out.few
        obtain ⟨M, hM⟩ : ∃ M, M = sortA L := ⟨_, rfl⟩
        have HM := Hid.intro hM
        rw [← hM] at NO MLn DS
        obtain ⟨n, hn⟩ : ∃ n, n = L.length := ⟨_, rfl⟩
        have MN : Hid (M.length = n) := by rw [Hid, MLn, hn]
        have LN := Hid.intro hn
        rw [← hn] at NO FEW ⊢
        clear P2 N6 L6 hM MLn hn
        obtain ⟨oa, oc, e6, z6⟩ := ownsRow_form NO.out
        simp only [Value.slice.injEq] at e6
        obtain ⟨rfl, _, rfl⟩ := e6
        have Z6 := Hid.intro z6
        have HX := Hid.intro (fun (W : World) (hW : Below w6.heap.size w6 W) (g : Nat) (e : ao = some ⟨g, 0, none⟩) i (hi : i < M.length) => (show AlAt W g (i * 5) M[i] from by
          have q := ownsRow_keep NO.out fun k hk => hW.block k (World.ownsRow.lt NO.out k hk).2
          subst e
          exact al_at q hi))
        have EL := Hid.intro elem_al
        have LE := Hid.intro (fun t => (show (dropA (M.take t) bed).length ≤ t from Nat.le_trans (List.length_filter_le _ _) (by rw [List.length_take]; omega)))
        clear z6 NO
        go_wp2_with fail
        go_loopw [8, 9] (fun ov iv ws => ∃ i : Nat, i ≤ n ∧ iv = .int .i64 i ∧ NewR 42 5 w6.heap.size w6 (dropA (M.take i) bed).length (acells (dropA (M.take i) bed)) ws ov) (fun _ iv _ => n - (intOf iv).toNat)
        case atStart => exact ⟨0, by omega, rfl, own_noneR _ _ _, Below.refl _ _, (fun k hk => by cases hk)⟩
        case round =>
          obtain ⟨i, hi, rfl, hR⟩ := hrel
          have RH := Hid.intro hR
          by_cases hin : i < n
          · have hi' : i < M.length := by rw [MN.out]; exact hin
            obtain ⟨g, rfl⟩ := Z6.out.resolve_left (by omega)
            have hx := HX.out wr hR.below g rfl i hi'
            have LT := Hid.intro (LE.out i)
            have NX := Hid.intro (drop_take (bed := bed) hi')
            have i0 : (0 : Int) ≤ (i : Int) := by omega
            have i1 : (i : Int) < (n : Int) := by omega
            clear hR
            generalize M[i] = x at *
            obtain ⟨x0, x1, x2, x3, x4⟩ := x
            obtain ⟨d0, d1, d2, d3, d4⟩ := hx
            simp only at d0 d1 d2 d3 d4
            have N1 := Hid.intro (heap_alloc_new wr (.cells #[.int .i64 x0, .int .i64 x1, .int .i64 x2, .bool x3, .bool x4] 42))
            have B2 := Hid.intro (bel_allocR RH.out.below (Nat.le_refl _) (.cells #[.int .i64 x0, .int .i64 x1, .int .i64 x2, .bool x3, .bool x4] 42))
            have OW := Hid.intro (ownsRow_keep RH.out.own fun k hk => alloc_keepR (o := .cells #[.int .i64 x0, .int .i64 x1, .int .i64 x2, .bool x3, .bool x4] 42) (World.ownsRow.lt RH.out.own k hk).2)
            by_cases e1 : x0 = bed
            · have e2 : decide (x0 = bed) = true := decide_eq_true e1
              subst e1
              have NXT := NX.out
              rw [if_pos e2, List.append_nil] at NXT
              have NXH := Hid.intro NXT
              clear NX NXT N1 B2 OW
              go_wp2
              go_roundw
              case rel =>
                refine ⟨i + 1, by omega, by go_num, ?_⟩
                rw [NXH.out]
                exact RH.out
              case measure => simp [intOf]; omega
            · have e2 : decide (x0 = bed) = false := decide_eq_false e1
              have e3 : (x0 == bed) = false := by rw [beq_eq_false_iff_ne]; exact e1
              clear e1
              have NXT := NX.out
              rw [if_neg (by rw [e2]; decide)] at NXT
              have NXH := Hid.intro NXT
              clear NX NXT
              generalize dropA (M.take i) bed = Lt at *
              go_wp2_with (at_builtin; refine append_row (by rfl) _ _ EL.out (by rfl) _ Lt.length (acells Lt) (by rfl) OW.out (.slice (some ⟨wr.heap.size, 0, none⟩) 1 1) 1 (acells [⟨x0, x1, x2, x3, x4⟩]) (by rfl) (src_block N1.out rfl) (acells_onecell _) (by have := LT.out; omega) ?_; intro v' wb hown hgrow hat; have QG := Hid.intro (newR RH.out.ge B2.out (Nat.le_refl _) hown hgrow hat); clear hown hgrow hat)
              go_roundw
              case rel =>
                refine ⟨i + 1, by omega, by go_num, ?_⟩
                rw [NXH.out, acells_append, List.length_append]
                exact QG.out
              case measure => simp [intOf]; omega
          · obtain rfl : i = n := by omega
            have i1 : ¬ (i : Int) < (i : Int) := by omega
            have hR2 := RH.out
            rw [List.take_of_length_le (by rw [MN.out]; exact Nat.le_refl _)] at hR2
            have G6 := L6H.out.grow (pk_owned p L 0) hR2.below
            have P7 := Hid.intro (tdrop bed G6)
            have KP := Hid.intro (fun (W : World) (h : One (PK p (dropA L bed) 0) (fun k => k < w1.heap.size ∨ (w6.heap.size ≤ k ∧ k < wr.heap.size)) wr W) => ownsRow_keep hR2.own fun k hk => h.block (.inr ⟨hR2.ge k hk, (World.ownsRow.lt hR2.own k hk).2⟩))
            have BB := Hid.intro (BH.out.trans (((L6H.out.out (Nat.le_refl _)).trans (hR2.below.mono L6H.out.chg.size)).mono BH.out.size))
            have S1r : Hid (w1.heap.size ≤ wr.heap.size) := Nat.le_trans L6H.out.chg.size hR2.below.size
            obtain ⟨la, lc, e7, _⟩ := ownsRow_form hR2.own
            subst e7
            have ml : (dropA M bed).length ≤ i := by
              have := List.length_filter_le (fun x => !decide (x.bed = bed)) M
              rw [MN.out] at this
              exact this
            have dl : (dropA L bed).length = (dropA M bed).length := by
              rw [← DS.out]
              exact (sortA_length _).symm
            have SM := Hid.intro (fun (V : World) (v : Value) (h1 : V.ownsRow 0 42 5 v (dropA M bed).length (acells (dropA M bed))) (h2 : V.ownsRow 0 42 5 (.slice la (dropA M bed).length lc) (dropA M bed).length (acells (dropA M bed))) => refSame16_any v _ (dropA M bed) (dropA M bed) (by omega) (by omega) V h1 h2)
            have m0 : (0 : Int) ≤ ((dropA M bed).length : Int) := by omega
            have m1 : ((dropA M bed).length : Int) ≤ (i : Int) := by omega
            have m2 : (i : Int) ≤ 40 := by omega
            rw [dl, ← LN.out] at P7
            have LI := Hid.intro (fun (W : World) (h : One (PK p (dropA L bed) 0) (fun k => k < w1.heap.size ∨ (w6.heap.size ≤ k ∧ k < wr.heap.size)) wr W) => tlist h)
            have be : (((i : Int) - ((dropA M bed).length : Int)) == ((i : Int) - ((dropA M bed).length : Int))) = true := by simp
            rw [dl, DS.out] at LI
            simp only [decide_true] at SM
            clear hR hR2 G6 RH HX LE DS MN LN ml dl
            go_wp2_with fail
            refine P7.out.mono ?_
            rintro e w8 ⟨rfl, L8⟩
            have LIH := Hid.intro (LI.out w8 L8)
            have KO := Hid.intro (KP.out w8 L8)
            clear P7 LI KP L8
            go_wp2_with fail
            refine LIH.out.mono ?_
            rintro e w9 ⟨ad, cd, rfl, N9, L9⟩
            have SMH := Hid.intro (SM.out w9 _ N9.own (ownsRow_keep KO.out fun k hk => N9.below.block k (World.ownsRow.lt KO.out k hk).2))
            have FI := Hid.intro (BB.out.trans (((L9.less (G := fun k => k < w1.heap.size) (fun _ q => .inl q)).out S1r.out).mono BH.out.size))
            clear LIH SM KO N9 L9
            go_wp2_with fail
            refine SMH.out.mono ?_
            rintro e w10 ⟨rfl, B10⟩
            have FI2 := Hid.intro (FI.out.trans (B10.mono FI.out.size))
            clear SMH FI B10
            go_wp2
            go_ret
            exact ⟨rfl, FI2.out⟩

set_option maxRecDepth 100000 in
theorem lifted (os : Os) (started : os.Started) (H : Type) (enc : TypeId × Value → H) :
    ReturnsInHanded {} Try.checked os 8 .any (Rows.panelDropsSpec.pre6 enc Try.prog Try.f8 Rows.panelDropsRow.domain false) (Rows.panelDropsSpec.post enc Try.prog Try.f8 false true false false) := by
  refine returnsInHanded_of_change (C := Try.checked) own started (by kernel_rfl) Try.func8
    (ChangeSpec.witness6 (enc := enc) (C := Try.checked) false ⟨#[], #[.slice none 0 0, .int .i64 0], []⟩ 8 (by kernel_rfl) (by kernel_rfl) (by kernel_rfl) (by kernel_rfl)) ?_
  intro W base args ds gs before hval0 hW hcnd _
  have hval : ∀ (j : Nat) t v, Try.f8.params[j]? = some t → args[j]? = some v → Value.okWide Try.prog W .any base t v := hval0
  have hW' := hW
  obtain ⟨p, q, hA0, hV, rfl, hfz, hnd⟩ := hW
  have hA : DataW.TrodAll enc Try.prog W 0 (fun _ => true) true Try.f8.params.toList args.toList ds p := hA0
  rw [Try.params8] at hA hval
  obtain ⟨v0, vs0, d0, ds0, p0, q0, hargs, rfl, rfl, h0, r0⟩ := trodAll_cons hA
  obtain ⟨v1, vs1, d1, ds1, p1, q1, rfl, rfl, rfl, h1, r1⟩ := trodAll_cons r0
  obtain ⟨rfl, rfl, rfl⟩ := trodAll_nil r1
  obtain rfl : args = #[v0, v1] := by cases args; simp_all
  obtain ⟨rfl, rfl⟩ := trodVars_none hV
  have k0 := h0
  have lt0 : ∀ x ∈ p0, x.block < W.heap.size := by obtain ⟨m, hm⟩ := k0; exact DataW.trod_lt m _ _ _ hm
  obtain ⟨a0, len0, cap0, rfl⟩ := okWide_slice Try.underlying22 (hval 0 22 v0 rfl rfl)
  obtain ⟨z0, w0⟩ := open_acts h0
  obtain ⟨a1, rfl, rfl, rfl, w1⟩ := open_int Try.underlying3 (hval 1 3 v1 rfl rfl) h1
  clear hA0 hval0
  refine (walk a0 len0 cap0 z0 a1 W w0 w1).mono fun e W' ⟨he, bel⟩ => ?_
  subst he
  exact ⟨_, rfl, _, _, _, [], _, [], hW', trodAll_mk1 (shut_bool Try.underlying4 _), (trodAll_cons_mk (Below.trod laidOut (by kernel_rfl) (of_decide_eq_true (by kernel_rfl)) k0 bel lt0) (trodAll_cons_mk (shut_int Try.underlying3 w1) trodAll_mk0)), rfl, bel.frame _, fun h => by cases h⟩

theorem over : Rows.panelDropsRow.holds Try.pinned (OpenSpec.ofChange Rows.panelDropsSpec) :=
  OpenClaim.holds_of_wide 8 Try.f8 rfl rfl rfl rfl rfl rfl rfl ⟨rfl, rfl, rfl, rfl, rfl⟩ rfl rfl rfl rfl rfl (by kernel_rfl) Try.func8 (by kernel_rfl)
    (of_decide_eq_true (by kernel_rfl)) (by unfold Func.isWrapper; first | (rw [if_pos (by decide +kernel)]; kernel_rfl) | (rw [if_neg (by decide +kernel)]; exact ⟨rfl, rfl⟩))
    (fun os started H enc _ => lifted os started H enc)

end Go.Proofs.Ytbeeigfcchjdlaa.LPanelDrops

namespace Go.Proofs.Ytbeeigfcchjdlaa
theorem panelDrops_holds : Rows.PanelDropsSaid := LPanelDrops.over
#print axioms panelDrops_holds
end Go.Proofs.Ytbeeigfcchjdlaa
