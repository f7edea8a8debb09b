/- The document's own Hear of layer 9. -/
import Derived.Test.YtohedeeajcdjcaaDoorRoRefB
namespace Go.Proofs.YtohedeeajcdjcaaDoor
open Go.RowKit
open Bt

theorem isRx_no {tx ant rssi : Int} (h : isRx tx ant rssi = false) : ¬ ((0 ≤ tx ∧ tx ≤ 255) ∧ (0 ≤ ant ∧ ant ≤ 7) ∧ (0 ≤ rssi ∧ rssi ≤ 127)) := fun q => by
  have := isRx_mk (tx := tx) (ant := ant) (rssi := rssi) (by omega) (by omega) (by omega)
  rw [h] at this
  cases this

set_option maxRecDepth 100000 in
set_option maxHeartbeats 1000000 in
theorem refHear_no (b : Nat) (tx ant rssi now : Int) (hr : isRx tx ant rssi = false) (w : World) :
    Calls Tryd.prog 18 #[.pointer (some ⟨b, 0, none⟩), .int .i64 tx, .int .i64 ant, .int .i64 rssi, .int .i64 now] w fun e w' => e = .returned (.int .i64 3) ∧ w = w' := by
  have h := isRx_no hr
  clear hr
  by_cases h1 : tx < 0
  · go_enter Tryd.func18, Tryd.ntmps18
    go_wp2
    go_ret
    exact ⟨rfl, rfl⟩
  by_cases h2 : 255 < tx
  · go_enter Tryd.func18, Tryd.ntmps18
    go_wp2
    go_ret
    exact ⟨rfl, rfl⟩
  by_cases h3 : ant < 0
  · go_enter Tryd.func18, Tryd.ntmps18
    go_wp2
    go_ret
    exact ⟨rfl, rfl⟩
  by_cases h4 : 7 < ant
  · go_enter Tryd.func18, Tryd.ntmps18
    go_wp2
    go_ret
    exact ⟨rfl, rfl⟩
  by_cases h5 : rssi < 0
  · go_enter Tryd.func18, Tryd.ntmps18
    go_wp2
    go_ret
    exact ⟨rfl, rfl⟩
  have h6 : 127 < rssi := by omega
  go_enter Tryd.func18, Tryd.ntmps18
  go_wp2
  go_ret
  exact ⟨rfl, rfl⟩

set_option maxRecDepth 100000 in
set_option maxHeartbeats 8000000 in
theorem refHear_in (b : Nat) (tx ant rssi now : Int) (hn : 0 ≤ now ∧ now ≤ 2 ^ 40) (hr : isRx tx ant rssi = true) (F : Nat → Prop) (x : Tab) (v : Value) (w : World) (h : RS F w b v x) :
    Calls Tryd.prog 18 #[.pointer (some ⟨b, 0, none⟩), .int .i64 tx, .int .i64 ant, .int .i64 rssi, .int .i64 now] w fun e w' => e = .returned (.int .i64 (hearT x tx ant rssi)) ∧ LeftR F w w' b (hearX x tx ant rssi now) := by
  have HOK := Hid.intro (hearX_ok h.ok tx ant rssi now hn)
  have HR := Hid.intro hr
  have HRB := Hid.intro (isRx_true hr)
  have H := Hid.intro h
  have hb := isRx_true hr
  obtain ⟨⟨y1, y2⟩, ⟨y3, y4⟩, y5, y6⟩ := hb
  have z1 : ¬ tx < 0 := by omega
  have z2 : ¬ 255 < tx := by omega
  have z3 : ¬ ant < 0 := by omega
  have z4 : ¬ 7 < ant := by omega
  have z5 : ¬ rssi < 0 := by omega
  have z6 : ¬ 127 < rssi := by omega
  have c0 := h.cells.1
  have c2 := h.cells.2.2.1
  have c3 := h.cells.2.2.2
  obtain ⟨ao, c, hv, hfm⟩ := h.form
  subst hv
  have hroom := (mayR_true h.ok.may).2.1
  have hfew := h.ok.few
  obtain ⟨L, hL⟩ : ∃ L, L = x.l.length := ⟨_, rfl⟩
  rw [← hL] at c3 hfew hfm
  have HL := Hid.intro hL
  clear hL h hn hr
  go_enter Tryd.func18, Tryd.ntmps18
  go_wp2_with fail
  go_loopw [11] (fun i ws => ∃ t : Nat, t ≤ L ∧ i = .int .i64 t ∧ Below w.heap.size w ws ∧ ∀ j, (hj : j < x.l.length) → j < t → x.l[j].tx ≠ tx) (fun i _ => L - (intOf i).toNat)
  case atStart => exact ⟨0, by omega, rfl, Below.refl _ w, fun j _ hj => absurd hj (Nat.not_lt_zero _)⟩
  case round =>
    obtain ⟨t, ht, rfl, hB, hno⟩ := hrel
    have HNO := Hid.intro hno
    have BH := Hid.intro hB
    have d3 := below_cell hB c3
    clear hno
    by_cases hlt : t < L
    · obtain ⟨g, rfl⟩ := hfm.resolve_left (by omega)
      have hlx : t < x.l.length := by rw [← HL.out]; exact hlt
      have HT1 : RS F w b (.slice (some ⟨g, 0, none⟩) x.l.length c) x := by have := H.out; exact this
      obtain ⟨q0, q1, q2, q3⟩ := HT1.sen hlx
      have s0 := below_cell hB q0
      have s1 := below_cell hB q1
      have s2 := below_cell hB q2
      have s3 := below_cell hB q3
      have t1 : (t : Int) < (L : Int) := by omega
      have t0 : (0 : Int) ≤ (t : Int) := by omega
      have d2 := below_cell hB c2
      have HIT := Hid.intro (fun (e : x.l[t].tx = tx) => findT_hit hlx e (fun j hj => HNO.out j (by omega) hj))
      obtain ⟨s, hs⟩ : ∃ s, s = x.l[t] := ⟨_, rfl⟩
      have HSS := Hid.intro hs
      rw [← hs] at s0 s1 s2 s3 HIT
      clear q0 q1 q2 q3 hs HT1 hB
      obtain ⟨st, sa, sr, sl⟩ := s
      have BA := (Below.refl _ wr).alloc (Nat.le_refl _) (.cells #[.int .i64 st, .int .i64 sa, .int .i64 sr, .int .i64 sl] 41)
      have nw := heap_alloc_new wr (.cells #[.int .i64 st, .int .i64 sa, .int .i64 sr, .int .i64 sl] 41)
      have BB := Hid.intro (BH.out.trans (BA.mono BH.out.size))
      have e2 := below_cell BA d2
      have e3 := below_cell BA d3
      by_cases e : st = tx
      · subst e
        have HF := Hid.intro (HIT.out rfl)
        clear HIT
        have FIN : Hid (∀ (W W' : World), Below w.heap.size w W → Chg (fun k => k = g) W W' → W'.ownsRow 0 41 4 (.slice (some ⟨g, 0, none⟩) L c) L (scells (x.l.set t (hearS x.margin ⟨st, sa, sr, sl⟩ ant rssi now))) → hearT x st ant rssi = hearOut x.margin ⟨st, sa, sr, sl⟩ ant rssi ∧ LeftR F w W' b (hearX x st ant rssi now)) := fun W W' hB hC hO => by
          obtain ⟨a1, a2⟩ := hearT_at HR.out HF.out hlx now
          have hok := HOK.out
          rw [a2] at hok ⊢
          rw [← HSS.out] at a1 hok ⊢
          rw [HL.out] at hO
          exact ⟨a1, RS.wrote H.out hok hB hC hO⟩
        have OWN : Hid (∀ W, Below w.heap.size w W → W.ownsRow 0 41 4 (.slice (some ⟨g, 0, none⟩) L c) L (scells x.l) ∧ W.cell? ⟨b, 3, none⟩ = some (.slice (some ⟨g, 0, none⟩) L c)) := fun W hW => by
          have q := own_belowO H.out.own hW
          rw [← HL.out] at q
          exact ⟨q, below_cell hW c3⟩
        have hgw : g < w.heap.size := H.out.lt g (H.out.inV g rfl).1
        obtain ⟨bs, hbs⟩ : ∃ bs, bs = wr.heap.size := ⟨_, rfl⟩
        have hbw : w.heap.size ≤ bs := by rw [hbs]; exact BH.out.size
        have hgb : bs ≠ g := by omega
        have hgx : b ≠ g := fun q => (H.out.inV g rfl).2 q.symm
        have HGB := Hid.intro (And.intro hbw (And.intro hgb hgx))
        rw [← hbs] at nw
        have HBS := Hid.intro hbs
        clear hbs hgw hbw hgb hgx
        by_cases ea : sa = ant
        · subst ea
          have HO : Hid (hearOut x.margin ⟨st, sa, sr, sl⟩ sa rssi = 0 ∧ hearS x.margin ⟨st, sa, sr, sl⟩ sa rssi now = ⟨st, sa, rssi, now⟩) := hear_same x.margin ⟨st, sa, sr, sl⟩ sa rssi now rfl
          go_wp2_with fail
          rw [← HBS.out]
          generalize wr.alloc (.cells #[.int .i64 st, .int .i64 sa, .int .i64 sr, .int .i64 sl] 41) = wa at *
          clear BA HBS s0 s1 s2 s3 d2 d3
          have x0 : wa.cell? ⟨bs, 0, none⟩ = some (.int .i64 st) := by rw [cell_of_row _ _ 0 _ _ _ nw]; rfl
          have x1 : wa.cell? ⟨bs, 1, none⟩ = some (.int .i64 sa) := by rw [cell_of_row _ _ 1 _ _ _ nw]; rfl
          have x2 : wa.cell? ⟨bs, 2, none⟩ = some (.int .i64 sr) := by rw [cell_of_row _ _ 2 _ _ _ nw]; rfl
          have x3 : wa.cell? ⟨bs, 3, none⟩ = some (.int .i64 sl) := by rw [cell_of_row _ _ 3 _ _ _ nw]; rfl
          go_quiet (fail)
          have nd : (wa.drewN nq).heap[bs]? = some (.cells #[.int .i64 st, .int .i64 sa, .int .i64 sr, .int .i64 sl] 41 (0, 0)) := nw
          have BD := below_drewN BB.out nq
          obtain ⟨hbw, hgb, hgx⟩ := HGB.out
          clear nw x0 x1 x2 x3 BB e2 e3 HGB
          generalize wa.drewN nq = wd at *
          have v0 : wd.cell? ⟨bs, 0, none⟩ = some (.int .i64 st) := by rw [cell_of_row _ _ 0 _ _ _ nd]; rfl
          have v1 : wd.cell? ⟨bs, 1, none⟩ = some (.int .i64 sa) := by rw [cell_of_row _ _ 1 _ _ _ nd]; rfl
          have v2 : wd.cell? ⟨bs, 2, none⟩ = some (.int .i64 sr) := by rw [cell_of_row _ _ 2 _ _ _ nd]; rfl
          have v3 : wd.cell? ⟨bs, 3, none⟩ = some (.int .i64 sl) := by rw [cell_of_row _ _ 3 _ _ _ nd]; rfl
          have f0 : wd.frozen? ⟨bs, 1, none⟩ = false := frozen_of_row wd bs 1 _ _ nd
          have h0 := heap_setCell_same wd bs 1 _ _ (.int .i64 sa) nd
          have C0 : Chg (fun k => k = bs) wd (wd.setCell ⟨bs, 1, none⟩ (.int .i64 sa)) := (Chg.refl (fun k => k = bs) wd).setCell (p := ⟨bs, 1, none⟩) (fun _ => rfl) _
          have f1 : (wd.setCell ⟨bs, 1, none⟩ (.int .i64 sa)).frozen? ⟨bs, 2, none⟩ = false := frozen_of_row (wd.setCell ⟨bs, 1, none⟩ (.int .i64 sa)) bs 2 _ _ h0
          have h1 := heap_setCell_same (wd.setCell ⟨bs, 1, none⟩ (.int .i64 sa)) bs 2 _ _ (.int .i64 rssi) h0
          have C1 : Chg (fun k => k = bs) wd ((wd.setCell ⟨bs, 1, none⟩ (.int .i64 sa)).setCell ⟨bs, 2, none⟩ (.int .i64 rssi)) := (C0).setCell (p := ⟨bs, 2, none⟩) (fun _ => rfl) _
          have f2 : ((wd.setCell ⟨bs, 1, none⟩ (.int .i64 sa)).setCell ⟨bs, 2, none⟩ (.int .i64 rssi)).frozen? ⟨bs, 3, none⟩ = false := frozen_of_row ((wd.setCell ⟨bs, 1, none⟩ (.int .i64 sa)).setCell ⟨bs, 2, none⟩ (.int .i64 rssi)) bs 3 _ _ h1
          have h2 := heap_setCell_same ((wd.setCell ⟨bs, 1, none⟩ (.int .i64 sa)).setCell ⟨bs, 2, none⟩ (.int .i64 rssi)) bs 3 _ _ (.int .i64 now) h1
          have C2 : Chg (fun k => k = bs) wd (((wd.setCell ⟨bs, 1, none⟩ (.int .i64 sa)).setCell ⟨bs, 2, none⟩ (.int .i64 rssi)).setCell ⟨bs, 3, none⟩ (.int .i64 now)) := (C1).setCell (p := ⟨bs, 3, none⟩) (fun _ => rfl) _
          have B3 := BD.trans (C2.below BD.size (fun k hk => by rw [hk]; exact hbw))
          obtain ⟨O3, k3⟩ := OWN.out _ B3
          have m0 : (((wd.setCell ⟨bs, 1, none⟩ (.int .i64 sa)).setCell ⟨bs, 2, none⟩ (.int .i64 rssi)).setCell ⟨bs, 3, none⟩ (.int .i64 now)).cell? ⟨bs, 0, none⟩ = some (.int .i64 st) := by rw [cell_of_row _ _ 0 _ _ _ h2]; rfl
          have m1 : (((wd.setCell ⟨bs, 1, none⟩ (.int .i64 sa)).setCell ⟨bs, 2, none⟩ (.int .i64 rssi)).setCell ⟨bs, 3, none⟩ (.int .i64 now)).cell? ⟨bs, 1, none⟩ = some (.int .i64 sa) := by rw [cell_of_row _ _ 1 _ _ _ h2]; rfl
          have m2 : (((wd.setCell ⟨bs, 1, none⟩ (.int .i64 sa)).setCell ⟨bs, 2, none⟩ (.int .i64 rssi)).setCell ⟨bs, 3, none⟩ (.int .i64 now)).cell? ⟨bs, 2, none⟩ = some (.int .i64 rssi) := by rw [cell_of_row _ _ 2 _ _ _ h2]; rfl
          have m3 : (((wd.setCell ⟨bs, 1, none⟩ (.int .i64 sa)).setCell ⟨bs, 2, none⟩ (.int .i64 rssi)).setCell ⟨bs, 3, none⟩ (.int .i64 now)).cell? ⟨bs, 3, none⟩ = some (.int .i64 now) := by rw [cell_of_row _ _ 3 _ _ _ h2]; rfl
          have O3H := Hid.intro O3
          have B3H := Hid.intro B3
          clear O3 B3
          go_wp2_with fail
          have O3 := O3H.out
          have B3 := B3H.out
          clear f0 h0 C0 f1 h1 C1 f2 h2 C2 nd v0 v1 v2 v3 BD O3H B3H
          generalize (((wd.setCell ⟨bs, 1, none⟩ (.int .i64 sa)).setCell ⟨bs, 2, none⟩ (.int .i64 rssi)).setCell ⟨bs, 3, none⟩ (.int .i64 now)) = w4 at *
          have g0 : w4.frozen? ⟨g, t * 4, none⟩ = false := O3.frozenAt _
          have P0 := (O3.stored (t * 4) (.int .i64 st)).1
          have D0 : Chg (fun k => k = g) w4 (w4.setCell ⟨g, t * 4, none⟩ (.int .i64 st)) := ((Chg.refl (fun k => k = g) w4)).setCell (p := ⟨g, t * 4, none⟩) (fun _ => rfl) _
          have g1 : (w4.setCell ⟨g, t * 4, none⟩ (.int .i64 st)).frozen? ⟨g, t * 4 + 1, none⟩ = false := P0.frozenAt _
          have P1 := (P0.stored (t * 4 + 1) (.int .i64 sa)).1
          have D1 : Chg (fun k => k = g) w4 ((w4.setCell ⟨g, t * 4, none⟩ (.int .i64 st)).setCell ⟨g, t * 4 + 1, none⟩ (.int .i64 sa)) := (D0).setCell (p := ⟨g, t * 4 + 1, none⟩) (fun _ => rfl) _
          have g2 : ((w4.setCell ⟨g, t * 4, none⟩ (.int .i64 st)).setCell ⟨g, t * 4 + 1, none⟩ (.int .i64 sa)).frozen? ⟨g, t * 4 + 2, none⟩ = false := P1.frozenAt _
          have P2 := (P1.stored (t * 4 + 2) (.int .i64 rssi)).1
          have D2 : Chg (fun k => k = g) w4 (((w4.setCell ⟨g, t * 4, none⟩ (.int .i64 st)).setCell ⟨g, t * 4 + 1, none⟩ (.int .i64 sa)).setCell ⟨g, t * 4 + 2, none⟩ (.int .i64 rssi)) := (D1).setCell (p := ⟨g, t * 4 + 2, none⟩) (fun _ => rfl) _
          have g3 : (((w4.setCell ⟨g, t * 4, none⟩ (.int .i64 st)).setCell ⟨g, t * 4 + 1, none⟩ (.int .i64 sa)).setCell ⟨g, t * 4 + 2, none⟩ (.int .i64 rssi)).frozen? ⟨g, t * 4 + 3, none⟩ = false := P2.frozenAt _
          have P3 := (P2.stored (t * 4 + 3) (.int .i64 now)).1
          have D3 : Chg (fun k => k = g) w4 ((((w4.setCell ⟨g, t * 4, none⟩ (.int .i64 st)).setCell ⟨g, t * 4 + 1, none⟩ (.int .i64 sa)).setCell ⟨g, t * 4 + 2, none⟩ (.int .i64 rssi)).setCell ⟨g, t * 4 + 3, none⟩ (.int .i64 now)) := (D2).setCell (p := ⟨g, t * 4 + 3, none⟩) (fun _ => rfl) _
          have g0' : w4.frozen? ⟨g, t * 4, none⟩ = false := O3.frozenAt _
          have g1' : w4.frozen? ⟨g, t * 4 + 1, none⟩ = false := O3.frozenAt _
          have g2' : w4.frozen? ⟨g, t * 4 + 2, none⟩ = false := O3.frozenAt _
          have g3' : w4.frozen? ⟨g, t * 4 + 3, none⟩ = false := O3.frozenAt _
          have hl4 := scells_length x.l
          have r0 : w4.cell? ⟨g, t * 4, none⟩ = some (.int .i64 st) := by rw [O3.cellAt (t * 4) (by omega)]; have q := scells_at x.l hlx (j := 0) (by omega); rw [← HSS.out] at q; exact q
          have r1 : w4.cell? ⟨g, t * 4 + 1, none⟩ = some (.int .i64 sa) := by rw [O3.cellAt (t * 4 + 1) (by omega)]; have q := scells_at x.l hlx (j := 1) (by omega); rw [← HSS.out] at q; exact q
          have r2 : w4.cell? ⟨g, t * 4 + 2, none⟩ = some (.int .i64 sr) := by rw [O3.cellAt (t * 4 + 2) (by omega)]; have q := scells_at x.l hlx (j := 2) (by omega); rw [← HSS.out] at q; exact q
          have r3 : w4.cell? ⟨g, t * 4 + 3, none⟩ = some (.int .i64 sl) := by rw [O3.cellAt (t * 4 + 3) (by omega)]; have q := scells_at x.l hlx (j := 3) (by omega); rw [← HSS.out] at q; exact q
          have FF := Hid.intro (FIN.out w4 _ B3 D3.drew (by rw [HO.out.2, ← scells_set]; exact own_drewO P3))
          have KK := And.intro (cell_chg D3.drew k3 hgx) (And.intro (cell_chg D3.drew m0 hgb) (And.intro (cell_chg D3.drew m1 hgb) (And.intro (cell_chg D3.drew m2 hgb) (cell_chg D3.drew m3 hgb))))
          clear P0 P1 P2 P3 D0 D1 D2 D3 O3 B3 FIN OWN hl4
          go_region_held3 (fun w' => w'.cell? ⟨b, 3, none⟩ = some (.slice (some ⟨g, 0, none⟩) L c) ∧ w'.cell? ⟨bs, 0, none⟩ = some (.int .i64 st) ∧ w'.cell? ⟨bs, 1, none⟩ = some (.int .i64 sa) ∧ w'.cell? ⟨bs, 2, none⟩ = some (.int .i64 rssi) ∧ w'.cell? ⟨bs, 3, none⟩ = some (.int .i64 now)) (first | exact KK | go_keep) (fail)
          all_goals
            go_wp2
            go_ret
            exact ⟨by rw [FF.out.1, HO.out.1]; rfl, FF.out.2⟩
        · have hsx : x.l[t] ∈ x.l := List.getElem_mem hlx
          have hsb := (isRx_true (H.out.ok.each _ hsx).1).2.2
          rw [← HSS.out] at hsb
          have hmb := (mayR_true H.out.ok.may).2.2.2.2.2
          have hwr : IntKind.i64.wrap (rssi - sr) = rssi - sr := IntWalk.i64_in _ (by simp only at hsb; omega)
          obtain ⟨mg, hmg⟩ : ∃ mg : Int, mg = (x.margin : Int) := ⟨_, rfl⟩
          rw [← hmg] at e2 d2 hmb
          have HMG := Hid.intro hmg
          obtain ⟨df, hdf⟩ : ∃ df, df = rssi - sr := ⟨_, rfl⟩
          rw [← hdf] at hwr
          have HDF := Hid.intro hdf
          have hwr2 : IntKind.i64.wrap (rssi - sr) = df := by rw [← hdf]; exact hwr
          clear hsx hmg hdf hsb hwr
          by_cases em : mg ≤ df
          · have HO : Hid (hearOut x.margin ⟨st, sa, sr, sl⟩ ant rssi = 2 ∧ hearS x.margin ⟨st, sa, sr, sl⟩ ant rssi now = ⟨st, ant, rssi, now⟩) := hear_move x.margin ⟨st, sa, sr, sl⟩ ant rssi now ea (by rw [← HMG.out, ← HDF.out]; exact em)
            go_wp2_with fail
            rw [← HBS.out]
            generalize wr.alloc (.cells #[.int .i64 st, .int .i64 sa, .int .i64 sr, .int .i64 sl] 41) = wa at *
            clear BA HBS s0 s1 s2 s3 d2 d3
            have x0 : wa.cell? ⟨bs, 0, none⟩ = some (.int .i64 st) := by rw [cell_of_row _ _ 0 _ _ _ nw]; rfl
            have x1 : wa.cell? ⟨bs, 1, none⟩ = some (.int .i64 sa) := by rw [cell_of_row _ _ 1 _ _ _ nw]; rfl
            have x2 : wa.cell? ⟨bs, 2, none⟩ = some (.int .i64 sr) := by rw [cell_of_row _ _ 2 _ _ _ nw]; rfl
            have x3 : wa.cell? ⟨bs, 3, none⟩ = some (.int .i64 sl) := by rw [cell_of_row _ _ 3 _ _ _ nw]; rfl
            go_quiet (fail)
            have nd : (wa.drewN nq).heap[bs]? = some (.cells #[.int .i64 st, .int .i64 sa, .int .i64 sr, .int .i64 sl] 41 (0, 0)) := nw
            have BD := below_drewN BB.out nq
            obtain ⟨hbw, hgb, hgx⟩ := HGB.out
            clear nw x0 x1 x2 x3 BB e2 e3 HGB
            generalize wa.drewN nq = wd at *
            have v0 : wd.cell? ⟨bs, 0, none⟩ = some (.int .i64 st) := by rw [cell_of_row _ _ 0 _ _ _ nd]; rfl
            have v1 : wd.cell? ⟨bs, 1, none⟩ = some (.int .i64 sa) := by rw [cell_of_row _ _ 1 _ _ _ nd]; rfl
            have v2 : wd.cell? ⟨bs, 2, none⟩ = some (.int .i64 sr) := by rw [cell_of_row _ _ 2 _ _ _ nd]; rfl
            have v3 : wd.cell? ⟨bs, 3, none⟩ = some (.int .i64 sl) := by rw [cell_of_row _ _ 3 _ _ _ nd]; rfl
            have f0 : wd.frozen? ⟨bs, 1, none⟩ = false := frozen_of_row wd bs 1 _ _ nd
            have h0 := heap_setCell_same wd bs 1 _ _ (.int .i64 ant) nd
            have C0 : Chg (fun k => k = bs) wd (wd.setCell ⟨bs, 1, none⟩ (.int .i64 ant)) := (Chg.refl (fun k => k = bs) wd).setCell (p := ⟨bs, 1, none⟩) (fun _ => rfl) _
            have f1 : (wd.setCell ⟨bs, 1, none⟩ (.int .i64 ant)).frozen? ⟨bs, 2, none⟩ = false := frozen_of_row (wd.setCell ⟨bs, 1, none⟩ (.int .i64 ant)) bs 2 _ _ h0
            have h1 := heap_setCell_same (wd.setCell ⟨bs, 1, none⟩ (.int .i64 ant)) bs 2 _ _ (.int .i64 rssi) h0
            have C1 : Chg (fun k => k = bs) wd ((wd.setCell ⟨bs, 1, none⟩ (.int .i64 ant)).setCell ⟨bs, 2, none⟩ (.int .i64 rssi)) := (C0).setCell (p := ⟨bs, 2, none⟩) (fun _ => rfl) _
            have f2 : ((wd.setCell ⟨bs, 1, none⟩ (.int .i64 ant)).setCell ⟨bs, 2, none⟩ (.int .i64 rssi)).frozen? ⟨bs, 3, none⟩ = false := frozen_of_row ((wd.setCell ⟨bs, 1, none⟩ (.int .i64 ant)).setCell ⟨bs, 2, none⟩ (.int .i64 rssi)) bs 3 _ _ h1
            have h2 := heap_setCell_same ((wd.setCell ⟨bs, 1, none⟩ (.int .i64 ant)).setCell ⟨bs, 2, none⟩ (.int .i64 rssi)) bs 3 _ _ (.int .i64 now) h1
            have C2 : Chg (fun k => k = bs) wd (((wd.setCell ⟨bs, 1, none⟩ (.int .i64 ant)).setCell ⟨bs, 2, none⟩ (.int .i64 rssi)).setCell ⟨bs, 3, none⟩ (.int .i64 now)) := (C1).setCell (p := ⟨bs, 3, none⟩) (fun _ => rfl) _
            have B3 := BD.trans (C2.below BD.size (fun k hk => by rw [hk]; exact hbw))
            obtain ⟨O3, k3⟩ := OWN.out _ B3
            have m0 : (((wd.setCell ⟨bs, 1, none⟩ (.int .i64 ant)).setCell ⟨bs, 2, none⟩ (.int .i64 rssi)).setCell ⟨bs, 3, none⟩ (.int .i64 now)).cell? ⟨bs, 0, none⟩ = some (.int .i64 st) := by rw [cell_of_row _ _ 0 _ _ _ h2]; rfl
            have m1 : (((wd.setCell ⟨bs, 1, none⟩ (.int .i64 ant)).setCell ⟨bs, 2, none⟩ (.int .i64 rssi)).setCell ⟨bs, 3, none⟩ (.int .i64 now)).cell? ⟨bs, 1, none⟩ = some (.int .i64 ant) := by rw [cell_of_row _ _ 1 _ _ _ h2]; rfl
            have m2 : (((wd.setCell ⟨bs, 1, none⟩ (.int .i64 ant)).setCell ⟨bs, 2, none⟩ (.int .i64 rssi)).setCell ⟨bs, 3, none⟩ (.int .i64 now)).cell? ⟨bs, 2, none⟩ = some (.int .i64 rssi) := by rw [cell_of_row _ _ 2 _ _ _ h2]; rfl
            have m3 : (((wd.setCell ⟨bs, 1, none⟩ (.int .i64 ant)).setCell ⟨bs, 2, none⟩ (.int .i64 rssi)).setCell ⟨bs, 3, none⟩ (.int .i64 now)).cell? ⟨bs, 3, none⟩ = some (.int .i64 now) := by rw [cell_of_row _ _ 3 _ _ _ h2]; rfl
            have O3H := Hid.intro O3
            have B3H := Hid.intro B3
            clear O3 B3
            go_wp2_with fail
            have O3 := O3H.out
            have B3 := B3H.out
            clear f0 h0 C0 f1 h1 C1 f2 h2 C2 nd v0 v1 v2 v3 BD O3H B3H
            generalize (((wd.setCell ⟨bs, 1, none⟩ (.int .i64 ant)).setCell ⟨bs, 2, none⟩ (.int .i64 rssi)).setCell ⟨bs, 3, none⟩ (.int .i64 now)) = w4 at *
            have g0 : w4.frozen? ⟨g, t * 4, none⟩ = false := O3.frozenAt _
            have P0 := (O3.stored (t * 4) (.int .i64 st)).1
            have D0 : Chg (fun k => k = g) w4 (w4.setCell ⟨g, t * 4, none⟩ (.int .i64 st)) := ((Chg.refl (fun k => k = g) w4)).setCell (p := ⟨g, t * 4, none⟩) (fun _ => rfl) _
            have g1 : (w4.setCell ⟨g, t * 4, none⟩ (.int .i64 st)).frozen? ⟨g, t * 4 + 1, none⟩ = false := P0.frozenAt _
            have P1 := (P0.stored (t * 4 + 1) (.int .i64 ant)).1
            have D1 : Chg (fun k => k = g) w4 ((w4.setCell ⟨g, t * 4, none⟩ (.int .i64 st)).setCell ⟨g, t * 4 + 1, none⟩ (.int .i64 ant)) := (D0).setCell (p := ⟨g, t * 4 + 1, none⟩) (fun _ => rfl) _
            have g2 : ((w4.setCell ⟨g, t * 4, none⟩ (.int .i64 st)).setCell ⟨g, t * 4 + 1, none⟩ (.int .i64 ant)).frozen? ⟨g, t * 4 + 2, none⟩ = false := P1.frozenAt _
            have P2 := (P1.stored (t * 4 + 2) (.int .i64 rssi)).1
            have D2 : Chg (fun k => k = g) w4 (((w4.setCell ⟨g, t * 4, none⟩ (.int .i64 st)).setCell ⟨g, t * 4 + 1, none⟩ (.int .i64 ant)).setCell ⟨g, t * 4 + 2, none⟩ (.int .i64 rssi)) := (D1).setCell (p := ⟨g, t * 4 + 2, none⟩) (fun _ => rfl) _
            have g3 : (((w4.setCell ⟨g, t * 4, none⟩ (.int .i64 st)).setCell ⟨g, t * 4 + 1, none⟩ (.int .i64 ant)).setCell ⟨g, t * 4 + 2, none⟩ (.int .i64 rssi)).frozen? ⟨g, t * 4 + 3, none⟩ = false := P2.frozenAt _
            have P3 := (P2.stored (t * 4 + 3) (.int .i64 now)).1
            have D3 : Chg (fun k => k = g) w4 ((((w4.setCell ⟨g, t * 4, none⟩ (.int .i64 st)).setCell ⟨g, t * 4 + 1, none⟩ (.int .i64 ant)).setCell ⟨g, t * 4 + 2, none⟩ (.int .i64 rssi)).setCell ⟨g, t * 4 + 3, none⟩ (.int .i64 now)) := (D2).setCell (p := ⟨g, t * 4 + 3, none⟩) (fun _ => rfl) _
            have g0' : w4.frozen? ⟨g, t * 4, none⟩ = false := O3.frozenAt _
            have g1' : w4.frozen? ⟨g, t * 4 + 1, none⟩ = false := O3.frozenAt _
            have g2' : w4.frozen? ⟨g, t * 4 + 2, none⟩ = false := O3.frozenAt _
            have g3' : w4.frozen? ⟨g, t * 4 + 3, none⟩ = false := O3.frozenAt _
            have hl4 := scells_length x.l
            have r0 : w4.cell? ⟨g, t * 4, none⟩ = some (.int .i64 st) := by rw [O3.cellAt (t * 4) (by omega)]; have q := scells_at x.l hlx (j := 0) (by omega); rw [← HSS.out] at q; exact q
            have r1 : w4.cell? ⟨g, t * 4 + 1, none⟩ = some (.int .i64 sa) := by rw [O3.cellAt (t * 4 + 1) (by omega)]; have q := scells_at x.l hlx (j := 1) (by omega); rw [← HSS.out] at q; exact q
            have r2 : w4.cell? ⟨g, t * 4 + 2, none⟩ = some (.int .i64 sr) := by rw [O3.cellAt (t * 4 + 2) (by omega)]; have q := scells_at x.l hlx (j := 2) (by omega); rw [← HSS.out] at q; exact q
            have r3 : w4.cell? ⟨g, t * 4 + 3, none⟩ = some (.int .i64 sl) := by rw [O3.cellAt (t * 4 + 3) (by omega)]; have q := scells_at x.l hlx (j := 3) (by omega); rw [← HSS.out] at q; exact q
            have FF := Hid.intro (FIN.out w4 _ B3 D3.drew (by rw [HO.out.2, ← scells_set]; exact own_drewO P3))
            have KK := And.intro (cell_chg D3.drew k3 hgx) (And.intro (cell_chg D3.drew m0 hgb) (And.intro (cell_chg D3.drew m1 hgb) (And.intro (cell_chg D3.drew m2 hgb) (cell_chg D3.drew m3 hgb))))
            clear P0 P1 P2 P3 D0 D1 D2 D3 O3 B3 FIN OWN hl4
            go_region_held3 (fun w' => w'.cell? ⟨b, 3, none⟩ = some (.slice (some ⟨g, 0, none⟩) L c) ∧ w'.cell? ⟨bs, 0, none⟩ = some (.int .i64 st) ∧ w'.cell? ⟨bs, 1, none⟩ = some (.int .i64 ant) ∧ w'.cell? ⟨bs, 2, none⟩ = some (.int .i64 rssi) ∧ w'.cell? ⟨bs, 3, none⟩ = some (.int .i64 now)) (first | exact KK | go_keep) (fail)
            all_goals
              go_wp2
              go_ret
              exact ⟨by rw [FF.out.1, HO.out.1]; rfl, FF.out.2⟩
          · have HO : Hid (hearOut x.margin ⟨st, sa, sr, sl⟩ ant rssi = 0 ∧ hearS x.margin ⟨st, sa, sr, sl⟩ ant rssi now = ⟨st, sa, sr, now⟩) := hear_stay x.margin ⟨st, sa, sr, sl⟩ ant rssi now ea (by rw [← HMG.out, ← HDF.out]; exact em)
            go_wp2_with fail
            rw [← HBS.out]
            generalize wr.alloc (.cells #[.int .i64 st, .int .i64 sa, .int .i64 sr, .int .i64 sl] 41) = wa at *
            clear BA HBS s0 s1 s2 s3 d2 d3
            have x0 : wa.cell? ⟨bs, 0, none⟩ = some (.int .i64 st) := by rw [cell_of_row _ _ 0 _ _ _ nw]; rfl
            have x1 : wa.cell? ⟨bs, 1, none⟩ = some (.int .i64 sa) := by rw [cell_of_row _ _ 1 _ _ _ nw]; rfl
            have x2 : wa.cell? ⟨bs, 2, none⟩ = some (.int .i64 sr) := by rw [cell_of_row _ _ 2 _ _ _ nw]; rfl
            have x3 : wa.cell? ⟨bs, 3, none⟩ = some (.int .i64 sl) := by rw [cell_of_row _ _ 3 _ _ _ nw]; rfl
            go_quiet (fail)
            have nd : (wa.drewN nq).heap[bs]? = some (.cells #[.int .i64 st, .int .i64 sa, .int .i64 sr, .int .i64 sl] 41 (0, 0)) := nw
            have BD := below_drewN BB.out nq
            obtain ⟨hbw, hgb, hgx⟩ := HGB.out
            clear nw x0 x1 x2 x3 BB e2 e3 HGB
            generalize wa.drewN nq = wd at *
            have v0 : wd.cell? ⟨bs, 0, none⟩ = some (.int .i64 st) := by rw [cell_of_row _ _ 0 _ _ _ nd]; rfl
            have v1 : wd.cell? ⟨bs, 1, none⟩ = some (.int .i64 sa) := by rw [cell_of_row _ _ 1 _ _ _ nd]; rfl
            have v2 : wd.cell? ⟨bs, 2, none⟩ = some (.int .i64 sr) := by rw [cell_of_row _ _ 2 _ _ _ nd]; rfl
            have v3 : wd.cell? ⟨bs, 3, none⟩ = some (.int .i64 sl) := by rw [cell_of_row _ _ 3 _ _ _ nd]; rfl
            have f0 : wd.frozen? ⟨bs, 3, none⟩ = false := frozen_of_row wd bs 3 _ _ nd
            have h0 := heap_setCell_same wd bs 3 _ _ (.int .i64 now) nd
            have C0 : Chg (fun k => k = bs) wd (wd.setCell ⟨bs, 3, none⟩ (.int .i64 now)) := (Chg.refl (fun k => k = bs) wd).setCell (p := ⟨bs, 3, none⟩) (fun _ => rfl) _
            have B3 := BD.trans (C0.below BD.size (fun k hk => by rw [hk]; exact hbw))
            obtain ⟨O3, k3⟩ := OWN.out _ B3
            have m0 : (wd.setCell ⟨bs, 3, none⟩ (.int .i64 now)).cell? ⟨bs, 0, none⟩ = some (.int .i64 st) := by rw [cell_of_row _ _ 0 _ _ _ h0]; rfl
            have m1 : (wd.setCell ⟨bs, 3, none⟩ (.int .i64 now)).cell? ⟨bs, 1, none⟩ = some (.int .i64 sa) := by rw [cell_of_row _ _ 1 _ _ _ h0]; rfl
            have m2 : (wd.setCell ⟨bs, 3, none⟩ (.int .i64 now)).cell? ⟨bs, 2, none⟩ = some (.int .i64 sr) := by rw [cell_of_row _ _ 2 _ _ _ h0]; rfl
            have m3 : (wd.setCell ⟨bs, 3, none⟩ (.int .i64 now)).cell? ⟨bs, 3, none⟩ = some (.int .i64 now) := by rw [cell_of_row _ _ 3 _ _ _ h0]; rfl
            have O3H := Hid.intro O3
            have B3H := Hid.intro B3
            clear O3 B3
            go_wp2_with fail
            have O3 := O3H.out
            have B3 := B3H.out
            clear f0 h0 C0 nd v0 v1 v2 v3 BD O3H B3H
            generalize (wd.setCell ⟨bs, 3, none⟩ (.int .i64 now)) = w4 at *
            have g0 : w4.frozen? ⟨g, t * 4, none⟩ = false := O3.frozenAt _
            have P0 := (O3.stored (t * 4) (.int .i64 st)).1
            have D0 : Chg (fun k => k = g) w4 (w4.setCell ⟨g, t * 4, none⟩ (.int .i64 st)) := ((Chg.refl (fun k => k = g) w4)).setCell (p := ⟨g, t * 4, none⟩) (fun _ => rfl) _
            have g1 : (w4.setCell ⟨g, t * 4, none⟩ (.int .i64 st)).frozen? ⟨g, t * 4 + 1, none⟩ = false := P0.frozenAt _
            have P1 := (P0.stored (t * 4 + 1) (.int .i64 sa)).1
            have D1 : Chg (fun k => k = g) w4 ((w4.setCell ⟨g, t * 4, none⟩ (.int .i64 st)).setCell ⟨g, t * 4 + 1, none⟩ (.int .i64 sa)) := (D0).setCell (p := ⟨g, t * 4 + 1, none⟩) (fun _ => rfl) _
            have g2 : ((w4.setCell ⟨g, t * 4, none⟩ (.int .i64 st)).setCell ⟨g, t * 4 + 1, none⟩ (.int .i64 sa)).frozen? ⟨g, t * 4 + 2, none⟩ = false := P1.frozenAt _
            have P2 := (P1.stored (t * 4 + 2) (.int .i64 sr)).1
            have D2 : Chg (fun k => k = g) w4 (((w4.setCell ⟨g, t * 4, none⟩ (.int .i64 st)).setCell ⟨g, t * 4 + 1, none⟩ (.int .i64 sa)).setCell ⟨g, t * 4 + 2, none⟩ (.int .i64 sr)) := (D1).setCell (p := ⟨g, t * 4 + 2, none⟩) (fun _ => rfl) _
            have g3 : (((w4.setCell ⟨g, t * 4, none⟩ (.int .i64 st)).setCell ⟨g, t * 4 + 1, none⟩ (.int .i64 sa)).setCell ⟨g, t * 4 + 2, none⟩ (.int .i64 sr)).frozen? ⟨g, t * 4 + 3, none⟩ = false := P2.frozenAt _
            have P3 := (P2.stored (t * 4 + 3) (.int .i64 now)).1
            have D3 : Chg (fun k => k = g) w4 ((((w4.setCell ⟨g, t * 4, none⟩ (.int .i64 st)).setCell ⟨g, t * 4 + 1, none⟩ (.int .i64 sa)).setCell ⟨g, t * 4 + 2, none⟩ (.int .i64 sr)).setCell ⟨g, t * 4 + 3, none⟩ (.int .i64 now)) := (D2).setCell (p := ⟨g, t * 4 + 3, none⟩) (fun _ => rfl) _
            have g0' : w4.frozen? ⟨g, t * 4, none⟩ = false := O3.frozenAt _
            have g1' : w4.frozen? ⟨g, t * 4 + 1, none⟩ = false := O3.frozenAt _
            have g2' : w4.frozen? ⟨g, t * 4 + 2, none⟩ = false := O3.frozenAt _
            have g3' : w4.frozen? ⟨g, t * 4 + 3, none⟩ = false := O3.frozenAt _
            have hl4 := scells_length x.l
            have r0 : w4.cell? ⟨g, t * 4, none⟩ = some (.int .i64 st) := by rw [O3.cellAt (t * 4) (by omega)]; have q := scells_at x.l hlx (j := 0) (by omega); rw [← HSS.out] at q; exact q
            have r1 : w4.cell? ⟨g, t * 4 + 1, none⟩ = some (.int .i64 sa) := by rw [O3.cellAt (t * 4 + 1) (by omega)]; have q := scells_at x.l hlx (j := 1) (by omega); rw [← HSS.out] at q; exact q
            have r2 : w4.cell? ⟨g, t * 4 + 2, none⟩ = some (.int .i64 sr) := by rw [O3.cellAt (t * 4 + 2) (by omega)]; have q := scells_at x.l hlx (j := 2) (by omega); rw [← HSS.out] at q; exact q
            have r3 : w4.cell? ⟨g, t * 4 + 3, none⟩ = some (.int .i64 sl) := by rw [O3.cellAt (t * 4 + 3) (by omega)]; have q := scells_at x.l hlx (j := 3) (by omega); rw [← HSS.out] at q; exact q
            have FF := Hid.intro (FIN.out w4 _ B3 D3.drew (by rw [HO.out.2, ← scells_set]; exact own_drewO P3))
            have KK := And.intro (cell_chg D3.drew k3 hgx) (And.intro (cell_chg D3.drew m0 hgb) (And.intro (cell_chg D3.drew m1 hgb) (And.intro (cell_chg D3.drew m2 hgb) (cell_chg D3.drew m3 hgb))))
            clear P0 P1 P2 P3 D0 D1 D2 D3 O3 B3 FIN OWN hl4
            go_region_held3 (fun w' => w'.cell? ⟨b, 3, none⟩ = some (.slice (some ⟨g, 0, none⟩) L c) ∧ w'.cell? ⟨bs, 0, none⟩ = some (.int .i64 st) ∧ w'.cell? ⟨bs, 1, none⟩ = some (.int .i64 sa) ∧ w'.cell? ⟨bs, 2, none⟩ = some (.int .i64 sr) ∧ w'.cell? ⟨bs, 3, none⟩ = some (.int .i64 now)) (first | exact KK | go_keep) (fail)
            all_goals
              go_wp2
              go_ret
              exact ⟨by rw [FF.out.1, HO.out.1]; rfl, FF.out.2⟩
      · have NX : Hid (∀ j, (hj : j < x.l.length) → j < t + 1 → x.l[j].tx ≠ tx) := fun j hj h => by
          by_cases q : j < t
          · exact HNO.out j hj q
          · obtain rfl : j = t := by omega
            rw [← HSS.out]; exact e
        clear HIT HNO
        go_wp2
        go_roundw
        case rel => exact ⟨t + 1, by omega, by go_num, BB.out, NX.out⟩
        case measure => simp [intOf]; omega
    · obtain rfl : t = L := by omega
      have kk : ¬ (t : Int) < (t : Int) := by omega
      have HF : findT x.l tx = none := findT_miss (fun j hj => HNO.out j hj (by rw [HL.out]; exact hj))
      have d0 := below_cell hB c0
      by_cases hl : x.l.length < x.room
      · have q := hearT_new HR.out HF hl now
        have hok := HOK.out
        rw [q.2] at hok
        have HQ := Hid.intro q
        have l1 : (t : Int) < (x.room : Int) := by rw [HL.out]; omega
        clear hB HNO q hl HF
        go_wp2_with fail
        go_region_held3 (fun w' => w'.cell? ⟨b, 0, none⟩ = some (.int .i64 (x.room : Int)) ∧ w'.cell? ⟨b, 3, none⟩ = some (.slice ao t c)) (go_keep) (fail)
        all_goals
          have BD := BH.out.drew
          have k3 : wr.drew.cell? ⟨b, 3, none⟩ = some (.slice ao t c) := d3
          have OD := own_belowO H.out.own BD
          rw [← HL.out] at OD
          clear d0 d3 BH
          generalize wr.drew = wd at *
          have BE := (Below.refl _ wd).alloc (Nat.le_refl _) (.cells #[] 41)
          have k3e := below_cell BE k3
          have ER := Hid.intro (empty_seen wd)
          have OE : Hid ((wd.alloc (.cells #[] 41)).ownsRow 0 41 4 (.slice ao t c) x.l.length (scells x.l)) := by
            have q := own_belowO OD BE
            rw [HL.out] at q ⊢
            exact q
          have BEH := Hid.intro (BD.trans (BE.mono BD.size))
          have BDH := Hid.intro BD
          have FRS := Hid.intro (fun (W wb : World) (gz cz : Nat) (B : Below w.heap.size w wb) own new => H.out.fresh (y := moreT x ⟨tx, ant, rssi, now⟩) ⟨rfl, rfl, rfl⟩ hok (wb := wb) B (v2 := .slice (some ⟨gz, 0, none⟩) (t + 1) cz) own new)
          have hl8 : x.l.length ≤ 100 := by rw [← HL.out]; omega
          clear BE OD BD hok
          go_wp2_with (at_builtin; refine append_seen (by rfl) _ _ (by rfl) (.slice (some ⟨wd.heap.size, 0, none⟩) 0 0) (by rfl) ER.out (.slice ao t c) x.l (by rfl) OE.out hl8 ?_)
          intro v1 w1 own1 grow1 at1
          obtain ⟨B1, N1⟩ := grownO grow1 (by rw [World.size_alloc]; exact at1) BEH.out (Nat.le_refl _) (fun k hk => by
            have e : wd.heap.size = k := by simpa [Value.ownBlock] using hk
            have := BDH.out.size
            omega)
          obtain ⟨a1, c1, e1, _⟩ := ownsRow_form own1
          rw [← HL.out] at e1
          subst e1
          have BN := (Below.refl _ w1).alloc (Nat.le_refl _) (.cells #[.int .i64 tx, .int .i64 ant, .int .i64 rssi, .int .i64 now] 41)
          have ON : Hid ((w1.alloc (.cells #[.int .i64 tx, .int .i64 ant, .int .i64 rssi, .int .i64 now] 41)).ownsRow 0 41 4 (.slice a1 t c1) t (scells x.l)) := by
            have q := own_belowO own1 BN
            rw [← HL.out] at q
            exact q
          have GR := Hid.intro (heap_alloc_new w1 (.cells #[.int .i64 tx, .int .i64 ant, .int .i64 rssi, .int .i64 now] 41))
          have FIN : Hid (∀ (gz cz : Nat) (wb : World), wb.ownsRow 0 41 4 (.slice (some ⟨gz, 0, none⟩) (t + 1) cz) (t + 1) (scells x.l ++ [.int .i64 tx, .int .i64 ant, .int .i64 rssi, .int .i64 now]) → (w1.alloc (.cells #[.int .i64 tx, .int .i64 ant, .int .i64 rssi, .int .i64 now] 41)).grownBy wb (Value.slice a1 t c1).ownBlock → ((Value.slice a1 t c1).ownBlock = some gz ∨ gz = (w1.alloc (.cells #[.int .i64 tx, .int .i64 ant, .int .i64 rssi, .int .i64 now] 41)).heap.size) →
              (wb.cell? ⟨b, 3, none⟩ = some (.slice ao x.l.length c) ∧ wb.frozen? ⟨b, 3, none⟩ = false) ∧ LeftR F w (wb.setCell ⟨b, 3, none⟩ (.slice (some ⟨gz, 0, none⟩) (t + 1) cz)) b (moreT x ⟨tx, ant, rssi, now⟩)) := fun gz cz wb hown hgrow hat => by
            have C : Chg (fun k => (Value.slice a1 t c1).ownBlock = some k) w1 wb := ((below_chg BN).mono (fun _ q _ => q.elim)).grown hgrow (fun q hq _ => hq)
            have hs1 := B1.size
            have hsN := BN.size
            refine FRS.out wb wb gz cz (B1.trans (C.below hs1 (fun k hk => N1 k hk))) ?_ (fun k hk => ?_)
            · have e : scells (moreT x ⟨tx, ant, rssi, now⟩).l = scells x.l ++ [.int .i64 tx, .int .i64 ant, .int .i64 rssi, .int .i64 now] := by
                show scells (x.l ++ [_]) = _
                rw [scells_append, scells_one]; rfl
              have e2 : (moreT x ⟨tx, ant, rssi, now⟩).l.length = t + 1 := by show (x.l ++ [_]).length = _; rw [HL.out]; simp
              rw [e, e2]
              exact hown
            · obtain rfl : gz = k := by simpa [Value.ownBlock] using hk
              rcases hat with q | q
              · exact N1 gz q
              · omega
          obtain ⟨iF, hiF, hzF0, hzF1, hzF2⟩ := info_parts info_seen
          generalize scells x.l = ns at *
          clear own1 grow1 at1 N1 B1 BN BEH BDH FRS ER OE k3 k3e
          go_wp2_with (refine wpList_append_lies _ (by rfl) _ _ _ (by rfl) 0 41 iF (.agg #[.int .i64 0, .int .i64 0, .int .i64 0, .int .i64 0]) 4 32 Tryd.underlying35 hiF hzF0 hzF1 hzF2 (by rfl) (by decide) (.slice a1 t c1) t ns (by rfl) ON.out ⟨w1.heap.size, 0, none⟩ 1 1 [.int .i64 tx, .int .i64 ant, .int .i64 rssi, .int .i64 now] (by rfl) (by rfl) (World.news_of_block (cs := #[.int .i64 tx, .int .i64 ant, .int .i64 rssi, .int .i64 now]) GR.out) (by simp [Value.oneCell']) (by decide) (by unfold maxLen; omega) (by omega) (Nat.zero_le _) (w1.heap.size + 1) (by simp) ?_; intro gz cz wb hown hgrow hat hltz; have FN := FIN.out gz cz wb hown hgrow (by simpa using hat); have k8 := FN.1.1; have f8 := FN.1.2; have F1 := Hid.intro FN.2; clear FN hown hgrow hat hltz)
          go_ret
          exact ⟨by rw [HQ.out.1]; rfl, by rw [HQ.out.2]; exact F1.out⟩
      · have q := hearT_full HR.out HF hl now
        have HQ := Hid.intro q
        have l1 : ¬ (t : Int) < (x.room : Int) := by rw [HL.out]; omega
        clear hB HNO q hl HF
        go_wp2_with fail
        go_region_held3 (fun w' => w'.cell? ⟨b, 0, none⟩ = some (.int .i64 (x.room : Int)) ∧ w'.cell? ⟨b, 3, none⟩ = some (.slice ao t c)) (go_keep) (fail)
        all_goals
          go_wp2
          go_ret
          exact ⟨by rw [HQ.out.1]; rfl, by rw [HQ.out.2]; exact LeftR.same H.out BH.out.drew⟩

theorem refHear_any (b : Nat) (tx ant rssi now : Int) (hn : 0 ≤ now ∧ now ≤ 2 ^ 40) (F : Nat → Prop) (x : Tab) (w : World) (h : RTab F w b x) :
    Calls Tryd.prog 18 #[.pointer (some ⟨b, 0, none⟩), .int .i64 tx, .int .i64 ant, .int .i64 rssi, .int .i64 now] w fun e w' => e = .returned (.int .i64 (hearT x tx ant rssi)) ∧ LeftR F w w' b (hearX x tx ant rssi now) := by
  obtain ⟨v, h⟩ := h
  cases hr : isRx tx ant rssi with
  | true => exact refHear_in b tx ant rssi now hn hr F x v w h
  | false =>
    refine (refHear_no b tx ant rssi now hr w).mono ?_
    rintro e w' ⟨rfl, rfl⟩
    have q : hearT x tx ant rssi = 3 ∧ hearX x tx ant rssi now = x := by
      unfold hearT hearX
      rw [if_neg (by rw [hr]; decide), if_neg (by rw [hr]; decide)]
      exact ⟨rfl, rfl⟩
    rw [q.1, q.2]
    exact ⟨rfl, LeftR.same h (Below.refl _ _)⟩

end Go.Proofs.YtohedeeajcdjcaaDoor
