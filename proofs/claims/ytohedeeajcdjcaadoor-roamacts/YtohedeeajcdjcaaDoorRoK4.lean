/- Package roam: hear, Hear. -/
import Derived.Test.YtohedeeajcdjcaaDoorRoK3
import Derived.WalkMore
namespace Go.Proofs.YtohedeeajcdjcaaDoor
open Go.RowKit
open Bt

variable {S : Nat → Prop} {w w' : World} {b : Nat} {v : Value} {x : Tab}

/-- One is written anew: what is written lies in the list's block. -/
theorem TS.wrote {g c t : Nat} {s : Sen} (h : TS S w b (.slice (some ⟨g, 0, none⟩) x.l.length c) x) (hok : ({ x with l := x.l.set t s } : Tab).Ok) {W W' : World} (B : Below w.heap.size w W) (hC : Chg (fun k => k = g) W W')
    (own : W'.ownsRow 0 41 4 (.slice (some ⟨g, 0, none⟩) x.l.length c) x.l.length (scells (x.l.set t s))) : LeftT S w W' b { x with l := x.l.set t s } := by
  have hg := h.inV g rfl
  have C : Chg (fun k => k = g) w W' := ((below_chg B).mono (fun _ q _ => q.elim)).trans hC (fun _ q _ => q)
  refine ⟨S, ⟨.slice (some ⟨g, 0, none⟩) x.l.length c, (C.block b (h.lt b h.inB) (fun q => hg.2 q.symm)).trans h.head, ?_, h.inB, h.inV, fun k hk => Nat.lt_of_lt_of_le (h.lt k hk) C.size, hok⟩, C.mono (fun k q _ => by rw [q]; exact hg.1), fun k hk => .inl hk⟩
  show W'.ownsRow 0 41 4 _ (x.l.set t s).length (scells (x.l.set t s))
  rw [List.length_set]
  exact own

theorem hearT_at {x : Tab} {tx ant rssi : Int} {i : Nat} (hr : isRx tx ant rssi = true) (h : findT x.l tx = some i) (hi : i < x.l.length) (now : Int) :
    hearT x tx ant rssi = hearOut x.margin x.l[i] ant rssi ∧ hearX x tx ant rssi now = { x with l := x.l.set i (hearS x.margin x.l[i] ant rssi now) } := by
  unfold hearT hearX
  rw [if_pos hr, if_pos hr, h]
  have e : x.l.getD i ⟨0, 0, 0, 0⟩ = x.l[i] := by simp [hi]
  simp only [e]
  exact ⟨trivial, trivial⟩

theorem hearT_new {x : Tab} {tx ant rssi : Int} (hr : isRx tx ant rssi = true) (h : findT x.l tx = none) (hl : x.l.length < x.room) (now : Int) :
    hearT x tx ant rssi = 1 ∧ hearX x tx ant rssi now = moreT x ⟨tx, ant, rssi, now⟩ := by
  unfold hearT hearX moreT
  rw [if_pos hr, if_pos hr, h]
  simp only [if_pos hl]
  exact ⟨trivial, trivial⟩

theorem hearT_full {x : Tab} {tx ant rssi : Int} (hr : isRx tx ant rssi = true) (h : findT x.l tx = none) (hl : ¬ x.l.length < x.room) (now : Int) :
    hearT x tx ant rssi = 3 ∧ hearX x tx ant rssi now = x := by
  unfold hearT hearX
  rw [if_pos hr, if_pos hr, h]
  simp only [if_neg hl]
  exact ⟨trivial, trivial⟩

theorem hear_same (m : Nat) (s : Sen) (ant rssi now : Int) (h : s.ant = ant) : hearOut m s ant rssi = 0 ∧ hearS m s ant rssi now = ⟨s.tx, s.ant, rssi, now⟩ := by
  subst h
  have e : hearOut m s s.ant rssi = 0 := by unfold hearOut; rw [if_neg (fun q => q.1 rfl)]
  refine ⟨e, ?_⟩
  unfold hearS
  rw [if_pos (.inr rfl)]

theorem hear_move (m : Nat) (s : Sen) (ant rssi now : Int) (h : s.ant ≠ ant) (hm : (m : Int) ≤ rssi - s.rssi) : hearOut m s ant rssi = 2 ∧ hearS m s ant rssi now = ⟨s.tx, ant, rssi, now⟩ := by
  have e : hearOut m s ant rssi = 2 := by unfold hearOut; rw [if_pos ⟨h, hm⟩]
  refine ⟨e, ?_⟩
  unfold hearS
  rw [if_pos (.inl e)]

theorem hear_stay (m : Nat) (s : Sen) (ant rssi now : Int) (h : s.ant ≠ ant) (hm : ¬ (m : Int) ≤ rssi - s.rssi) : hearOut m s ant rssi = 0 ∧ hearS m s ant rssi now = ⟨s.tx, s.ant, s.rssi, now⟩ := by
  have e : hearOut m s ant rssi = 0 := by unfold hearOut; rw [if_neg (fun q => hm q.2)]
  refine ⟨e, ?_⟩
  unfold hearS
  rw [if_neg (fun q => q.elim (fun q => by rw [e] at q; exact absurd q (by decide)) h)]

set_option maxRecDepth 100000 in
set_option maxHeartbeats 2000000 in
theorem ohear_in (b : Nat) (tx ant rssi now : Int) (hn : 0 ≤ now ∧ now ≤ 2 ^ 40) (hr : isRx tx ant rssi = true) (F : Nat → Prop) (x : Tab) (v : Value) (w : World) (h : TS F w b v x) :
    Calls Tryd.prog 27 #[.pointer (some ⟨b, 0, none⟩), .agg #[.int .i64 tx, .int .i64 ant, .int .i64 rssi, .int .i64 now]] w fun e w' => e = .returned (.int .i64 (hearT x tx ant rssi)) ∧ LeftT F w w' b (hearX x tx ant rssi now) := by
  have BA := (Below.refl _ w).alloc (Nat.le_refl _) (.cells #[.int .i64 tx, .int .i64 ant, .int .i64 rssi, .int .i64 now] 41)
  have hA := h.below BA
  have hnw := heap_alloc_new w (.cells #[.int .i64 tx, .int .i64 ant, .int .i64 rssi, .int .i64 now] 41)
  have OF := Hid.intro (fun w => isOf_of tx w)
  have HB := Hid.intro BA
  have HOK := Hid.intro (hearX_ok h.ok tx ant rssi now hn)
  have HR := Hid.intro hr
  have HRB := Hid.intro (isRx_true hr)
  have HLT := Hid.intro h.lt
  clear BA h hr
  go_enter Tryd.func27, Tryd.ntmps27
  go_wp2_with fail
  go_step3
  go_wp2_with fail
  generalize w.alloc (.cells #[.int .i64 tx, .int .i64 ant, .int .i64 rssi, .int .i64 now] 41) = wa at *
  refine (OF.out _).mono ?_
  rintro e w1 ⟨bt, rfl, k1, B1⟩
  have h1 := hA.below B1
  have E1 := Hid.intro (HB.out.trans (B1.mono HB.out.size))
  have n1 := (B1.block _ (lt_of_heap hnw)).trans hnw
  clear OF HB hA hnw B1
  obtain ⟨bx, hbx⟩ : ∃ bx, bx = w.heap.size := ⟨_, rfl⟩
  rw [← hbx] at n1 ⊢
  have n_0 : w1.cell? ⟨bx, 0, none⟩ = some (.int .i64 tx) := by rw [cell_of_row _ _ 0 _ _ _ n1]; rfl
  have n_1 : w1.cell? ⟨bx, 1, none⟩ = some (.int .i64 ant) := by rw [cell_of_row _ _ 1 _ _ _ n1]; rfl
  have n_2 : w1.cell? ⟨bx, 2, none⟩ = some (.int .i64 rssi) := by rw [cell_of_row _ _ 2 _ _ _ n1]; rfl
  have n_3 : w1.cell? ⟨bx, 3, none⟩ = some (.int .i64 now) := by rw [cell_of_row _ _ 3 _ _ _ n1]; rfl
  have c2 := h1.cells.2.2.1
  have c3 := h1.cells.2.2.2
  obtain ⟨ao, c, hv, hfm⟩ := h1.form
  subst hv
  have hroom := (mayR_true h1.ok.may).2.1
  have hfew := h1.ok.few
  have H1 := Hid.intro h1
  have HNG : Hid (¬ F bx) := fun q => by have := HLT.out _ q; omega
  obtain ⟨L, hL⟩ : ∃ L, L = x.l.length := ⟨_, rfl⟩
  rw [← hL] at c3 hfew hfm
  have HL := Hid.intro hL
  have HBX := Hid.intro hbx
  clear hL hbx h1 n1
  go_wp2_with fail
  go_step3
  go_wp2_with fail
  go_loopw [17] (fun i ws => ∃ t : Nat, t ≤ L ∧ i = .int .i64 t ∧ Below w1.heap.size w1 ws ∧ ∀ j, (hj : j < x.l.length) → j < t → x.l[j].tx ≠ tx) (fun i _ => L - (intOf i).toNat)
  case atStart => exact ⟨0, by omega, rfl, Below.refl _ w1, fun j _ hj => absurd hj (Nat.not_lt_zero _)⟩
  case round =>
    obtain ⟨t, ht, rfl, hB, hno⟩ := hrel
    have HNO := Hid.intro hno
    have BH := Hid.intro hB
    clear hno
    by_cases hlt : t < L
    · obtain ⟨g, rfl⟩ := hfm.resolve_left (by omega)
      have hlx : t < x.l.length := by rw [← HL.out]; exact hlt
      have HT1 : TS F w1 b (.slice (some ⟨g, 0, none⟩) x.l.length c) x := by have := H1.out; exact this
      obtain ⟨q0, q1, q2, q3⟩ := HT1.sen hlx
      have s0 := below_cell hB q0
      have s1 := below_cell hB q1
      have s2 := below_cell hB q2
      have s3 := below_cell hB q3
      have CL := Hid.intro (isOf1_any x.l[t] tx bt wr (below_cell hB k1))
      have HIT := Hid.intro (fun (e : x.l[t].tx = tx) => findT_hit hlx e (fun j hj => HNO.out j (by omega) hj))
      have t1 : (t : Int) < (L : Int) := by omega
      have t0 : (0 : Int) ≤ (t : Int) := by omega
      have d3 := below_cell hB c3
      obtain ⟨s, hs⟩ : ∃ s, s = x.l[t] := ⟨_, rfl⟩
      have HSS := Hid.intro hs
      rw [← hs] at CL HIT s0 s1 s2 s3
      clear q0 q1 q2 q3 hs HT1
      by_cases e : s.tx = tx
      · rw [decide_eq_true e] at CL
        have HF := Hid.intro (HIT.out e)
        have HE := Hid.intro e
        clear HIT e
        go_wp2_with fail
        refine CL.out.mono ?_
        rintro e w3 ⟨rfl, B3⟩
        have B3w := Hid.intro (BH.out.trans (B3.mono BH.out.size))
        have c2' := below_cell B3w.out c2
        have n1' := below_cell B3w.out n_1
        have n2' := below_cell B3w.out n_2
        have n3' := below_cell B3w.out n_3
        have r1 := below_cell B3 s1
        have r2 := below_cell B3 s2
        have r3 := below_cell B3 s3
        clear CL B3 BH s0 s1 s2 s3 d3 hB
        obtain ⟨sa, hsa⟩ : ∃ sa, sa = s.ant := ⟨_, rfl⟩
        obtain ⟨sr, hsr⟩ : ∃ sr, sr = s.rssi := ⟨_, rfl⟩
        obtain ⟨sl, hsl⟩ : ∃ sl, sl = s.last := ⟨_, rfl⟩
        rw [← hsa] at r1 ⊢
        rw [← hsr] at r2 ⊢
        rw [← hsl] at r3 ⊢
        have HSA := Hid.intro hsa
        have HSR := Hid.intro hsr
        clear hsa hsr hsl
        have OW : Hid (w3.ownsRow 0 41 4 (.slice (some ⟨g, 0, none⟩) L c) L (scells x.l)) := by
          have q := own_belowO H1.out.own B3w.out
          rw [← HL.out] at q
          exact q
        have hbg : bx ≠ g := by
          have := H1.out.lt g (H1.out.inV g rfl).1
          intro q
          subst q
          exact HNG.out (H1.out.inV bx rfl).1
        have FIN : Hid (∀ W W' : World, Below w1.heap.size w1 W → Chg (fun k => k = g) W W' → W'.ownsRow 0 41 4 (.slice (some ⟨g, 0, none⟩) L c) L (scells (x.l.set t (hearS x.margin s ant rssi now))) → hearT x tx ant rssi = hearOut x.margin s ant rssi ∧ LeftT F w W' b (hearX x tx ant rssi now)) := fun W W' hB hC hO => by
          obtain ⟨a1, a2⟩ := hearT_at HR.out HF.out hlx now
          have hok := HOK.out
          rw [a2] at hok ⊢
          rw [← HSS.out] at a1 hok ⊢
          rw [HL.out] at hO
          exact ⟨a1, (TS.wrote H1.out hok hB hC hO).over E1.out⟩
        by_cases ea : ant = sa
        · subst ea
          have HO : Hid (hearOut x.margin s ant rssi = 0 ∧ hearS x.margin s ant rssi now = ⟨s.tx, s.ant, rssi, now⟩) := by
            exact hear_same x.margin s _ _ now HSA.out.symm
          go_wp2_with fail
          go_region_held3 (fun w' => w'.cell? ⟨bx, 1, none⟩ = some (.int .i64 ant) ∧ w'.cell? ⟨g, t * 4 + 1, none⟩ = some (.int .i64 ant)) (go_keep) (fail)
          all_goals
            have OD := Hid.intro (own_drewO OW.out)
            have BD := Hid.intro B3w.out.drew
            have m2 : w3.drew.cell? ⟨bx, 2, none⟩ = some (.int .i64 rssi) := n2'
            have m3 : w3.drew.cell? ⟨bx, 3, none⟩ = some (.int .i64 now) := n3'
            have p2 : w3.drew.cell? ⟨g, t * 4 + 2, none⟩ = some (.int .i64 sr) := r2
            have p3 : w3.drew.cell? ⟨g, t * 4 + 3, none⟩ = some (.int .i64 sl) := r3
            clear OW B3w c2' n1' n2' n3' r1 r2 r3
            generalize w3.drew = wd at *
            have f2 : wd.frozen? ⟨g, t * 4 + 2, none⟩ = false := OD.out.frozenAt _
            have O2 := (OD.out.stored (t * 4 + 2) (.int .i64 rssi)).1
            have C2 : Chg (fun k => k = g) wd (wd.setCell ⟨g, t * 4 + 2, none⟩ (.int .i64 rssi)) := Chg.setCell (S := fun k => k = g) (Chg.refl _ wd) (fun _ => rfl) _
            have f3 : (wd.setCell ⟨g, t * 4 + 2, none⟩ (.int .i64 rssi)).frozen? ⟨g, t * 4 + 3, none⟩ = false := O2.frozenAt _
            have m3' := cell_chg C2 m3 hbg
            have F1 := FIN.out wd _ BD.out (C2.setCell (p := ⟨g, t * 4 + 3, none⟩) (fun _ => rfl) (.int .i64 now)) (by
              rw [HO.out.2]
              have e := scells_set2 x.l hlx ⟨s.tx, s.ant, rssi, now⟩ (by rw [HSS.out]) (by rw [HSS.out])
              rw [← e]
              exact (O2.stored (t * 4 + 3) (.int .i64 now)).1)
            have FF := Hid.intro F1
            clear F1 C2 O2 OD BD FIN
            go_wp2
            rw [Exit.noGoto_ret]
            go_ret
            exact ⟨by rw [FF.out.1, HO.out.1]; rfl, FF.out.2⟩
        · have hsx : x.l[t] ∈ x.l := List.getElem_mem hlx
          have hsb := (isRx_true (H1.out.ok.each _ hsx).1).2.2
          rw [← HSS.out, ← HSR.out] at hsb
          have hrb := HRB.out.2.2
          have hmb := (mayR_true H1.out.ok.may).2.2.2.2.2
          have hwr : IntKind.i64.wrap (rssi - sr) = rssi - sr := IntWalk.i64_in _ (by omega)
          obtain ⟨mg, hmg⟩ : ∃ mg : Int, mg = (x.margin : Int) := ⟨_, rfl⟩
          rw [← hmg] at c2' hmb
          have HMG := Hid.intro hmg
          obtain ⟨df, hdf⟩ : ∃ df, df = rssi - sr := ⟨_, rfl⟩
          rw [← hdf] at hwr
          have HDF := Hid.intro hdf
          have hwr2 : IntKind.i64.wrap (rssi - sr) = df := by rw [← hdf]; exact hwr
          clear hsx hmg hdf hsb hrb hwr
          by_cases em : mg ≤ df
          · have HO : Hid (hearOut x.margin s ant rssi = 2 ∧ hearS x.margin s ant rssi now = ⟨s.tx, ant, rssi, now⟩) := hear_move x.margin s _ _ now (fun q => ea (by rw [HSA.out]; exact q.symm)) (by rw [← HMG.out, ← HSR.out, ← HDF.out]; exact em)
            go_wp2_with fail
            go_region_held3 (fun w' => w'.cell? ⟨bx, 1, none⟩ = some (.int .i64 ant) ∧ w'.cell? ⟨g, t * 4 + 1, none⟩ = some (.int .i64 sa)) (go_keep) (fail)
            all_goals
              go_wp2_with fail
              go_region_held3 (fun w' => w'.cell? ⟨bx, 2, none⟩ = some (.int .i64 rssi) ∧ w'.cell? ⟨g, t * 4 + 2, none⟩ = some (.int .i64 sr) ∧ w'.cell? ⟨b, 2, none⟩ = some (.int .i64 mg)) (go_keep) (fail)
              all_goals
                have OD := Hid.intro (own_drewO (own_drewO OW.out))
                have BD := Hid.intro B3w.out.drew.drew
                have m1 : w3.drew.drew.cell? ⟨bx, 1, none⟩ = some (.int .i64 ant) := n1'
                have m2 : w3.drew.drew.cell? ⟨bx, 2, none⟩ = some (.int .i64 rssi) := n2'
                have m3 : w3.drew.drew.cell? ⟨bx, 3, none⟩ = some (.int .i64 now) := n3'
                have p1 : w3.drew.drew.cell? ⟨g, t * 4 + 1, none⟩ = some (.int .i64 sa) := r1
                have p2 : w3.drew.drew.cell? ⟨g, t * 4 + 2, none⟩ = some (.int .i64 sr) := r2
                have p3 : w3.drew.drew.cell? ⟨g, t * 4 + 3, none⟩ = some (.int .i64 sl) := r3
                clear OW B3w c2' n1' n2' n3' r1 r2 r3
                generalize w3.drew.drew = wd at *
                have OE := own_drewO OD.out
                have f1 : wd.drew.frozen? ⟨g, t * 4 + 1, none⟩ = false := OE.frozenAt _
                have O1 := (OE.stored (t * 4 + 1) (.int .i64 ant)).1
                have C1 : Chg (fun k => k = g) wd (wd.drew.setCell ⟨g, t * 4 + 1, none⟩ (.int .i64 ant)) := Chg.setCell (S := fun k => k = g) ((Chg.refl _ wd).drew) (fun _ => rfl) _
                have f2 : (wd.drew.setCell ⟨g, t * 4 + 1, none⟩ (.int .i64 ant)).frozen? ⟨g, t * 4 + 2, none⟩ = false := O1.frozenAt _
                have O2 := (O1.stored (t * 4 + 2) (.int .i64 rssi)).1
                have C2 : Chg (fun k => k = g) wd ((wd.drew.setCell ⟨g, t * 4 + 1, none⟩ (.int .i64 ant)).setCell ⟨g, t * 4 + 2, none⟩ (.int .i64 rssi)) := C1.setCell (p := ⟨g, t * 4 + 2, none⟩) (fun _ => rfl) _
                have f3 : ((wd.drew.setCell ⟨g, t * 4 + 1, none⟩ (.int .i64 ant)).setCell ⟨g, t * 4 + 2, none⟩ (.int .i64 rssi)).frozen? ⟨g, t * 4 + 3, none⟩ = false := O2.frozenAt _
                have f1' : wd.frozen? ⟨g, t * 4 + 1, none⟩ = false := OD.out.frozenAt _
                have f2' : wd.frozen? ⟨g, t * 4 + 2, none⟩ = false := OD.out.frozenAt _
                have f3' : wd.frozen? ⟨g, t * 4 + 3, none⟩ = false := OD.out.frozenAt _
                have f2d : wd.drew.frozen? ⟨g, t * 4 + 2, none⟩ = false := OD.out.frozenAt _
                have m11 := cell_chg C1 m1 hbg
                have m12 := cell_chg C1 m2 hbg
                have m21 := cell_chg C2 m1 hbg
                have m22 := cell_chg C2 m2 hbg
                have m23 := cell_chg C2 m3 hbg
                have F1 := FIN.out wd _ BD.out (C2.setCell (p := ⟨g, t * 4 + 3, none⟩) (fun _ => rfl) (.int .i64 now)) (by
                  rw [HO.out.2]
                  have e := scells_set3 x.l hlx ⟨s.tx, ant, rssi, now⟩ (by rw [HSS.out])
                  rw [← e]
                  exact (O2.stored (t * 4 + 3) (.int .i64 now)).1)
                have FF := Hid.intro F1
                clear F1 C2 O2 OD BD FIN C1 O1 OE
                go_wp2_with fail
                go_region_held3 (fun w' => w'.cell? ⟨bx, 1, none⟩ = some (.int .i64 ant) ∧ w'.cell? ⟨bx, 2, none⟩ = some (.int .i64 rssi)) (first | exact ⟨m21, m22⟩ | exact ⟨m11, m12⟩ | go_keep) (fail)
                all_goals
                  go_wp2
                  rw [Exit.noGoto_ret]
                  go_ret
                  exact ⟨by rw [FF.out.1, HO.out.1]; rfl, FF.out.2⟩
          · have HO : Hid (hearOut x.margin s ant rssi = 0 ∧ hearS x.margin s ant rssi now = ⟨s.tx, s.ant, s.rssi, now⟩) := hear_stay x.margin s _ _ now (fun q => ea (by rw [HSA.out]; exact q.symm)) (by rw [← HMG.out, ← HSR.out, ← HDF.out]; exact em)
            go_wp2_with fail
            go_region_held3 (fun w' => w'.cell? ⟨bx, 1, none⟩ = some (.int .i64 ant) ∧ w'.cell? ⟨g, t * 4 + 1, none⟩ = some (.int .i64 sa)) (go_keep) (fail)
            all_goals
              go_wp2_with fail
              go_region_held3 (fun w' => w'.cell? ⟨bx, 2, none⟩ = some (.int .i64 rssi) ∧ w'.cell? ⟨g, t * 4 + 2, none⟩ = some (.int .i64 sr) ∧ w'.cell? ⟨b, 2, none⟩ = some (.int .i64 mg)) (go_keep) (fail)
              all_goals
                have OD := Hid.intro (own_drewO (own_drewO OW.out))
                have BD := Hid.intro B3w.out.drew.drew
                have m3 : w3.drew.drew.cell? ⟨bx, 3, none⟩ = some (.int .i64 now) := n3'
                have p3 : w3.drew.drew.cell? ⟨g, t * 4 + 3, none⟩ = some (.int .i64 sl) := r3
                clear OW B3w c2' n1' n2' n3' r1 r2 r3
                generalize w3.drew.drew = wd at *
                have f3 : wd.frozen? ⟨g, t * 4 + 3, none⟩ = false := OD.out.frozenAt _
                have F1 := FIN.out wd _ BD.out (Chg.setCell (S := fun k => k = g) (p := ⟨g, t * 4 + 3, none⟩) (Chg.refl _ wd) (fun _ => rfl) (.int .i64 now)) (by
                  rw [HO.out.2]
                  have e := scells_set1 x.l hlx ⟨s.tx, s.ant, s.rssi, now⟩ (by rw [HSS.out]) (by rw [HSS.out]) (by rw [HSS.out])
                  rw [← e]
                  exact (OD.out.stored (t * 4 + 3) (.int .i64 now)).1)
                have FF := Hid.intro F1
                clear F1 OD BD FIN
                go_wp2
                rw [Exit.noGoto_ret]
                go_ret
                exact ⟨by rw [FF.out.1, HO.out.1]; rfl, FF.out.2⟩
      · rw [decide_eq_false e] at CL
        have NX : Hid (∀ j, (hj : j < x.l.length) → j < t + 1 → x.l[j].tx ≠ tx) := fun j hj h => by
          by_cases q : j < t
          · exact HNO.out j hj q
          · obtain rfl : j = t := by omega
            rw [← HSS.out]; exact e
        clear HIT e
        go_wp2_with fail
        refine CL.out.mono ?_
        rintro e w3 ⟨rfl, B3⟩
        have B3w := Hid.intro (BH.out.trans (B3.mono BH.out.size))
        clear CL B3 BH s0 s1 s2 s3 d3 HNO
        go_wp2
        go_roundw
        case rel => exact ⟨t + 1, by omega, by go_num, B3w.out, NX.out⟩
        case measure => simp [intOf]; omega
    · obtain rfl : t = L := by omega
      have kk : ¬ (t : Int) < (t : Int) := by omega
      have HF : findT x.l tx = none := findT_miss (fun j hj => HNO.out j hj (by rw [HL.out]; exact hj))
      have d0 := below_cell hB n_0
      have d1 := below_cell hB n_1
      have d2 := below_cell hB n_2
      have d3 := below_cell hB n_3
      by_cases hl : x.l.length < x.room
      · have q := hearT_new HR.out HF hl now
        have hok := HOK.out
        rw [q.2] at hok
        have FO := Hid.intro (ofollow_yes b ⟨tx, ant, rssi, now⟩ F x _ wr (H1.out.below hB) hok hl)
        have BW := Hid.intro (E1.out.trans (hB.mono E1.out.size))
        have HQ := Hid.intro q
        clear hB HNO q hok hl HF
        go_wp2_with fail
        refine FO.out.mono ?_
        rintro e w4 ⟨rfl, h4⟩
        have H4 := Hid.intro (h4.over BW.out)
        clear FO h4
        go_wp2
        first | rw [Exit.noGoto_ret] | skip
        go_ret
        exact ⟨by rw [HQ.out.1]; rfl, by rw [HQ.out.2]; exact H4.out⟩
      · have q := hearT_full HR.out HF hl now
        have FO := Hid.intro (ofollow_no b ⟨tx, ant, rssi, now⟩ F x _ wr (H1.out.below hB) hl)
        have BW := Hid.intro (E1.out.trans (hB.mono E1.out.size))
        have HQ := Hid.intro q
        clear hB HNO q hl HF
        go_wp2_with fail
        refine FO.out.mono ?_
        rintro e w4 ⟨rfl, h4⟩
        have H4 := Hid.intro (h4.over BW.out)
        clear FO h4
        go_wp2
        first | rw [Exit.noGoto_ret] | skip
        go_ret
        exact ⟨by rw [HQ.out.1]; rfl, by rw [HQ.out.2]; exact H4.out⟩

theorem ohear_nil (tx ant rssi now : Int) (w : World) :
    Calls Tryd.prog 15 #[.pointer none, .int .i64 tx, .int .i64 ant, .int .i64 rssi, .int .i64 now] w fun e w' => e = .returned (.int .i64 3) ∧ Below w.heap.size w w' := by
  go_enter Tryd.func15, Tryd.ntmps15
  go_wp2
  go_ret
  exact ⟨rfl, Below.refl _ _⟩

theorem ohear_any (b : Nat) (tx ant rssi now : Int) (hn : 0 ≤ now ∧ now ≤ 2 ^ 40) (F : Nat → Prop) (x : Tab) (w : World) (hw : Wid w) (hc : Tabl F w b x) :
    Calls Tryd.prog 15 #[.pointer (some ⟨b, 0, none⟩), .int .i64 tx, .int .i64 ant, .int .i64 rssi, .int .i64 now] w fun e w' => e = .returned (.int .i64 (hearT x tx ant rssi)) ∧ LeftT F w w' b (hearX x tx ant rssi now) := by
  obtain ⟨v, h⟩ := hc
  have MB := Hid.intro (omayBe_any tx ant rssi w hw)
  have HN := Hid.intro hn
  clear hn
  cases hr : isRx tx ant rssi with
  | false =>
    rw [hr] at MB
    have HQ : Hid (hearT x tx ant rssi = 3 ∧ hearX x tx ant rssi now = x) := by
      unfold hearT hearX
      rw [if_neg (by rw [hr]; decide), if_neg (by rw [hr]; decide)]
      exact ⟨rfl, rfl⟩
    have H := Hid.intro h
    clear h hw
    go_enter Tryd.func15, Tryd.ntmps15
    go_wp2_with fail
    refine MB.out.mono ?_
    rintro e w1 ⟨rfl, B1⟩
    clear MB
    go_wp2
    go_ret
    exact ⟨by rw [HQ.out.1]; rfl, by rw [HQ.out.2]; exact LeftT.same H.out B1⟩
  | true =>
    rw [hr] at MB
    have HE := Hid.intro (fun (W : World) (hB : Below w.heap.size w W) => ohear_in b tx ant rssi now HN.out hr F x v W (h.below hB))
    clear h hw
    generalize hearT x tx ant rssi = o at HE ⊢
    generalize hearX x tx ant rssi now = y at HE ⊢
    go_enter Tryd.func15, Tryd.ntmps15
    go_wp2_with fail
    refine MB.out.mono ?_
    rintro e w1 ⟨rfl, B1⟩
    clear MB
    have HE1 := Hid.intro (HE.out w1 B1)
    have B1H := Hid.intro B1
    clear HE B1
    go_wp2_with fail
    refine HE1.out.mono ?_
    rintro e w4 ⟨rfl, h4⟩
    have H4 := Hid.intro (h4.over B1H.out)
    clear HE1 h4
    go_wp2
    go_ret
    exact ⟨rfl, H4.out⟩

end Go.Proofs.YtohedeeajcdjcaaDoor
