/- Package load: Admit, Discharge. -/
import Derived.Test.YthofgajchejdfaaLdK4
namespace Go.Proofs.Ythofgajchejdfaa
open Go.RowKit
open Bt

theorem admitE_of (l : List Bdd) (b : Bdd) (cap : Int) : admitE l b cap = if mayB b = true then (if thB l b = true then 9 else if 8 ≤ l.length then 7 else if sumB l + ofB b ≤ cap * 60 then 0 else 10) else 1 := by
  unfold admitE
  by_cases h1 : mayB b = true
  · rw [if_pos h1, if_pos h1]
    have e : (0 ≤ placeB (·.bid) l b.bid ∨ 0 ≤ placeB (·.tx) l b.tx) ↔ thB l b = true := by
      unfold thB
      rw [Bool.or_eq_true, decide_eq_true_eq, decide_eq_true_eq]
    by_cases h2 : thB l b = true
    · rw [if_pos (e.2 h2), if_pos h2]
    · rw [if_neg (fun q => h2 (e.1 q)), if_neg h2]
      by_cases h3 : 8 ≤ l.length
      · rw [if_pos h3, if_pos h3]
      · rw [if_neg h3, if_neg h3]
        by_cases h4 : sumB l + ofB b ≤ cap * 60
        · rw [if_pos h4, if_neg (by omega)]
        · rw [if_neg h4, if_pos (by omega)]
  · rw [if_neg h1, if_neg h1]

theorem admitL_no {l : List Bdd} {b : Bdd} {cap : Int} (h : admitE l b cap ≠ 0) : admitL l b cap = [] := by
  unfold admitL
  rw [if_neg h]

theorem admitL_yes {l : List Bdd} {b : Bdd} {cap : Int} (h : admitE l b cap = 0) : admitL l b cap = l ++ [b] := by
  unfold admitL
  rw [if_pos h]

/-- Admit's ways. -/
structure AdW (l : List Bdd) (b : Bdd) (cap pe : Int) (T : List Bdd) (my th dd : Bool) : Prop where
  no1 : my = false → pe = 1 ∧ T = []
  no2 : my = true → th = true → pe = 9 ∧ T = []
  no3 : my = true → th = false → 8 ≤ l.length → pe = 7 ∧ T = []
  no4 : my = true → th = false → ¬ 8 ≤ l.length → dd = false → pe = 10 ∧ T = []
  yes : my = true → th = false → ¬ 8 ≤ l.length → dd = true → pe = 0 ∧ T = l ++ [b]

theorem adW (l : List Bdd) (b : Bdd) (cap : Int) : AdW l b cap (admitE l b cap) (admitL l b cap) (mayB b) (thB l b) (decide (sumB l + ofB b ≤ cap * 60)) := by
  have E := admitE_of l b cap
  refine ⟨fun h1 => ?_, fun h1 h2 => ?_, fun h1 h2 h3 => ?_, fun h1 h2 h3 h4 => ?_, fun h1 h2 h3 h4 => ?_⟩
  · rw [if_neg (by rw [h1]; simp)] at E
    exact ⟨E, admitL_no (by rw [E]; decide)⟩
  · rw [if_pos h1, if_pos h2] at E
    exact ⟨E, admitL_no (by rw [E]; decide)⟩
  · rw [if_pos h1, if_neg (by rw [h2]; simp), if_pos h3] at E
    exact ⟨E, admitL_no (by rw [E]; decide)⟩
  · rw [if_pos h1, if_neg (by rw [h2]; simp), if_neg h3, if_neg (of_decide_eq_false h4)] at E
    exact ⟨E, admitL_no (by rw [E]; decide)⟩
  · rw [if_pos h1, if_neg (by rw [h2]; simp), if_neg h3, if_pos (of_decide_eq_true h4)] at E
    exact ⟨E, admitL_yes E⟩

theorem bda_cat {w w1 w2 : World} {L : List Bdd} {e : Ending} {a : Option Addr} {d : Nat} (hb : BdsAt (fun k => w1.heap.size ≤ k) w2 (.slice a L.length d) L) (hr : L.length ≤ d ∧ (a = none → d = 0)) (h1 : w.heap.size ≤ w1.heap.size) (hw : Below w.heap.size w w2) (he : e = .returned (.tuple #[.slice a L.length d, .int .i64 0])) : BdA w L 0 e w2 :=
  ⟨a, d, he, hb.mono (fun k hk => by omega), hr, hw⟩

set_option maxRecDepth 100000 in
set_option maxHeartbeats 4000000 in
theorem ladmit_in (R : Nat → Prop) (ao : Option Addr) (c : Nat) (l : List Bdd) (hl : l.length ≤ 100) (hr : ao = none → c = 0) (b : Bdd) (cap : Int) (w : World) (h : BdsAt R w (.slice ao l.length c) l) :
    Calls Try.prog 22 #[.slice ao l.length c, Bv b, .int .i64 cap] w (BdA w (admitL l b cap) (admitE l b cap)) := by
  have AW := Hid.intro (adW l b cap)
  have sb := sumB_bounds l
  have ob := ofB_bounds b
  have HL := Hid.intro h
  obtain ⟨b0, b1, b2, b3, b4, b5⟩ := b
  have B0 := (Below.refl _ w).alloc (Nat.le_refl _) (.cells #[.int .i64 b0, .int .i64 b1, .int .i64 b2, .int .i64 b3, .int .i64 b4, .int .i64 b5] 27)
  have nb := heap_alloc_new w (.cells #[.int .i64 b0, .int .i64 b1, .int .i64 b2, .int .i64 b3, .int .i64 b4, .int .i64 b5] 27)
  obtain ⟨A, hA⟩ : ∃ A, A = w.alloc (.cells #[.int .i64 b0, .int .i64 b1, .int .i64 b2, .int .i64 b3, .int .i64 b4, .int .i64 b5] 27) := ⟨_, rfl⟩
  have HA := Hid.intro hA
  rw [← hA] at B0 nb
  have d0 : A.cell? ⟨w.heap.size, 0, none⟩ = some (.int .i64 b0) := by rw [cell_of_row _ _ 0 _ _ _ nb]; rfl
  have d1 : A.cell? ⟨w.heap.size, 1, none⟩ = some (.int .i64 b1) := by rw [cell_of_row _ _ 1 _ _ _ nb]; rfl
  have d2 : A.cell? ⟨w.heap.size, 2, none⟩ = some (.int .i64 b2) := by rw [cell_of_row _ _ 2 _ _ _ nb]; rfl
  have d3 : A.cell? ⟨w.heap.size, 3, none⟩ = some (.int .i64 b3) := by rw [cell_of_row _ _ 3 _ _ _ nb]; rfl
  have d4 : A.cell? ⟨w.heap.size, 4, none⟩ = some (.int .i64 b4) := by rw [cell_of_row _ _ 4 _ _ _ nb]; rfl
  have d5 : A.cell? ⟨w.heap.size, 5, none⟩ = some (.int .i64 b5) := by rw [cell_of_row _ _ 5 _ _ _ nb]; rfl
  have KK : Hid (∀ W, Below A.heap.size A W → W.cell? ⟨w.heap.size, 0, none⟩ = some (.int .i64 b0) ∧ W.cell? ⟨w.heap.size, 1, none⟩ = some (.int .i64 b1) ∧ W.cell? ⟨w.heap.size, 2, none⟩ = some (.int .i64 b2) ∧ W.cell? ⟨w.heap.size, 3, none⟩ = some (.int .i64 b3) ∧ W.cell? ⟨w.heap.size, 4, none⟩ = some (.int .i64 b4) ∧ W.cell? ⟨w.heap.size, 5, none⟩ = some (.int .i64 b5)) := fun W h => ⟨cellU h d0, cellU h d1, cellU h d2, cellU h d3, cellU h d4, cellU h d5⟩
  have BH := Hid.intro B0
  have BX : Hid (∀ W, Below A.heap.size A W → Below w.heap.size w W) := fun W hW => B0.trans (hW.mono B0.size)
  have MY := Hid.intro (lmay_in b0 b1 b2 b3 b4 b5 A)
  have TH := Hid.intro (fun (W : World) (hW : Below A.heap.size A W) => lthere_any R _ l hl ⟨b0, b1, b2, b3, b4, b5⟩ W (h.below (BX.out W hW)))
  have SU := Hid.intro (fun (W : World) (hW : Below A.heap.size A W) => lsum_any R _ l hl W (h.below (BX.out W hW)))
  have OF := Hid.intro (fun (W : World) => lof_in b0 b1 b2 b3 b4 b5 W)
  have TK := Hid.intro (fun (W : World) => ltakes_any cap (sumB l + ofB ⟨b0, b1, b2, b3, b4, b5⟩) (by omega) W)
  have LL : Hid (l.length = l.length) := rfl
  generalize decide (sumB l + ofB ⟨b0, b1, b2, b3, b4, b5⟩ ≤ cap * 60) = dd at *
  generalize thB l ⟨b0, b1, b2, b3, b4, b5⟩ = th at *
  generalize mayB ⟨b0, b1, b2, b3, b4, b5⟩ = my at *
  generalize admitE l ⟨b0, b1, b2, b3, b4, b5⟩ cap = pe at *
  generalize admitL l ⟨b0, b1, b2, b3, b4, b5⟩ cap = T at *
  have CC := Hid.intro (fun (W : World) (g g2 : Nat) (hW : Below A.heap.size A W) (k1 : W.cell? ⟨g, 0, none⟩ = some (.slice ao l.length c)) (k2 : W.cell? ⟨g, 1, none⟩ = some (.slice (some ⟨g2, 0, none⟩) 1 1)) (k3 : W.heap[g2]? = some (.cells #[.int .i64 b0, .int .i64 b1, .int .i64 b2, .int .i64 b3, .int .i64 b4, .int .i64 b5] 27)) => lconcat_any R (fun _ => True) ao (some ⟨g2, 0, none⟩) c 1 l [⟨b0, b1, b2, b3, b4, b5⟩] hl (by simp) hr (fun q => by cases q) g W k1 k2 (h.below (BX.out W hW)) (bds_block (l := [⟨b0, b1, b2, b3, b4, b5⟩]) k3 1))
  obtain ⟨Z, hZ⟩ : ∃ Z, Z = sumB l := ⟨_, rfl⟩
  obtain ⟨O, hO⟩ : ∃ O, O = ofB ⟨b0, b1, b2, b3, b4, b5⟩ := ⟨_, rfl⟩
  rw [← hZ] at SU TK sb
  rw [← hO] at OF TK ob
  obtain ⟨L, hLL⟩ : ∃ L, L = l.length := ⟨_, rfl⟩
  have EL := Hid.intro hLL
  have AW2 : Hid ((my = false → pe = 1 ∧ T = []) ∧ (my = true → th = true → pe = 9 ∧ T = []) ∧ (my = true → th = false → 8 ≤ L → pe = 7 ∧ T = []) ∧ (my = true → th = false → ¬ 8 ≤ L → dd = false → pe = 10 ∧ T = []) ∧ (my = true → th = false → ¬ 8 ≤ L → dd = true → pe = 0 ∧ T = l ++ [⟨b0, b1, b2, b3, b4, b5⟩])) := by
    rw [Hid, hLL]
    exact ⟨AW.out.no1, AW.out.no2, AW.out.no3, AW.out.no4, AW.out.yes⟩
  rw [← hLL] at TH SU CC sb hl HL ⊢
  clear AW h B0 nb d0 d1 d2 d3 d4 d5 hZ hO hLL hA LL
  have w1 : IntKind.i64.wrap (Z + O) = Z + O := by rw [IntKind.wrap_i64]; omega
  cases my with
  | false =>
    obtain ⟨rfl, rfl⟩ := AW2.out.1 rfl
    go_enter Try.func22, Try.ntmps22
    go_wp2_with fail
    rw [← HA.out]
    refine MY.out.mono ?_
    rintro e w1 ⟨rfl, B1⟩
    have W1 := Hid.intro B1
    obtain ⟨c0, c1, c2, c3, c4, c5⟩ := KK.out _ B1
    clear MY B1
    go_wp2
    go_ret2
    exact bda_none rfl (BX.out _ W1.out)
  | true =>
  cases th with
  | true =>
    obtain ⟨rfl, rfl⟩ := AW2.out.2.1 rfl rfl
    go_enter Try.func22, Try.ntmps22
    go_wp2_with fail
    rw [← HA.out]
    refine MY.out.mono ?_
    rintro e w1 ⟨rfl, B1⟩
    have W1 := Hid.intro B1
    obtain ⟨c0, c1, c2, c3, c4, c5⟩ := KK.out _ B1
    clear MY B1
    go_wp2_with fail
    refine (TH.out _ W1.out).mono ?_
    rintro e w2 ⟨rfl, B2⟩
    have W2 := Hid.intro (W1.out.trans (B2.mono W1.out.size))
    clear TH B2 c0 c1 c2 c3 c4 c5
    go_wp2
    go_ret2
    exact bda_none rfl (BX.out _ W2.out)
  | false =>
  by_cases h8 : 8 ≤ L
  · obtain ⟨rfl, rfl⟩ := AW2.out.2.2.1 rfl rfl h8
    have h8' : (8 : Int) ≤ (L : Int) := by omega
    go_enter Try.func22, Try.ntmps22
    go_wp2_with fail
    rw [← HA.out]
    refine MY.out.mono ?_
    rintro e w1 ⟨rfl, B1⟩
    have W1 := Hid.intro B1
    obtain ⟨c0, c1, c2, c3, c4, c5⟩ := KK.out _ B1
    clear MY B1
    go_wp2_with fail
    refine (TH.out _ W1.out).mono ?_
    rintro e w2 ⟨rfl, B2⟩
    have W2 := Hid.intro (W1.out.trans (B2.mono W1.out.size))
    clear TH B2 c0 c1 c2 c3 c4 c5
    go_wp2
    go_ret2
    exact bda_none rfl (BX.out _ W2.out)
  have h8' : ¬ (8 : Int) ≤ (L : Int) := by omega
  cases dd with
  | false =>
    obtain ⟨rfl, rfl⟩ := AW2.out.2.2.2.1 rfl rfl h8 rfl
    clear AW2
    go_enter Try.func22, Try.ntmps22
    go_wp2_with fail
    rw [← HA.out]
    refine MY.out.mono ?_
    rintro e w1 ⟨rfl, B1⟩
    have W1 := Hid.intro B1
    obtain ⟨c0, c1, c2, c3, c4, c5⟩ := KK.out _ B1
    clear MY B1
    go_wp2_with fail
    refine (TH.out _ W1.out).mono ?_
    rintro e w2 ⟨rfl, B2⟩
    have W2 := Hid.intro (W1.out.trans (B2.mono W1.out.size))
    clear TH B2 c0 c1 c2 c3 c4 c5
    obtain ⟨c0, c1, c2, c3, c4, c5⟩ := KK.out _ W2.out
    have SU2 := Hid.intro (SU.out w2.drew ⟨W2.out.os, W2.out.tape, W2.out.output, W2.out.size, W2.out.block⟩)
    clear SU
    go_wp2_with fail
    go_region_held3 (fun W => W.cell? ⟨w.heap.size, 0, none⟩ = some (.int .i64 b0) ∧ W.cell? ⟨w.heap.size, 1, none⟩ = some (.int .i64 b1) ∧ W.cell? ⟨w.heap.size, 2, none⟩ = some (.int .i64 b2) ∧ W.cell? ⟨w.heap.size, 3, none⟩ = some (.int .i64 b3) ∧ W.cell? ⟨w.heap.size, 4, none⟩ = some (.int .i64 b4) ∧ W.cell? ⟨w.heap.size, 5, none⟩ = some (.int .i64 b5))
      (first | exact KK.out _ W5.out | exact KK.out _ W4.out | exact KK.out _ W3.out | go_keep)
      (first
        | (go_at_call 15; refine SU2.out.mono ?_; rintro e w3 ⟨rfl, B3⟩; have W3 := Hid.intro (W2.out.trans ((undrewL B3).mono W2.out.size)); clear B3)
        | (go_at_call 13; refine (OF.out _).mono ?_; rintro e w4 ⟨rfl, B4⟩; have W4 := Hid.intro (W3.out.trans (B4.mono W3.out.size)); clear B4)
        | (go_at_call 31; refine (TK.out _).mono ?_; rintro e w5 ⟨rfl, rfl⟩)
        | fail)
    all_goals
      clear c0 c1 c2 c3 c4 c5
      go_wp2
      go_ret2
      exact bda_none rfl (BX.out _ W4.out)
  | true =>
    obtain ⟨rfl, hT⟩ := AW2.out.2.2.2.2 rfl rfl h8 rfl
    have HT := Hid.intro hT
    clear AW2 hT
    go_enter Try.func22, Try.ntmps22
    go_wp2_with fail
    rw [← HA.out]
    refine MY.out.mono ?_
    rintro e w1 ⟨rfl, B1⟩
    have W1 := Hid.intro B1
    obtain ⟨c0, c1, c2, c3, c4, c5⟩ := KK.out _ B1
    clear MY B1
    go_wp2_with fail
    refine (TH.out _ W1.out).mono ?_
    rintro e w2 ⟨rfl, B2⟩
    have W2 := Hid.intro (W1.out.trans (B2.mono W1.out.size))
    clear TH B2 c0 c1 c2 c3 c4 c5
    obtain ⟨c0, c1, c2, c3, c4, c5⟩ := KK.out _ W2.out
    have SU2 := Hid.intro (SU.out w2.drew ⟨W2.out.os, W2.out.tape, W2.out.output, W2.out.size, W2.out.block⟩)
    clear SU
    go_wp2_with fail
    go_region_held3 (fun W => W.cell? ⟨w.heap.size, 0, none⟩ = some (.int .i64 b0) ∧ W.cell? ⟨w.heap.size, 1, none⟩ = some (.int .i64 b1) ∧ W.cell? ⟨w.heap.size, 2, none⟩ = some (.int .i64 b2) ∧ W.cell? ⟨w.heap.size, 3, none⟩ = some (.int .i64 b3) ∧ W.cell? ⟨w.heap.size, 4, none⟩ = some (.int .i64 b4) ∧ W.cell? ⟨w.heap.size, 5, none⟩ = some (.int .i64 b5))
      (first | exact KK.out _ W5.out | exact KK.out _ W4.out | exact KK.out _ W3.out | go_keep)
      (first
        | (go_at_call 15; refine SU2.out.mono ?_; rintro e w3 ⟨rfl, B3⟩; have W3 := Hid.intro (W2.out.trans ((undrewL B3).mono W2.out.size)); clear B3)
        | (go_at_call 13; refine (OF.out _).mono ?_; rintro e w4 ⟨rfl, B4⟩; have W4 := Hid.intro (W3.out.trans (B4.mono W3.out.size)); clear B4)
        | (go_at_call 31; refine (TK.out _).mono ?_; rintro e w5 ⟨rfl, rfl⟩)
        | fail)
    all_goals
      clear c0 c1 c2 c3 c4 c5
      obtain ⟨c0, c1, c2, c3, c4, c5⟩ := KK.out _ W4.out
      have M1 := (Below.refl _ w4).alloc (Nat.le_refl _) (.cells #[.int .i64 b0, .int .i64 b1, .int .i64 b2, .int .i64 b3, .int .i64 b4, .int .i64 b5] 27)
      have x1 := heap_alloc_new w4 (.cells #[.int .i64 b0, .int .i64 b1, .int .i64 b2, .int .i64 b3, .int .i64 b4, .int .i64 b5] 27)
      obtain ⟨D, hD⟩ : ∃ D, D = w4.alloc (.cells #[.int .i64 b0, .int .i64 b1, .int .i64 b2, .int .i64 b3, .int .i64 b4, .int .i64 b5] 27) := ⟨_, rfl⟩
      have sD : D.heap.size = w4.heap.size + 1 := by rw [hD]; unfold World.alloc; exact Array.size_push _
      rw [← hD] at M1 x1
      have M2 := (Below.refl _ D).alloc (Nat.le_refl _) (.cells #[.slice ao L c, .slice (some ⟨w4.heap.size, 0, none⟩) 1 1] 22)
      have x2 := (M2.block _ (lt_of_heap x1)).trans x1
      have x3 := heap_alloc_new D (.cells #[.slice ao L c, .slice (some ⟨w4.heap.size, 0, none⟩) 1 1] 22)
      have CX := CC.out _ (w4.heap.size + 1) w4.heap.size (W4.out.trans ((M1.trans (M2.mono M1.size)).mono W4.out.size)) (by rw [← sD, cell_of_row _ _ 0 _ _ _ x3]; rfl) (by rw [← sD, cell_of_row _ _ 1 _ _ _ x3]; rfl) x2
      have MB := Hid.intro (W4.out.trans ((M1.trans (M2.mono M1.size)).mono W4.out.size))
      rw [hD] at CX MB
      have CXH := Hid.intro CX
      clear M1 x1 sD M2 x2 x3 hD CX CC
      go_wp2_with fail
      refine CXH.out.mono ?_
      rintro e w6 ⟨a, d, rfl, F1, F2, F3⟩
      have FF := Hid.intro (bda_cat (w := w) F1 F2 (Nat.le_trans BH.out.size MB.out.size) (BX.out _ (MB.out.trans (F3.mono MB.out.size))) rfl)
      clear CXH F1 F2 F3
      generalize (l ++ [⟨b0, b1, b2, b3, b4, b5⟩]) = LL at *
      generalize hln : LL.length = LN at *
      go_wp2
      go_ret2
      rw [HT.out]
      exact FF.out

theorem erase_cat (l : List Bdd) (p : Nat) : l.eraseIdx p = l.take p ++ l.drop (p + 1) := List.eraseIdx_eq_take_drop_succ l p

set_option maxRecDepth 100000 in
set_option maxHeartbeats 4000000 in
theorem ldisch_in (R : Nat → Prop) (ao : Option Addr) (c : Nat) (l : List Bdd) (hl : l.length ≤ 100) (hr : l.length ≤ c ∧ (ao = none → c = 0)) (x : Int) (w : World) (h : BdsAt R w (.slice ao l.length c) l) :
    Calls Try.prog 24 #[.slice ao l.length c, .int .i64 x] w (BdA w (dischL l x) (dischE l x)) := by
  have FI := lfind_any R _ l hl x w h
  have PC := placeB_cases (·.bid) l x
  have DN := Hid.intro (dischE_no (l := l) (x := x))
  have DY := Hid.intro (fun (i : Nat) => dischE_yes (l := l) (x := x) (i := i))
  have HB := Hid.intro h
  obtain ⟨L, hL⟩ : ∃ L, L = l.length := ⟨_, rfl⟩
  have HL := Hid.intro hL
  obtain ⟨pe, hpe⟩ : ∃ pe, pe = dischE l x := ⟨_, rfl⟩
  obtain ⟨T, hT⟩ : ∃ T, T = dischL l x := ⟨_, rfl⟩
  rw [← hpe, ← hT] at DN DY ⊢
  rw [← hL] at hl hr FI HB ⊢
  clear hL hpe hT
  rcases PC with ⟨e, _⟩ | ⟨p, hp, e, _⟩
  · obtain ⟨e1, e2⟩ := DN.out e
    subst e1 e2
    rw [e] at FI
    have FIH := Hid.intro FI
    clear FI DN DY e h
    go_enter Try.func24, Try.ntmps24
    go_wp2_with fail
    refine FIH.out.mono ?_
    rintro e w1 ⟨rfl, B1⟩
    clear FIH
    go_wp2
    go_ret2
    exact bda_none rfl B1
  · obtain ⟨e1, e2⟩ := DY.out p e
    subst e1
    rw [e] at FI
    have FIH := Hid.intro FI
    rw [erase_cat] at e2
    have HT := Hid.intro e2
    have hpL : p < L := by rw [HL.out]; exact hp
    obtain ⟨pb, off, rfl⟩ : ∃ pb off, ao = some ⟨pb, off, none⟩ := by
      obtain ⟨ao', c', e0, hs⟩ := h
      simp only [Value.slice.injEq] at e0
      obtain ⟨rfl, _, _⟩ := e0
      obtain ⟨pb, off, q, _⟩ := hs (by omega)
      exact ⟨pb, off, q⟩
    clear FI DN DY e e2 h
    have p0 : ¬ (p : Int) < 0 := by omega
    have p1 : (0 : Int) ≤ (p : Int) := by omega
    have p2 : (p : Int) ≤ (c : Int) := by omega
    have p3 : (0 : Int) ≤ (p : Int) + 1 := by omega
    have p4 : (p : Int) + 1 ≤ (L : Int) := by omega
    have p5 : (L : Int) ≤ (c : Int) := by omega
    have p6 : IntKind.i64.wrap ((p : Int) + 1) = (p : Int) + 1 := by rw [IntKind.wrap_i64]; omega
    have LT : (l.take p).length = p := by rw [List.length_take]; omega
    have LD : (l.drop (p + 1)).length = L - (p + 1) := by rw [List.length_drop, HL.out]
    have CC := Hid.intro (fun (W : World) (g : Nat) (a2 : Option Addr) (m c2 : Nat) (hm : m = L - (p + 1)) (hW : Below w.heap.size w W) (ha : a2 = none → c2 = 0) (k1 : W.cell? ⟨g, 0, none⟩ = some (.slice (some ⟨pb, off, none⟩) p c)) (k2 : W.cell? ⟨g, 1, none⟩ = some (.slice a2 m c2)) (k3 : BdsAt R W (.slice a2 m c2) (l.drop (p + 1))) => lconcat_any R R (some ⟨pb, off, none⟩) a2 c c2 (l.take p) (l.drop (p + 1)) (by omega) (by omega) (fun q => by cases q) ha g W (by rw [LT]; exact k1) (by rw [LD, ← hm]; exact k2) (by rw [LT]; exact (HB.out.below hW).take (by omega)) (by rw [LD, ← hm]; exact k3))
    have DR := Hid.intro (fun (W : World) (hW : Below w.heap.size w W) (c2 : Nat) => (HB.out.below hW).drop (k := p + 1) (m := L - (p + 1)) (c' := c2) (by have := HL.out; omega))
    clear LT LD
    obtain ⟨LL, hLL⟩ : ∃ LL, LL = l.take p ++ l.drop (p + 1) := ⟨_, rfl⟩
    rw [← hLL] at CC HT
    clear hLL
    by_cases q : c = p + 1
    · subst q
      obtain rfl : L = p + 1 := by omega
      have p7 : (p : Int) ≤ (p : Int) + 1 := by omega
      have p8 : ((p + 1 : Nat) : Int) = (p : Int) + 1 := by omega
      go_enter Try.func24, Try.ntmps24
      go_wp2_with fail
      refine FIH.out.mono ?_
      rintro e w1 ⟨rfl, B1⟩
      have B1H := Hid.intro B1
      clear FIH B1
      have M1 := (Below.refl _ w1).alloc (Nat.le_refl _) (.cells #[.slice (some ⟨pb, off, none⟩) p (p + 1), .slice (some ⟨pb, off, none⟩) 0 0] 22)
      have x1 := heap_alloc_new w1 (.cells #[.slice (some ⟨pb, off, none⟩) p (p + 1), .slice (some ⟨pb, off, none⟩) 0 0] 22)
      have MB := Hid.intro (B1H.out.trans (M1.mono B1H.out.size))
      have MD : Hid (Below w.heap.size w (w1.alloc (.cells #[.slice (some ⟨pb, off, none⟩) p (p + 1), .slice (some ⟨pb, off, none⟩) 0 0] 22)).drew) := ⟨MB.out.os, MB.out.tape, MB.out.output, MB.out.size, MB.out.block⟩
      have CX := Hid.intro (CC.out _ w1.heap.size (some ⟨pb, off, none⟩) 0 0 (by omega) MD.out (fun q => by cases q) (by rw [show ∀ (W : World) (a : Addr), W.drew.cell? a = W.cell? a from fun _ _ => rfl, cell_of_row _ _ 0 _ _ _ x1]; rfl) (by rw [show ∀ (W : World) (a : Addr), W.drew.cell? a = W.cell? a from fun _ _ => rfl, cell_of_row _ _ 1 _ _ _ x1]; rfl) (by rw [show l.drop (p + 1) = [] by rw [List.drop_eq_nil_iff]; have := HL.out; omega]; exact bds_nil _ _ _ _))
      clear M1 x1 CC DR
      go_wp2_with fail
      go_region_held3 (fun _ => True)
        (trivial)
        (first
          | (go_at_call 36; refine CX.out.mono ?_; rintro e w6 ⟨a, d, rfl, F1, F2, F3⟩; have FF := Hid.intro (bda_cat (w := w) F1 F2 MD.out.size (MD.out.trans (F3.mono MD.out.size)) rfl); clear F1 F2 F3)
          | fail)
      all_goals
        clear CX
        go_wp2
        go_ret2
        rw [HT.out]
        exact FF.out
    · go_enter Try.func24, Try.ntmps24
      go_wp2_with fail
      refine FIH.out.mono ?_
      rintro e w1 ⟨rfl, B1⟩
      have B1H := Hid.intro B1
      clear FIH B1
      have M1 := (Below.refl _ w1).alloc (Nat.le_refl _) (.cells #[.slice (some ⟨pb, off, none⟩) p c, .slice (some ⟨pb, off + (p + 1) * 6, none⟩) (L - (p + 1)) (c - (p + 1))] 22)
      have x1 := heap_alloc_new w1 (.cells #[.slice (some ⟨pb, off, none⟩) p c, .slice (some ⟨pb, off + (p + 1) * 6, none⟩) (L - (p + 1)) (c - (p + 1))] 22)
      have MB := Hid.intro (B1H.out.trans (M1.mono B1H.out.size))
      have MD : Hid (Below w.heap.size w (w1.alloc (.cells #[.slice (some ⟨pb, off, none⟩) p c, .slice (some ⟨pb, off + (p + 1) * 6, none⟩) (L - (p + 1)) (c - (p + 1))] 22)).drew) := ⟨MB.out.os, MB.out.tape, MB.out.output, MB.out.size, MB.out.block⟩
      have CX := Hid.intro (CC.out _ w1.heap.size (some ⟨pb, off + (p + 1) * 6, none⟩) (L - (p + 1)) (c - (p + 1)) (by omega) MD.out (fun q => by cases q) (by rw [show ∀ (W : World) (a : Addr), W.drew.cell? a = W.cell? a from fun _ _ => rfl, cell_of_row _ _ 0 _ _ _ x1]; rfl) (by rw [show ∀ (W : World) (a : Addr), W.drew.cell? a = W.cell? a from fun _ _ => rfl, cell_of_row _ _ 1 _ _ _ x1]; rfl) (DR.out _ MD.out _))
      clear M1 x1 CC DR
      go_wp2_with fail
      go_region_held3 (fun _ => True)
        (trivial)
        (first
          | (go_at_call 36; refine CX.out.mono ?_; rintro e w6 ⟨a, d, rfl, F1, F2, F3⟩; have FF := Hid.intro (bda_cat (w := w) F1 F2 MD.out.size (MD.out.trans (F3.mono MD.out.size)) rfl); clear F1 F2 F3)
          | fail)
      all_goals
        clear CX
        go_wp2
        go_ret2
        rw [HT.out]
        exact FF.out

end Go.Proofs.Ythofgajchejdfaa
