/- The document's own answer of layer 11: Admit. -/
import Derived.Test.YthofgajchejdfaaLdRefD
import Derived.Test.YthofgajchejdfaaLdRefT
import Derived.Test.YthofgajchejdfaaLdApp2
namespace Go.Proofs.Ythofgajchejdfaa
open Go.RowKit
open Bt

theorem admit_1 {l : List Bdd} {b : Bdd} {cap : Int} (h : mayB b = false) : admitE l b cap = 1 ∧ admitL l b cap = [] := by
  have e : admitE l b cap = 1 := by unfold admitE; rw [if_neg (by rw [h]; simp)]
  exact ⟨e, by unfold admitL; rw [e]; rfl⟩

theorem admit_9 {l : List Bdd} {b : Bdd} {cap : Int} (h : mayB b = true) (h2 : 0 ≤ placeB (·.bid) l b.bid ∨ 0 ≤ placeB (·.tx) l b.tx) : admitE l b cap = 9 ∧ admitL l b cap = [] := by
  have e : admitE l b cap = 9 := by unfold admitE; rw [if_pos h, if_pos h2]
  exact ⟨e, by unfold admitL; rw [e]; rfl⟩

theorem admit_7 {l : List Bdd} {b : Bdd} {cap : Int} (h : mayB b = true) (h2 : ¬ (0 ≤ placeB (·.bid) l b.bid ∨ 0 ≤ placeB (·.tx) l b.tx)) (h3 : 8 ≤ l.length) : admitE l b cap = 7 ∧ admitL l b cap = [] := by
  have e : admitE l b cap = 7 := by unfold admitE; rw [if_pos h, if_neg h2, if_pos h3]
  exact ⟨e, by unfold admitL; rw [e]; rfl⟩

theorem admit_10 {l : List Bdd} {b : Bdd} {cap : Int} (h : mayB b = true) (h2 : ¬ (0 ≤ placeB (·.bid) l b.bid ∨ 0 ≤ placeB (·.tx) l b.tx)) (h3 : ¬ 8 ≤ l.length) (h4 : cap * 60 < sumB (l ++ [b])) : admitE l b cap = 10 ∧ admitL l b cap = [] := by
  rw [sumB_append, sumB_one] at h4
  have e : admitE l b cap = 10 := by unfold admitE; rw [if_pos h, if_neg h2, if_neg h3, if_pos h4]
  exact ⟨e, by unfold admitL; rw [e]; rfl⟩

theorem admit_0 {l : List Bdd} {b : Bdd} {cap : Int} (h : mayB b = true) (h2 : ¬ (0 ≤ placeB (·.bid) l b.bid ∨ 0 ≤ placeB (·.tx) l b.tx)) (h3 : ¬ 8 ≤ l.length) (h4 : ¬ cap * 60 < sumB (l ++ [b])) : admitE l b cap = 0 ∧ admitL l b cap = l ++ [b] := by
  rw [sumB_append, sumB_one] at h4
  have e : admitE l b cap = 0 := by unfold admitE; rw [if_pos h, if_neg h2, if_neg h3, if_neg h4]
  exact ⟨e, by unfold admitL; rw [if_pos e]⟩

set_option maxRecDepth 100000 in
set_option maxHeartbeats 4000000 in
theorem refAdmit_in (R : Nat → Prop) (ao : Option Addr) (c : Nat) (l : List Bdd) (hl : l.length ≤ 90) (hr0 : ao = none → c = 0) (b0 b1 b2 b3 b4 b5 : Int) (cap : Int) (hc : 0 ≤ cap ∧ cap ≤ 10000) (w : World) (h : BdsAt R w (.slice ao l.length c) l) :
    Calls Try.prog 23 #[.slice ao l.length c, .agg #[.int .i64 b0, .int .i64 b1, .int .i64 b2, .int .i64 b3, .int .i64 b4, .int .i64 b5], .int .i64 cap] w (BdA w (admitL l ⟨b0, b1, b2, b3, b4, b5⟩ cap) (admitE l ⟨b0, b1, b2, b3, b4, b5⟩ cap)) := by
  obtain ⟨A, hA⟩ : ∃ A, A = w.alloc (.cells #[.int .i64 b0, .int .i64 b1, .int .i64 b2, .int .i64 b3, .int .i64 b4, .int .i64 b5] 27) := ⟨_, rfl⟩
  have BA : Below w.heap.size w A := by rw [hA]; exact (Below.refl _ w).alloc (Nat.le_refl _) _
  have nA : A.heap[w.heap.size]? = some (.cells #[.int .i64 b0, .int .i64 b1, .int .i64 b2, .int .i64 b3, .int .i64 b4, .int .i64 b5] 27 (0, 0)) := by rw [hA]; exact heap_alloc_new w _
  have h' := h.below BA
  have HS := Hid.intro h'
  have HCC : Hid (∀ W, Below A.heap.size A W → W.cell? ⟨w.heap.size, 0, none⟩ = some (.int .i64 b0) ∧ W.cell? ⟨w.heap.size, 1, none⟩ = some (.int .i64 b1) ∧ W.cell? ⟨w.heap.size, 2, none⟩ = some (.int .i64 b2) ∧ W.cell? ⟨w.heap.size, 3, none⟩ = some (.int .i64 b3) ∧ W.cell? ⟨w.heap.size, 4, none⟩ = some (.int .i64 b4) ∧ W.cell? ⟨w.heap.size, 5, none⟩ = some (.int .i64 b5)) := fun W hB => by
    have q := (hB.block _ (lt_of_heap nA)).trans nA
    exact ⟨by rw [cell_of_row _ _ 0 _ _ _ q]; rfl, by rw [cell_of_row _ _ 1 _ _ _ q]; rfl, by rw [cell_of_row _ _ 2 _ _ _ q]; rfl, by rw [cell_of_row _ _ 3 _ _ _ q]; rfl, by rw [cell_of_row _ _ 4 _ _ _ q]; rfl, by rw [cell_of_row _ _ 5 _ _ _ q]; rfl⟩
  have MY := refMay11_in b0 b1 b2 b3 b4 b5 A
  have FI := Hid.intro (fun (W : World) (hB : Below A.heap.size A W) => refFind_any R _ l (by omega) b0 W (h'.below hB))
  have OW := Hid.intro (fun (W : World) (hB : Below A.heap.size A W) => refOwner_any R _ l (by omega) b1 W (h'.below hB))
  have BAH := Hid.intro BA
  have HA := Hid.intro hA
  rw [hA] at MY
  have A1 := Hid.intro (admit_1 (l := l) (b := ⟨b0, b1, b2, b3, b4, b5⟩) (cap := cap))
  have A9 := Hid.intro (admit_9 (l := l) (b := ⟨b0, b1, b2, b3, b4, b5⟩) (cap := cap))
  have A7 := Hid.intro (admit_7 (l := l) (b := ⟨b0, b1, b2, b3, b4, b5⟩) (cap := cap))
  have A10 := Hid.intro (admit_10 (l := l) (b := ⟨b0, b1, b2, b3, b4, b5⟩) (cap := cap))
  have A0 := Hid.intro (admit_0 (l := l) (b := ⟨b0, b1, b2, b3, b4, b5⟩) (cap := cap))
  have SBD := sumB_bounds (l ++ [⟨b0, b1, b2, b3, b4, b5⟩])
  have SUM := Hid.intro (fun (W : World) (v : Value) (hB : BdsAt (fun _ => True) W v (l ++ [⟨b0, b1, b2, b3, b4, b5⟩])) => refSum_any (fun _ => True) v (l ++ [⟨b0, b1, b2, b3, b4, b5⟩]) (by simp; omega) W hB)
  obtain ⟨pe, hpe⟩ : ∃ pe, pe = admitE l ⟨b0, b1, b2, b3, b4, b5⟩ cap := ⟨_, rfl⟩
  obtain ⟨T, hT⟩ : ∃ T, T = admitL l ⟨b0, b1, b2, b3, b4, b5⟩ cap := ⟨_, rfl⟩
  obtain ⟨F, hF⟩ : ∃ F, F = placeB (·.bid) l b0 := ⟨_, rfl⟩
  obtain ⟨O, hO⟩ : ∃ O, O = placeB (·.tx) l b1 := ⟨_, rfl⟩
  obtain ⟨S, hS⟩ : ∃ S, S = sumB (l ++ [⟨b0, b1, b2, b3, b4, b5⟩]) := ⟨_, rfl⟩
  obtain ⟨L, hL⟩ : ∃ L, L = l.length := ⟨_, rfl⟩
  have HL := Hid.intro hL
  have pf := placeB_lt (·.bid) l b0
  have po := placeB_lt (·.tx) l b1
  simp only at A9 A7 A10 A0
  rw [← hpe, ← hT] at A1 A9 A7 A10 A0 ⊢
  rw [← hF] at A9 A7 A10 A0 pf
  rw [← hF] at FI
  rw [← hO] at A9 A7 A10 A0 po
  rw [← hO] at OW
  rw [← hS] at A10 A0 SUM SBD
  rw [List.length_append, ← hL] at SBD
  rw [← hL] at hl FI OW A7 A10 A0 pf po ⊢
  clear hpe hT hF hO hS hL h h' hA BA nA
  have hcw : IntKind.i64.wrap (60 * cap) = 60 * cap := IntWalk.i64_in _ (by omega)
  cases hmy : mayB ⟨b0, b1, b2, b3, b4, b5⟩ with
  | false =>
    obtain ⟨e1, e2⟩ := A1.out hmy
    subst e1 e2
    rw [hmy] at MY
    have MYH := Hid.intro MY
    clear MY hmy A1 A9 A7 A10 A0 SUM FI OW
    go_enter Try.func23, Try.ntmps23
    go_wp2_with fail
    refine MYH.out.mono ?_
    rintro e w1 ⟨rfl, B1⟩
    rw [← HA.out] at B1
    have BW := BAH.out.trans (B1.mono BAH.out.size)
    clear MYH B1
    go_wp2
    go_ret2
    exact bda_none rfl BW
  | true =>
  rw [hmy] at MY
  have MYH := Hid.intro MY
  have A9' := Hid.intro (A9.out hmy)
  have A7' := Hid.intro (A7.out hmy)
  have A10' := Hid.intro (A10.out hmy)
  have A0' := Hid.intro (A0.out hmy)
  clear MY hmy A1 A9 A7 A10 A0
  by_cases hF : 0 ≤ F
  · obtain ⟨e1, e2⟩ := A9'.out (.inl hF)
    subst e1 e2
    clear A9' A7' A10' A0' SUM OW
    go_enter Try.func23, Try.ntmps23
    go_wp2_with fail
    refine MYH.out.mono ?_
    rintro e w1 ⟨rfl, B1⟩
    rw [← HA.out] at B1
    have B1H := Hid.intro B1
    obtain ⟨c0, c1, c2, c3, c4, c5⟩ := HCC.out w1 B1
    clear MYH B1
    go_wp2_with fail
    refine (FI.out _ B1H.out).mono ?_
    rintro e w2 ⟨rfl, B2⟩
    have B2w := B1H.out.trans (B2.mono B1H.out.size)
    have BW := BAH.out.trans (B2w.mono BAH.out.size)
    clear FI B2 B2w c0 c1 c2 c3 c4 c5
    go_wp2
    go_ret2
    exact bda_none rfl BW
  by_cases hO : 0 ≤ O
  · obtain ⟨e1, e2⟩ := A9'.out (.inr hO)
    subst e1 e2
    clear A9' A7' A10' A0' SUM
    go_enter Try.func23, Try.ntmps23
    go_wp2_with fail
    refine MYH.out.mono ?_
    rintro e w1 ⟨rfl, B1⟩
    rw [← HA.out] at B1
    have B1H := Hid.intro B1
    obtain ⟨c0, c1, c2, c3, c4, c5⟩ := HCC.out w1 B1
    clear MYH B1
    go_wp2_with fail
    refine (FI.out _ B1H.out).mono ?_
    rintro e w2 ⟨rfl, B2⟩
    have B2H := Hid.intro (B1H.out.trans (B2.mono B1H.out.size))
    clear FI B2 c0 c1 c2 c3 c4 c5
    obtain ⟨c0, c1, c2, c3, c4, c5⟩ := HCC.out w2 B2H.out
    go_wp2_with fail
    refine (OW.out _ B2H.out).mono ?_
    rintro e w3 ⟨rfl, B3⟩
    have B3w := B2H.out.trans (B3.mono B2H.out.size)
    have BW := BAH.out.trans (B3w.mono BAH.out.size)
    clear OW B3 B3w c0 c1 c2 c3 c4 c5
    go_wp2
    go_ret2
    exact bda_none rfl BW
  have hn9 : ¬ (0 ≤ F ∨ 0 ≤ O) := by omega
  have A7'' := Hid.intro (A7'.out hn9)
  have A10'' := Hid.intro (A10'.out hn9)
  have A0'' := Hid.intro (A0'.out hn9)
  clear A9' A7' A10' A0' hn9
  go_enter Try.func23, Try.ntmps23
  go_wp2_with fail
  refine MYH.out.mono ?_
  rintro e w1 ⟨rfl, B1⟩
  rw [← HA.out] at B1
  have B1H := Hid.intro B1
  obtain ⟨c0, c1, c2, c3, c4, c5⟩ := HCC.out w1 B1
  clear MYH B1
  go_wp2_with fail
  refine (FI.out _ B1H.out).mono ?_
  rintro e w2 ⟨rfl, B2⟩
  have B2H := Hid.intro (B1H.out.trans (B2.mono B1H.out.size))
  clear FI B2 c0 c1 c2 c3 c4 c5
  obtain ⟨c0, c1, c2, c3, c4, c5⟩ := HCC.out w2 B2H.out
  go_wp2_with fail
  refine (OW.out _ B2H.out).mono ?_
  rintro e w3 ⟨rfl, B3⟩
  have B3H := Hid.intro (B2H.out.trans (B3.mono B2H.out.size))
  clear OW B3 c0 c1 c2 c3 c4 c5 B1H B2H
  by_cases h8 : 8 ≤ L
  · obtain ⟨e1, e2⟩ := A7''.out h8
    subst e1 e2
    have z8 : (8 : Int) ≤ (L : Int) := by omega
    have BW := BAH.out.trans (B3H.out.mono BAH.out.size)
    clear A7'' A10'' A0''
    go_wp2
    go_ret2
    exact bda_none rfl BW
  have z8 : ¬ (8 : Int) ≤ (L : Int) := by omega
  have A1x := Hid.intro (A10''.out h8)
  have A0x := Hid.intro (A0''.out h8)
  clear A7'' A10'' A0''
  have SRC : Hid (∀ W, Below w3.heap.size w3 W → BdsAt R W (.slice ao L c) l) := fun W hW => by
    have q := (HS.out.below B3H.out).below hW
    rw [← HL.out] at q
    exact q
  have KEEP : Hid (∀ W, Below w3.heap.size w3 W → W.cell? ⟨w.heap.size, 0, none⟩ = some (.int .i64 b0) ∧ W.cell? ⟨w.heap.size, 1, none⟩ = some (.int .i64 b1) ∧ W.cell? ⟨w.heap.size, 2, none⟩ = some (.int .i64 b2) ∧ W.cell? ⟨w.heap.size, 3, none⟩ = some (.int .i64 b3) ∧ W.cell? ⟨w.heap.size, 4, none⟩ = some (.int .i64 b4) ∧ W.cell? ⟨w.heap.size, 5, none⟩ = some (.int .i64 b5)) := fun W hW => HCC.out W (B3H.out.trans (hW.mono B3H.out.size))
  obtain ⟨c0, c1, c2, c3, c4, c5⟩ := KEEP.out w3 (Below.refl _ _)
  have BD := Hid.intro ((Below.refl w3.heap.size w3).drew)
  go_wp2_with fail
  go_region_held_law (fun W => W.cell? ⟨w.heap.size, 0, none⟩ = some (.int .i64 b0) ∧ W.cell? ⟨w.heap.size, 1, none⟩ = some (.int .i64 b1) ∧ W.cell? ⟨w.heap.size, 2, none⟩ = some (.int .i64 b2) ∧ W.cell? ⟨w.heap.size, 3, none⟩ = some (.int .i64 b3) ∧ W.cell? ⟨w.heap.size, 4, none⟩ = some (.int .i64 b4) ∧ W.cell? ⟨w.heap.size, 5, none⟩ = some (.int .i64 b5))
    (first | exact KEEP.out _ E9 | exact KEEP.out _ (bel_allocB E8 (Nat.le_refl _) _) | exact KEEP.out _ E8 | exact KEEP.out _ (by first | exact BD.out | exact bel_allocB BD.out (Nat.le_refl _) _ | exact bel_allocB (bel_allocB BD.out (Nat.le_refl _) _) (Nat.le_refl _) _) | go_keep)
    (first
      | (refine step_append_beds (by rfl) _ _ (by rfl) _ 0 [] rfl (by rfl) (own_emptyB (by first | exact alloc_atB (by simp) | exact alloc_farB (alloc_atB (by simp)))) R ao L c l HL.out (by rfl) (SRC.out _ (by first | exact BD.out | exact bel_allocB BD.out (Nat.le_refl _) _ | exact bel_allocB (bel_allocB BD.out (Nat.le_refl _) _) (Nat.le_refl _) _)) hr0 (by omega) ?_; intro va wa hown hgrow hat; have QF := appF (H := w3.heap.size) (w0 := w3) (by first | exact alloc_atB (by simp) | exact alloc_farB (alloc_atB (by simp))) (by first | (dsimp only; omega) | (simp; done)) (by first | exact BD.out | exact bel_allocB BD.out (Nat.le_refl _) _ | exact bel_allocB (bel_allocB BD.out (Nat.le_refl _) _) (Nat.le_refl _) _) (Nat.le_refl _) hown hgrow hat; have E8 := QF.below; clear hown hgrow hat)
      | (refine step_append_beds (by rfl) _ _ (by rfl) va L l HL.out (by rfl) (QF.own.alloc _) (fun _ => True) (some ⟨wa.heap.size, 0, none⟩) 1 1 [⟨b0, b1, b2, b3, b4, b5⟩] rfl (by rfl) (bds_block (l := [⟨b0, b1, b2, b3, b4, b5⟩]) (alloc_atB rfl) 1) (fun h => by cases h) (by omega) ?_; intro vb wb hown hgrow hat; have QG := appG QF (bel_allocB QF.below (Nat.le_refl _) _) (Nat.le_refl _) hown hgrow hat; have E9 := QG.below; clear hown hgrow hat)
      | (refine step_append_beds (by rfl) _ _ (by rfl) va L l HL.out (by rfl) QF.own (fun _ => True) (some ⟨w3.heap.size + 1, 0, none⟩) 1 1 [⟨b0, b1, b2, b3, b4, b5⟩] rfl (by rfl) (bds_block (l := [⟨b0, b1, b2, b3, b4, b5⟩]) (QF.keep _ _ (by first | exact alloc_atB (by simp) | exact alloc_farB (alloc_atB (by simp))) (by simp [bcells, bcell])) 1) (fun h => by cases h) (by omega) ?_; intro vb wb hown hgrow hat; have QG := appG QF QF.below (Nat.le_refl _) hown hgrow hat; have E9 := QG.below; clear hown hgrow hat)
      | (refine step_append_beds (by rfl) _ _ (by rfl) va L l HL.out (by rfl) QF.own (fun _ => True) (some ⟨w3.heap.size, 0, none⟩) 1 1 [⟨b0, b1, b2, b3, b4, b5⟩] rfl (by rfl) (bds_block (l := [⟨b0, b1, b2, b3, b4, b5⟩]) (QF.keep _ _ (by first | exact alloc_atB (by simp) | exact alloc_farB (alloc_atB (by simp))) (by simp [bcells, bcell])) 1) (fun h => by cases h) (by omega) ?_; intro vb wb hown hgrow hat; have QG := appG QF QF.below (Nat.le_refl _) hown hgrow hat; have E9 := QG.below; clear hown hgrow hat)
      | fail)
  all_goals
    obtain ⟨va', vc, hvb, _⟩ := ownsRow_form QG.own
    subst hvb
    have hlen : (l ++ [(⟨b0, b1, b2, b3, b4, b5⟩ : Bdd)]).length = L + 1 := by rw [List.length_append, HL.out]; rfl
    have hbd := bds_of_owns (R := fun k => w3.heap.size ≤ k) (l := l ++ [⟨b0, b1, b2, b3, b4, b5⟩]) (v := .slice va' (L + 1) vc) (by rw [hlen]; exact QG.own) (fun r hr => QG.ge r hr)
    have SU := SUM.out wb _ (hbd.mono (fun _ _ => trivial))
    have SUH := Hid.intro SU
    have HBD := Hid.intro hbd
    have RM := Hid.intro (ownsRow_roomL QG.own)
    have WB := Hid.intro (B3H.out.trans (QG.below.mono B3H.out.size))
    have LE := Hid.intro B3H.out.size
    have HLN := Hid.intro hlen
    clear QF QG E8 E9 KEEP SRC BD c0 c1 c2 c3 c4 c5 SU hbd SUM hlen B3H
    go_wp2_with fail
    refine SUH.out.mono ?_
    rintro e w5 ⟨rfl, B5⟩
    have W5 := Hid.intro (WB.out.trans (B5.mono WB.out.size))
    have HB5 := Hid.intro (HBD.out.below B5)
    clear SUH B5
    by_cases h4 : cap * 60 < S
    · obtain ⟨e1, e2⟩ := A1x.out h4
      subst e1 e2
      have z4 : 60 * cap < S := by omega
      have BW := Hid.intro (BAH.out.trans (W5.out.mono BAH.out.size))
      clear A1x A0x
      go_wp2
      go_ret2
      exact bda_none rfl BW.out
    · obtain ⟨e1, e2⟩ := A0x.out (by omega)
      subst e1 e2
      have z4 : ¬ 60 * cap < S := by omega
      have BW := Hid.intro (BAH.out.trans (W5.out.mono BAH.out.size))
      clear A1x A0x
      go_wp2
      go_ret2
      exact ⟨va', vc, by rw [HLN.out]; rfl, by rw [HLN.out]; exact HB5.out.mono (fun k hk => Nat.le_trans BAH.out.size (Nat.le_trans LE.out hk)), by rw [HLN.out]; exact RM.out, BW.out⟩

theorem refAdmit_any (R : Nat → Prop) (ao : Option Addr) (c : Nat) (l : List Bdd) (hl : l.length ≤ 90) (hr0 : ao = none → c = 0) (b : Bdd) (cap : Int) (hc : 0 ≤ cap ∧ cap ≤ 10000) (w : World) (h : BdsAt R w (.slice ao l.length c) l) :
    Calls Try.prog 23 #[.slice ao l.length c, Bv b, .int .i64 cap] w fun e w' => ∃ a d, e = .returned (.tuple #[.slice a (admitL l b cap).length d, .int .i64 (admitE l b cap)]) ∧ BdsAt (fun k => w.heap.size ≤ k) w' (.slice a (admitL l b cap).length d) (admitL l b cap) ∧ ((admitL l b cap).length ≤ d ∧ (a = none → d = 0)) ∧ Below w.heap.size w w' := refAdmit_in R ao c l hl hr0 b.bid b.tx b.period b.cost b.watch b.prio cap hc w h

end Go.Proofs.Ythofgajchejdfaa
