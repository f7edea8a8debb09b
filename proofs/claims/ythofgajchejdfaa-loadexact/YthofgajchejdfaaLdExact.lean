/- The statement LoadExact: a bed is admitted beside beds that fit just if all of them fit, and beds that fit less one fit. -/
import Derived.Test.YthofgajchejdfaaLdFew
import Derived.Test.YthofgajchejdfaaLdArg
import Derived.Test.YthofgajchejdfaaLdRefS
import Derived.Test.YthofgajchejdfaaLdApp2
namespace Go.Proofs.Ythofgajchejdfaa
open Go.ChangeShapes Go.WideShapes Go.ChangeAt Go.RowKit Go.Joins
open Bt

namespace LLoadExact

set_option maxRecDepth 100000 in
set_option maxHeartbeats 4000000 in
theorem walk_main (ao : Option Addr) (c : Nat) (l : List Bdd) (hlc : l.length ≤ c) (h0 : ao = none → c = 0) (b0 b1 b2 b3 b4 b5 : Int) (cap : Int) (BT : Nat) (hBT : BT < 256) (w : World) (h : BdsAt (fun _ => True) w (.slice ao l.length c) l) :
    Calls Try.prog 5 #[.slice ao l.length c, .agg #[.int .i64 b0, .int .i64 b1, .int .i64 b2, .int .i64 b3, .int .i64 b4, .int .i64 b5], .int .i64 cap, .int .u8 (BT : Int)] w fun e w' => e = .returned (.bool true) ∧ Below w.heap.size w w' := by
  have BA := (Below.refl _ w).alloc (Nat.le_refl _) (.cells #[.int .i64 b0, .int .i64 b1, .int .i64 b2, .int .i64 b3, .int .i64 b4, .int .i64 b5] 27)
  have nA := heap_alloc_new w (.cells #[.int .i64 b0, .int .i64 b1, .int .i64 b2, .int .i64 b3, .int .i64 b4, .int .i64 b5] 27)
  have AL := Hid.intro (alive11_any (w.alloc (.cells #[.int .i64 b0, .int .i64 b1, .int .i64 b2, .int .i64 b3, .int .i64 b4, .int .i64 b5] 27)))
  have BAH := Hid.intro BA
  have NAH := Hid.intro nA
  have HS := Hid.intro h
  obtain ⟨L, hL⟩ : ∃ L, L = l.length := ⟨_, rfl⟩
  have HL := Hid.intro hL
  rw [← hL] at hlc ⊢
  have FW := Hid.intro (fun W => few11_any ao L c cap W)
  clear BA nA h hL
  go_enter Try.func5, Try.ntmps5
  go_wp2_with fail
  refine AL.out.mono ?_
  rintro e w1 ⟨rfl, B1⟩
  have N1 := Hid.intro ((B1.block _ (lt_of_heap NAH.out)).trans NAH.out)
  have B1H := Hid.intro (BAH.out.trans (B1.mono BAH.out.size))
  clear AL B1 NAH BAH
  cases hfw : fewB L cap with
  | false =>
    rw [hfw] at FW
    clear hfw
    go_wp2_with fail
    refine (FW.out _).mono ?_
    rintro e w2 ⟨rfl, rfl⟩
    clear FW
    go_wp2
    go_ret
    exact ⟨rfl, B1H.out⟩
  | true =>
  rw [hfw] at FW
  obtain ⟨hl20, hc0, hc1⟩ := fewB_true hfw
  have LS : Hid (∀ W, Below w1.heap.size w1 W → BdsAt (fun _ => True) W (.slice ao L c) l) := fun W hW => by
    have q := (HS.out.below B1H.out).below hW
    rw [← HL.out] at q
    exact q
  have hl100 : l.length ≤ 100 := by rw [← HL.out]; omega
  have FT := lfits_any _ _ l hl100 cap ⟨hc0, hc1⟩ w1 (LS.out w1 (Below.refl _ _)) (roomV hlc)
  clear hfw
  go_wp2_with fail
  refine (FW.out _).mono ?_
  rintro e w2 ⟨rfl, rfl⟩
  clear FW
  cases hft : fitsB l cap with
  | false =>
    rw [hft] at FT
    have FTH := Hid.intro FT
    clear hft FT
    go_wp2_with fail
    refine FTH.out.mono ?_
    rintro e w2 ⟨rfl, B2⟩
    have W2 := Hid.intro (B1H.out.trans (B2.mono B1H.out.size))
    clear FTH B2
    go_wp2
    go_ret
    exact ⟨rfl, W2.out⟩
  | true =>
  rw [hft] at FT
  have FTH := Hid.intro FT
  have HFT := Hid.intro hft
  have HB : Hid (∀ (W : World), Below w1.heap.size w1 W → W.cell? ⟨w.heap.size, 0, none⟩ = some (.int .i64 b0) ∧ W.cell? ⟨w.heap.size, 1, none⟩ = some (.int .i64 b1) ∧ W.cell? ⟨w.heap.size, 2, none⟩ = some (.int .i64 b2) ∧ W.cell? ⟨w.heap.size, 3, none⟩ = some (.int .i64 b3) ∧ W.cell? ⟨w.heap.size, 4, none⟩ = some (.int .i64 b4) ∧ W.cell? ⟨w.heap.size, 5, none⟩ = some (.int .i64 b5)) := fun W hB => by
    have q := (hB.block _ (lt_of_heap N1.out)).trans N1.out
    exact ⟨by rw [cell_of_row _ _ 0 _ _ _ q]; rfl, by rw [cell_of_row _ _ 1 _ _ _ q]; rfl, by rw [cell_of_row _ _ 2 _ _ _ q]; rfl, by rw [cell_of_row _ _ 3 _ _ _ q]; rfl, by rw [cell_of_row _ _ 4 _ _ _ q]; rfl, by rw [cell_of_row _ _ 5 _ _ _ q]; rfl⟩
  clear FT hft
  go_wp2_with fail
  refine FTH.out.mono ?_
  rintro e w2 ⟨rfl, B2⟩
  have E2 := Hid.intro B2
  have AD := ladmit_any _ ao c l hl100 ⟨by rw [← HL.out]; exact hlc, h0⟩ ⟨b0, b1, b2, b3, b4, b5⟩ cap ⟨hc0, hc1⟩ w2 (by have q := LS.out w2 B2; rw [HL.out] at q; exact q)
  rw [← HL.out] at AD
  have AX := Hid.intro (admit_exact (l := l) (b := ⟨b0, b1, b2, b3, b4, b5⟩) (cap := cap) HFT.out)
  have YES : Hid (admitE l ⟨b0, b1, b2, b3, b4, b5⟩ cap = 0 → admitL l ⟨b0, b1, b2, b3, b4, b5⟩ cap = l ++ [⟨b0, b1, b2, b3, b4, b5⟩]) := fun q => by unfold admitL; rw [if_pos q]
  obtain ⟨pe, hpe⟩ : ∃ pe, pe = admitE l ⟨b0, b1, b2, b3, b4, b5⟩ cap := ⟨_, rfl⟩
  obtain ⟨T, hT⟩ : ∃ T, T = admitL l ⟨b0, b1, b2, b3, b4, b5⟩ cap := ⟨_, rfl⟩
  rw [← hpe] at AD AX YES
  rw [← hT] at AD YES
  obtain ⟨TL, hTL⟩ : ∃ TL, TL = T.length := ⟨_, rfl⟩
  have HTL := Hid.intro hTL
  rw [← hTL] at AD
  have ADH := Hid.intro AD
  obtain ⟨c0, c1, c2, c3, c4, c5⟩ := HB.out w2 B2
  clear FTH B2 AD hpe hT hTL
  go_wp2_with fail
  refine ADH.out.mono ?_
  rintro e w3 ⟨a3, d3, rfl, s3, r3, B3⟩
  have E3 := Hid.intro (E2.out.trans (B3.mono E2.out.size))
  have S3 := Hid.intro s3
  clear ADH B3 s3 r3 c0 c1 c2 c3 c4 c5
  have SRC : Hid (∀ W, Below w3.heap.size w3 W → BdsAt (fun _ => True) W (.slice ao L c) l) := fun W hW => LS.out W (E3.out.trans (hW.mono E3.out.size))
  have KEEP : Hid (∀ W, Below w3.heap.size w3 W → W.cell? ⟨w.heap.size, 0, none⟩ = some (.int .i64 b0) ∧ W.cell? ⟨w.heap.size, 1, none⟩ = some (.int .i64 b1) ∧ W.cell? ⟨w.heap.size, 2, none⟩ = some (.int .i64 b2) ∧ W.cell? ⟨w.heap.size, 3, none⟩ = some (.int .i64 b3) ∧ W.cell? ⟨w.heap.size, 4, none⟩ = some (.int .i64 b4) ∧ W.cell? ⟨w.heap.size, 5, none⟩ = some (.int .i64 b5)) := fun W hW => HB.out W (E3.out.trans (hW.mono E3.out.size))
  obtain ⟨c0, c1, c2, c3, c4, c5⟩ := KEEP.out w3 (Below.refl _ _)
  have BD := Hid.intro ((Below.refl w3.heap.size w3).drew)
  go_wp2_with fail
  go_region_held_law (fun W => W.cell? ⟨w.heap.size, 0, none⟩ = some (.int .i64 b0) ∧ W.cell? ⟨w.heap.size, 1, none⟩ = some (.int .i64 b1) ∧ W.cell? ⟨w.heap.size, 2, none⟩ = some (.int .i64 b2) ∧ W.cell? ⟨w.heap.size, 3, none⟩ = some (.int .i64 b3) ∧ W.cell? ⟨w.heap.size, 4, none⟩ = some (.int .i64 b4) ∧ W.cell? ⟨w.heap.size, 5, none⟩ = some (.int .i64 b5))
    (first | exact KEEP.out _ E9 | exact KEEP.out _ (bel_allocB E8 (Nat.le_refl _) _) | exact KEEP.out _ E8 | exact KEEP.out _ (by first | exact BD.out | exact bel_allocB BD.out (Nat.le_refl _) _ | exact bel_allocB (bel_allocB BD.out (Nat.le_refl _) _) (Nat.le_refl _) _) | go_keep)
    (first
      | (refine step_append_beds (by rfl) _ _ (by rfl) _ 0 [] rfl (by rfl) (own_emptyB (by first | exact alloc_atB (by simp) | exact alloc_farB (alloc_atB (by simp)))) (fun _ => True) ao L c l HL.out (by rfl) (SRC.out _ (by first | exact BD.out | exact bel_allocB BD.out (Nat.le_refl _) _ | exact bel_allocB (bel_allocB BD.out (Nat.le_refl _) _) (Nat.le_refl _) _)) h0 (by omega) ?_; intro va wa hown hgrow hat; have QF := appF (H := w3.heap.size) (w0 := w3) (by first | exact alloc_atB (by simp) | exact alloc_farB (alloc_atB (by simp))) (by first | (dsimp only; omega) | (simp; done)) (by first | exact BD.out | exact bel_allocB BD.out (Nat.le_refl _) _ | exact bel_allocB (bel_allocB BD.out (Nat.le_refl _) _) (Nat.le_refl _) _) (Nat.le_refl _) hown hgrow hat; have E8 := QF.below; clear hown hgrow hat)
      | (refine step_append_beds (by rfl) _ _ (by rfl) va L l HL.out (by rfl) (QF.own.alloc _) (fun _ => True) (some ⟨wa.heap.size, 0, none⟩) 1 1 [⟨b0, b1, b2, b3, b4, b5⟩] rfl (by rfl) (bds_block (l := [⟨b0, b1, b2, b3, b4, b5⟩]) (alloc_atB rfl) 1) (fun h => by cases h) (by omega) ?_; intro vb wb hown hgrow hat; have QG := appG QF (bel_allocB QF.below (Nat.le_refl _) _) (Nat.le_refl _) hown hgrow hat; have E9 := QG.below; clear hown hgrow hat)
      | (refine step_append_beds (by rfl) _ _ (by rfl) va L l HL.out (by rfl) QF.own (fun _ => True) (some ⟨w3.heap.size + 1, 0, none⟩) 1 1 [⟨b0, b1, b2, b3, b4, b5⟩] rfl (by rfl) (bds_block (l := [⟨b0, b1, b2, b3, b4, b5⟩]) (QF.keep _ _ (by first | exact alloc_atB (by simp) | exact alloc_farB (alloc_atB (by simp))) (by simp [bcells, bcell])) 1) (fun h => by cases h) (by omega) ?_; intro vb wb hown hgrow hat; have QG := appG QF QF.below (Nat.le_refl _) hown hgrow hat; have E9 := QG.below; clear hown hgrow hat)
      | (refine step_append_beds (by rfl) _ _ (by rfl) va L l HL.out (by rfl) QF.own (fun _ => True) (some ⟨w3.heap.size, 0, none⟩) 1 1 [⟨b0, b1, b2, b3, b4, b5⟩] rfl (by rfl) (bds_block (l := [⟨b0, b1, b2, b3, b4, b5⟩]) (QF.keep _ _ (by first | exact alloc_atB (by simp) | exact alloc_farB (alloc_atB (by simp))) (by simp [bcells, bcell])) 1) (fun h => by cases h) (by omega) ?_; intro vb wb hown hgrow hat; have QG := appG QF QF.below (Nat.le_refl _) hown hgrow hat; have E9 := QG.below; clear hown hgrow hat)
      | fail)
  all_goals
    obtain ⟨va', vc, hvb, _⟩ := ownsRow_form QG.own
    subst hvb
    have hlen : (l ++ [(⟨b0, b1, b2, b3, b4, b5⟩ : Bdd)]).length = L + 1 := by rw [List.length_append, HL.out]; rfl
    have hbd := bds_of_owns (R := fun k => w3.heap.size ≤ k) (l := l ++ [⟨b0, b1, b2, b3, b4, b5⟩]) (v := .slice va' (L + 1) vc) (by rw [hlen]; exact QG.own) (fun r hr => QG.ge r hr)
    have HBD := Hid.intro hbd
    have WB := Hid.intro (E3.out.trans (QG.below.mono E3.out.size))
    have S4 := Hid.intro (S3.out.below QG.below)
    have HLN := Hid.intro hlen
    have RQ := Hid.intro (ownsRow_roomL QG.own).1
    clear QF QG E8 E9 KEEP SRC BD c0 c1 c2 c3 c4 c5 hbd hlen
    have FA := lfits_any _ (.slice va' (L + 1) vc) (l ++ [⟨b0, b1, b2, b3, b4, b5⟩]) (by rw [HLN.out]; omega) cap ⟨hc0, hc1⟩ wb HBD.out (roomV RQ.out)
    by_cases hp : pe = 0
    · have hfa := AX.out.1 hp
      rw [hfa] at FA
      have hTe := YES.out hp
      subst hp
      have SM := fun (W : World) (hW : Below wb.heap.size wb W) => refSame11_any _ _ (.slice a3 TL d3) (.slice va' (L + 1) vc) T (l ++ [⟨b0, b1, b2, b3, b4, b5⟩]) (by rw [hTe, HLN.out]; omega) (by rw [HLN.out]; omega) W (S4.out.below hW) (HBD.out.below hW)
      rw [decide_eq_true hTe] at SM
      have FAH := Hid.intro FA
      have SMH := Hid.intro SM
      clear FA SM hTe hfa
      go_wp2_with fail
      refine FAH.out.mono ?_
      rintro e w5 ⟨rfl, B5⟩
      have E5 := Hid.intro (WB.out.trans (B5.mono WB.out.size))
      have SMC := Hid.intro (SMH.out w5 B5)
      clear FAH B5 SMH
      go_wp2_with fail
      refine SMC.out.mono ?_
      rintro e w6 ⟨rfl, B6⟩
      have E6 := Hid.intro (E5.out.trans (B6.mono E5.out.size))
      clear SMC B6
      by_cases hz : L = 0
      · have z0 : ((L : Int) == 0) = true := by simp [hz]
        have WW := Hid.intro (B1H.out.trans (E6.out.mono B1H.out.size))
        go_wp2
        go_ret
        exact ⟨rfl, WW.out⟩
      have z0 : ((L : Int) == 0) = false := by simp; omega
      obtain ⟨K, hK⟩ : ∃ K : Nat, K = BT % L := ⟨_, rfl⟩
      have hKl : K < L := by rw [hK]; exact Nat.mod_lt _ (by omega)
      have hKm : (BT : Int) % (L : Int) = (K : Int) := by rw [hK]; simp
      have K0 : (0 : Int) ≤ (K : Int) := by omega
      have K1 : (K : Int) < (L : Int) := by omega
      have hKl' : K < l.length := by rw [← HL.out]; exact hKl
      have DO := disch_own HFT.out hKl'
      have FLS := fits_less HFT.out hKl'
      have LEN : (l.eraseIdx K).length = L - 1 := by rw [List.length_eraseIdx_of_lt hKl', ← HL.out]
      obtain ⟨pb, off, eao, hcc⟩ : ∃ pb off, ao = some ⟨pb, off, none⟩ ∧ ∀ t, (ht : t < l.length) → w6.cell? ⟨pb, off + t * 6, none⟩ = some (.int .i64 l[t].bid) := by
        obtain ⟨ao', c', e0, hs⟩ := LS.out _ E6.out
        simp only [Value.slice.injEq] at e0
        obtain ⟨rfl, _, rfl⟩ := e0
        obtain ⟨pb, off, e1, _, hs⟩ := hs (by omega)
        exact ⟨pb, off, e1, fun t ht => (hs t ht).1⟩
      have ci := hcc K hKl'
      have DI := ldischarge_any _ ao c l hl100 ⟨by rw [← HL.out]; exact hlc, h0⟩ l[K].bid _ (by have q := LS.out _ E6.out; rw [HL.out] at q; exact q)
      rw [DO.1, DO.2, ← HL.out, LEN] at DI
      have LE100 : (l.eraseIdx K).length ≤ 100 := by rw [LEN]; omega
      have FL2 := fun (W : World) (v : Value) (q : BdsAt (fun k => w6.heap.size ≤ k) W v (l.eraseIdx K)) (hv : RoomV v) => lfits_any _ v _ LE100 cap ⟨hc0, hc1⟩ W q hv
      rw [FLS] at FL2
      generalize l.eraseIdx K = less at DI FL2 LEN
      generalize l[K].bid = bi at ci DI
      subst eao
      have DIH := Hid.intro DI
      have FLH := Hid.intro FL2
      have LNH := Hid.intro LEN
      have lw : (((L - 1 : Nat) : Int)) = (L : Int) - 1 := by omega
      clear hcc DO FLS DI FL2 LE100 LEN hK
      go_wp2_with fail
      refine DIH.out.mono ?_
      rintro e w7 ⟨a7, d7, rfl, s7, r7, B7⟩
      have F7 := Hid.intro (E6.out.trans (B7.mono E6.out.size))
      have SL := Hid.intro s7
      have FLC := Hid.intro (FLH.out w7 _ SL.out (roomV r7.1))
      have WQ := Hid.intro (B1H.out.trans (F7.out.mono B1H.out.size))
      clear DIH B7 s7 r7 FLH ci
      go_wp2_with fail
      refine FLC.out.mono ?_
      rintro e w8 ⟨rfl, B8⟩
      have WR := Hid.intro (WQ.out.trans (B8.mono WQ.out.size))
      clear FLC B8
      go_wp2
      go_ret
      exact ⟨by simp, WR.out⟩
    · have hfa : fitsB (l ++ [⟨b0, b1, b2, b3, b4, b5⟩]) cap = false := by
        cases q : fitsB (l ++ [⟨b0, b1, b2, b3, b4, b5⟩]) cap with
        | false => rfl
        | true => exact absurd (AX.out.2 q) hp
      rw [hfa] at FA
      have j0 : (pe == 0) = false := by simpa using hp
      have FAH := Hid.intro FA
      clear FA hfa
      go_wp2_with fail
      refine FAH.out.mono ?_
      rintro e w5 ⟨rfl, B5⟩
      have E5 := Hid.intro (WB.out.trans (B5.mono WB.out.size))
      clear FAH B5
      by_cases hz : L = 0
      · have z0 : ((L : Int) == 0) = true := by simp [hz]
        have WW := Hid.intro (B1H.out.trans (E5.out.mono B1H.out.size))
        go_wp2
        go_ret
        exact ⟨rfl, WW.out⟩
      have z0 : ((L : Int) == 0) = false := by simp; omega
      obtain ⟨K, hK⟩ : ∃ K : Nat, K = BT % L := ⟨_, rfl⟩
      have hKl : K < L := by rw [hK]; exact Nat.mod_lt _ (by omega)
      have hKm : (BT : Int) % (L : Int) = (K : Int) := by rw [hK]; simp
      have K0 : (0 : Int) ≤ (K : Int) := by omega
      have K1 : (K : Int) < (L : Int) := by omega
      have hKl' : K < l.length := by rw [← HL.out]; exact hKl
      have DO := disch_own HFT.out hKl'
      have FLS := fits_less HFT.out hKl'
      have LEN : (l.eraseIdx K).length = L - 1 := by rw [List.length_eraseIdx_of_lt hKl', ← HL.out]
      obtain ⟨pb, off, eao, hcc⟩ : ∃ pb off, ao = some ⟨pb, off, none⟩ ∧ ∀ t, (ht : t < l.length) → w5.cell? ⟨pb, off + t * 6, none⟩ = some (.int .i64 l[t].bid) := by
        obtain ⟨ao', c', e0, hs⟩ := LS.out _ E5.out
        simp only [Value.slice.injEq] at e0
        obtain ⟨rfl, _, rfl⟩ := e0
        obtain ⟨pb, off, e1, _, hs⟩ := hs (by omega)
        exact ⟨pb, off, e1, fun t ht => (hs t ht).1⟩
      have ci := hcc K hKl'
      have DI := ldischarge_any _ ao c l hl100 ⟨by rw [← HL.out]; exact hlc, h0⟩ l[K].bid _ (by have q := LS.out _ E5.out; rw [HL.out] at q; exact q)
      rw [DO.1, DO.2, ← HL.out, LEN] at DI
      have LE100 : (l.eraseIdx K).length ≤ 100 := by rw [LEN]; omega
      have FL2 := fun (W : World) (v : Value) (q : BdsAt (fun k => w5.heap.size ≤ k) W v (l.eraseIdx K)) (hv : RoomV v) => lfits_any _ v _ LE100 cap ⟨hc0, hc1⟩ W q hv
      rw [FLS] at FL2
      generalize l.eraseIdx K = less at DI FL2 LEN
      generalize l[K].bid = bi at ci DI
      subst eao
      have DIH := Hid.intro DI
      have FLH := Hid.intro FL2
      have LNH := Hid.intro LEN
      have lw : (((L - 1 : Nat) : Int)) = (L : Int) - 1 := by omega
      clear hcc DO FLS DI FL2 LE100 LEN hK
      go_wp2_with fail
      refine DIH.out.mono ?_
      rintro e w7 ⟨a7, d7, rfl, s7, r7, B7⟩
      have F7 := Hid.intro (E5.out.trans (B7.mono E5.out.size))
      have SL := Hid.intro s7
      have FLC := Hid.intro (FLH.out w7 _ SL.out (roomV r7.1))
      have WQ := Hid.intro (B1H.out.trans (F7.out.mono B1H.out.size))
      clear DIH B7 s7 r7 FLH ci
      go_wp2_with fail
      refine FLC.out.mono ?_
      rintro e w8 ⟨rfl, B8⟩
      have WR := Hid.intro (WQ.out.trans (B8.mono WQ.out.size))
      clear FLC B8
      go_wp2
      go_ret
      exact ⟨by simp, WR.out⟩

theorem walk (ao : Option Addr) (len c : Nat) (l : List Bdd) (b : Bdd) (cap : Int) (bt : Int) (w : World) (hz : l.length = len ∧ BdsAt (fun _ => True) w (.slice ao len c) l ∧ len ≤ c ∧ c ≤ maxLen ∧ (ao = none → c = 0)) (_ : (Lit.int .i64 b.bid).wf = true ∧ (Lit.int .i64 b.tx).wf = true ∧ (Lit.int .i64 b.period).wf = true ∧ (Lit.int .i64 b.cost).wf = true ∧ (Lit.int .i64 b.watch).wf = true ∧ (Lit.int .i64 b.prio).wf = true) (_ : (Lit.int .i64 cap).wf = true) (hb : (Lit.int .u8 bt).wf = true) :
    Calls Try.prog 5 #[.slice ao len c, Bv b, .int .i64 cap, .int .u8 bt] w fun e w' => e = .returned (.bool true) ∧ Below w.heap.size w w' := by
  obtain ⟨hl, hr, hlc, _, h0⟩ := hz
  subst hl
  have hbt := bounds_u8 hb
  obtain ⟨BT, rfl⟩ := Int.eq_ofNat_of_zero_le hbt.1
  exact walk_main ao c l hlc h0 b.bid b.tx b.period b.cost b.watch b.prio cap BT (by omega) w hr

set_option maxRecDepth 100000 in
theorem lifted (os : Os) (started : os.Started) (H : Type) (enc : TypeId × Value → H) :
    ReturnsInHanded {} Try.checked os 5 .any (Rows.loadExactSpec.pre6 enc Try.prog Try.f5 Rows.loadExactRow.domain false) (Rows.loadExactSpec.post enc Try.prog Try.f5 false true false false) := by
  refine returnsInHanded_of_change (C := Try.checked) own started (by kernel_rfl) Try.func5
    (ChangeSpec.witness6 (enc := enc) (C := Try.checked) false ⟨#[], #[.slice none 0 0, .agg #[.int .i64 0, .int .i64 0, .int .i64 0, .int .i64 0, .int .i64 0, .int .i64 0], .int .i64 0, .int .u8 0], []⟩ 8 (by kernel_rfl) (by kernel_rfl) (by kernel_rfl) (by kernel_rfl)) ?_
  intro W base args ds gs before hval0 hW hcnd _
  have hval : ∀ (j : Nat) t v, Try.f5.params[j]? = some t → args[j]? = some v → Value.okWide Try.prog W .any base t v := hval0
  have hW' := hW
  obtain ⟨p, q, hA0, hV, rfl, hfz, hnd⟩ := hW
  have hA : DataW.TrodAll enc Try.prog W 0 (fun _ => true) true Try.f5.params.toList args.toList ds p := hA0
  rw [Try.params5] at hA hval
  obtain ⟨v0, vs0, d0, ds0, p0, q0, hargs, rfl, rfl, h0, r0⟩ := trodAll_cons hA
  obtain ⟨v1, vs1, d1, ds1, p1, q1, rfl, rfl, rfl, h1, r1⟩ := trodAll_cons r0
  obtain ⟨v2, vs2, d2, ds2, p2, q2, rfl, rfl, rfl, h2, r2⟩ := trodAll_cons r1
  obtain ⟨v3, vs3, d3, ds3, p3, q3, rfl, rfl, rfl, h3, r3⟩ := trodAll_cons r2
  obtain ⟨rfl, rfl, rfl⟩ := trodAll_nil r3
  obtain rfl : args = #[v0, v1, v2, v3] := by cases args; simp_all
  obtain ⟨rfl, rfl⟩ := trodVars_none hV
  have k0 := h0
  have lt0 : ∀ x ∈ p0, x.block < W.heap.size := by obtain ⟨m, hm⟩ := k0; exact DataW.trod_lt m _ _ _ hm
  obtain ⟨a0, len0, cap0, rfl⟩ := okWide_slice Try.underlying22 (hval 0 22 v0 rfl rfl)
  obtain ⟨z0, w0⟩ := open_beds h0
  have k1 := h1
  have lt1 : ∀ x ∈ p1, x.block < W.heap.size := by obtain ⟨m, hm⟩ := k1; exact DataW.trod_lt m _ _ _ hm
  obtain ⟨bd1, rfl, w1⟩ := open_bed (hval 1 27 v1 rfl rfl) h1
  obtain ⟨a2, rfl, rfl, rfl, w2⟩ := open_int Try.underlying3 (hval 2 3 v2 rfl rfl) h2
  obtain ⟨a3, rfl, rfl, rfl, w3⟩ := open_int Try.underlying5 (hval 3 5 v3 rfl rfl) h3
  clear hA0 hval0
  refine (walk a0 len0 cap0 z0 bd1 a2 a3 W w0 w1 w2 w3).mono fun e W' ⟨he, bel⟩ => ?_
  subst he
  exact ⟨_, rfl, _, _, _, [], _, [], hW', trodAll_mk1 (shut_bool Try.underlying4 _), (trodAll_cons_mk (Below.trod laidOut (by kernel_rfl) (of_decide_eq_true (by kernel_rfl)) k0 bel lt0) (trodAll_cons_mk (Below.trod laidOut (by kernel_rfl) (of_decide_eq_true (by kernel_rfl)) k1 bel lt1) (trodAll_cons_mk (shut_int Try.underlying3 w2) (trodAll_cons_mk (shut_int Try.underlying5 w3) trodAll_mk0)))), rfl, bel.frame _, fun h => by cases h⟩

theorem over : Rows.loadExactRow.holds Try.pinned (OpenSpec.ofChange Rows.loadExactSpec) :=
  OpenClaim.holds_of_wide 5 Try.f5 rfl rfl rfl rfl rfl rfl rfl ⟨rfl, rfl, rfl, rfl, rfl⟩ rfl rfl rfl rfl rfl (by kernel_rfl) Try.func5 (by kernel_rfl)
    (of_decide_eq_true (by kernel_rfl)) (by unfold Func.isWrapper; first | (rw [if_pos (by decide +kernel)]; kernel_rfl) | (rw [if_neg (by decide +kernel)]; exact ⟨rfl, rfl⟩))
    (fun os started H enc _ => lifted os started H enc)

end Go.Proofs.Ythofgajchejdfaa.LLoadExact

namespace Go.Proofs.Ythofgajchejdfaa
theorem loadExact_holds : Rows.LoadExactSaid := LLoadExact.over
#print axioms loadExact_holds
end Go.Proofs.Ythofgajchejdfaa
