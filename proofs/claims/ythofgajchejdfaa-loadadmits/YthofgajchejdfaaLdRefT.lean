/- The document's own answer of layer 11: Fits. -/
import Derived.Test.YthofgajchejdfaaLdRefU
import Derived.Test.YthofgajchejdfaaLdRefF
namespace Go.Proofs.Ythofgajchejdfaa
open Go.RowKit
open Bt

/-- Is a bed at its place as it should be? -/
def okB (l : List Bdd) (i : Nat) : Bool := match l[i]? with
  | some b => mayB b && (decide (placeB (·.bid) l b.bid = (i : Int)) && decide (placeB (·.tx) l b.tx = (i : Int)))
  | none => true

theorem okB_at {l : List Bdd} {i : Nat} (hi : i < l.length) : okB l i = (mayB l[i] && (decide (placeB (·.bid) l l[i].bid = (i : Int)) && decide (placeB (·.tx) l l[i].tx = (i : Int)))) := by
  unfold okB
  rw [List.getElem?_eq_getElem hi]

theorem fits_yes {l : List Bdd} {cap : Int} (hc : 0 ≤ cap) (h1 : l.length ≤ 8) (h2 : 0 < l.length → sumB l ≤ cap * 60) (h3 : ∀ i, i < l.length → okB l i = true) : fitsB l cap = true := by
  rw [fits_places hc, decide_eq_true_iff]
  refine ⟨by omega, fun i hi => ?_⟩
  have q := h3 i hi
  rw [okB_at hi] at q
  simp only [Bool.and_eq_true, decide_eq_true_eq] at q
  exact q

theorem fits_no1 {l : List Bdd} {cap : Int} (hc : 0 ≤ cap) (h : 8 < l.length ∨ (0 < l.length ∧ cap * 60 < sumB l)) : fitsB l cap = false := by
  rw [fits_places hc, decide_eq_false_iff_not]
  exact fun q => q.1 h

theorem fits_no2 {l : List Bdd} {cap : Int} (hc : 0 ≤ cap) {i : Nat} (hi : i < l.length) (h : okB l i = false) : fitsB l cap = false := by
  rw [fits_places hc, decide_eq_false_iff_not]
  intro q
  have r := q.2 i hi
  rw [okB_at hi] at h
  rw [r.1, decide_eq_true r.2.1, decide_eq_true r.2.2] at h
  cases h

set_option maxRecDepth 100000 in
set_option maxHeartbeats 4000000 in
theorem refFits_any (R : Nat → Prop) (v : Value) (l : List Bdd) (hl : l.length ≤ 100) (cap : Int) (hc : 0 ≤ cap ∧ cap ≤ 10000) (w : World) (h : BdsAt R w v l) :
    Calls Try.prog 17 #[v, .int .i64 cap] w fun e w' => e = .returned (.bool (fitsB l cap)) ∧ Below w.heap.size w w' := by
  have HB := Hid.intro h
  have SU := refSum_any R v l hl w h
  have FI := Hid.intro (fun (W : World) (hB : Below w.heap.size w W) (x : Int) => refFind_any R v l hl x W (h.below hB))
  have OW := Hid.intro (fun (W : World) (hB : Below w.heap.size w W) (x : Int) => refOwner_any R v l hl x W (h.below hB))
  obtain ⟨ao, c, rfl, hs⟩ := h
  have HS := Hid.intro hs
  have Y := Hid.intro (fits_yes (l := l) hc.1)
  have N1 := Hid.intro (fits_no1 (l := l) hc.1)
  have N2 := Hid.intro (fun (i : Nat) => fits_no2 (l := l) (i := i) hc.1)
  have SB := sumB_bounds l
  clear hs
  obtain ⟨L, hL⟩ : ∃ L, L = l.length := ⟨_, rfl⟩
  have HL := Hid.intro hL
  obtain ⟨S, hS⟩ : ∃ S, S = sumB l := ⟨_, rfl⟩
  obtain ⟨A, hA⟩ : ∃ A, A = fitsB l cap := ⟨_, rfl⟩
  rw [← hS] at SU SB Y N1
  rw [← hL] at hl SU FI OW SB Y N1 N2 ⊢
  rw [← hA] at Y N1 N2 ⊢
  have SUH := Hid.intro SU
  clear hL hS hA SU
  have hcw : IntKind.i64.wrap (60 * cap) = 60 * cap := IntWalk.i64_in _ (by omega)
  by_cases h8 : 8 < L
  · have e := N1.out (.inl h8)
    subst e
    have z : (8 : Int) < (L : Int) := by omega
    clear SUH FI OW Y N1 N2
    go_enter Try.func17, Try.ntmps17
    go_wp2
    go_ret
    exact ⟨rfl, Below.refl _ _⟩
  have z8 : ¬ (8 : Int) < (L : Int) := by omega
  by_cases h0 : 0 < L
  case neg =>
    obtain rfl : L = 0 := by omega
    have e := Y.out (by omega) (fun q => by omega) (fun i hi => by omega)
    subst e
    clear SUH FI OW Y N1 N2
    go_enter Try.func17, Try.ntmps17
    go_wp2_with fail
    go_loopw [5] (fun iv ws => iv = .int .i64 0 ∧ Below w.heap.size w ws) (fun _ _ => 0)
    case atStart => exact ⟨rfl, Below.refl _ _⟩
    case round =>
      obtain ⟨rfl, hB⟩ := hrel
      go_wp2
      go_ret
      exact ⟨rfl, hB⟩
  have z0 : (0 : Int) < (L : Int) := by omega
  by_cases hsm : cap * 60 < S
  · have e := N1.out (.inr ⟨h0, hsm⟩)
    subst e
    have z : 60 * cap < S := by omega
    clear FI OW Y N1 N2
    go_enter Try.func17, Try.ntmps17
    go_wp2_with fail
    refine SUH.out.mono ?_
    rintro e w1 ⟨rfl, B1⟩
    clear SUH
    go_wp2
    go_ret
    exact ⟨rfl, B1⟩
  have z2 : ¬ 60 * cap < S := by omega
  have YY := Hid.intro (Y.out (by omega) (fun _ => by omega))
  clear N1 Y
  go_enter Try.func17, Try.ntmps17
  go_wp2_with fail
  refine SUH.out.mono ?_
  rintro e w1 ⟨rfl, B1⟩
  have B1H := Hid.intro B1
  clear SUH B1
  go_wp2_with fail
  go_loopw [5] (fun iv ws => ∃ k : Nat, k ≤ L ∧ iv = .int .i64 k ∧ (∀ j, j < k → okB l j = true) ∧ Below w.heap.size w ws) (fun iv _ => L - (intOf iv).toNat)
  case atStart => exact ⟨0, by omega, rfl, (fun j hj => absurd hj (Nat.not_lt_zero _)), B1H.out⟩
  case round =>
    obtain ⟨k, hk, rfl, hok, hB⟩ := hrel
    have HOK := Hid.intro hok
    have BH := Hid.intro hB
    clear hok
    by_cases hlt : k < L
    · have hlt' : k < l.length := by rw [← HL.out]; exact hlt
      have k0 : (0 : Int) ≤ (k : Int) := by omega
      have k1 : (k : Int) < (L : Int) := by omega
      obtain ⟨pb, off, rfl, _, hcc⟩ := HS.out (by omega)
      obtain ⟨q0, q1, q2, q3, q4, q5⟩ := hcc k hlt'
      have c0 := cellU hB q0
      have c1 := cellU hB q1
      have c2 := cellU hB q2
      have c3 := cellU hB q3
      have c4 := cellU hB q4
      have c5 := cellU hB q5
      have MY := refMay11_in l[k].bid l[k].tx l[k].period l[k].cost l[k].watch l[k].prio wr
      have OKK := Hid.intro (okB_at hlt')
      have EB : mayB ⟨l[k].bid, l[k].tx, l[k].period, l[k].cost, l[k].watch, l[k].prio⟩ = mayB l[k] := rfl
      rw [EB] at MY
      have FX := Hid.intro (fun (W : World) (hB : Below w.heap.size w W) => FI.out W hB l[k].bid)
      have OX := Hid.intro (fun (W : World) (hB : Below w.heap.size w W) => OW.out W hB l[k].tx)
      have pf := placeB_lt (·.bid) l l[k].bid
      have po := placeB_lt (·.tx) l l[k].tx
      rw [← HL.out] at pf po
      generalize placeB (·.bid) l l[k].bid = F at FX OKK pf
      generalize placeB (·.tx) l l[k].tx = O at OX OKK po
      generalize mayB l[k] = my at MY OKK
      generalize l[k].bid = b0 at c0 MY FX
      generalize l[k].tx = b1 at c1 MY OX
      generalize l[k].period = b2 at c2 MY
      generalize l[k].cost = b3 at c3 MY
      generalize l[k].watch = b4 at c4 MY
      generalize l[k].prio = b5 at c5 MY
      have MYH := Hid.intro MY
      have BAD := Hid.intro (N2.out k hlt)
      have NXT : Hid (okB l k = true → ∀ j, j < k + 1 → okB l j = true) := fun e j hj => by
        by_cases u : j < k
        · exact HOK.out j u
        · obtain rfl : j = k := by omega
          exact e
      clear q0 q1 q2 q3 q4 q5 hcc hB MY EB N2 HOK
      cases my with
      | false =>
        have e := BAD.out (by rw [OKK.out]; rfl)
        subst e
        go_wp2_with fail
        refine MYH.out.mono ?_
        rintro e w2 ⟨rfl, B2⟩
        have B2H := Hid.intro (BH.out.trans (B2.mono BH.out.size))
        clear MYH B2
        go_wp2
        go_ret
        exact ⟨rfl, B2H.out⟩
      | true =>
      by_cases hF : F = (k : Int)
      case neg =>
        have e := BAD.out (by rw [OKK.out, decide_eq_false hF]; rfl)
        subst e
        have f1 : (F != (k : Int)) = true := by rw [bne_iff_ne]; exact hF
        go_wp2_with fail
        refine MYH.out.mono ?_
        rintro e w2 ⟨rfl, B2⟩
        have B2H := Hid.intro (BH.out.trans (B2.mono BH.out.size))
        have d0 := cellU B2 c0
        clear MYH B2 c0 c1 c2 c3 c4 c5
        go_wp2_with fail
        refine (FX.out _ B2H.out).mono ?_
        rintro e w3 ⟨rfl, B3⟩
        have B3H := Hid.intro (B2H.out.trans (B3.mono B2H.out.size))
        clear FX B3 d0
        go_wp2
        go_ret
        exact ⟨rfl, B3H.out⟩
      subst hF
      by_cases hO : O = (k : Int)
      case neg =>
        have e := BAD.out (by rw [OKK.out, decide_eq_false hO]; simp)
        subst e
        have f1 : (O != (k : Int)) = true := by rw [bne_iff_ne]; exact hO
        go_wp2_with fail
        refine MYH.out.mono ?_
        rintro e w2 ⟨rfl, B2⟩
        have B2H := Hid.intro (BH.out.trans (B2.mono BH.out.size))
        have d0 := cellU B2 c0
        have d1 := cellU B2 c1
        clear MYH B2 c0 c1 c2 c3 c4 c5
        go_wp2_with fail
        refine (FX.out _ B2H.out).mono ?_
        rintro e w3 ⟨rfl, B3⟩
        have B3H := Hid.intro (B2H.out.trans (B3.mono B2H.out.size))
        have e1 := cellU B3 d1
        clear FX B3 d0 d1
        go_wp2_with fail
        refine (OX.out _ B3H.out).mono ?_
        rintro e w4 ⟨rfl, B4⟩
        have B4H := Hid.intro (B3H.out.trans (B4.mono B3H.out.size))
        clear OX B4 e1
        go_wp2
        go_ret
        exact ⟨rfl, B4H.out⟩
      subst hO
      have NX := Hid.intro (NXT.out (by rw [OKK.out]; simp))
      clear NXT BAD OKK
      go_wp2_with fail
      refine MYH.out.mono ?_
      rintro e w2 ⟨rfl, B2⟩
      have B2H := Hid.intro (BH.out.trans (B2.mono BH.out.size))
      have d0 := cellU B2 c0
      have d1 := cellU B2 c1
      clear MYH B2 c0 c1 c2 c3 c4 c5
      go_wp2_with fail
      refine (FX.out _ B2H.out).mono ?_
      rintro e w3 ⟨rfl, B3⟩
      have B3H := Hid.intro (B2H.out.trans (B3.mono B2H.out.size))
      have e1 := cellU B3 d1
      clear FX B3 d0 d1
      go_wp2_with fail
      refine (OX.out _ B3H.out).mono ?_
      rintro e w4 ⟨rfl, B4⟩
      have B4H := Hid.intro (B3H.out.trans (B4.mono B3H.out.size))
      clear OX B4 e1 BH B2H B3H
      go_wp2
      go_roundw
      case rel => exact ⟨k + 1, by omega, by go_num, NX.out, B4H.out⟩
      case measure => simp [intOf]; omega
    · obtain rfl : k = L := by omega
      have k1 : ¬ (k : Int) < (k : Int) := by omega
      have e := YY.out HOK.out
      subst e
      clear hB
      go_wp2
      go_ret
      exact ⟨rfl, BH.out⟩

end Go.Proofs.Ythofgajchejdfaa
