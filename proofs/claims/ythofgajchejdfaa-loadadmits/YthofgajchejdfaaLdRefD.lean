/- The document's own answer of layer 11: Discharge. -/
import Derived.Test.YthofgajchejdfaaLdRefF
import Derived.Test.YthofgajchejdfaaLdSm
import Derived.Test.YthofgajchejdfaaLdApp
namespace Go.Proofs.Ythofgajchejdfaa
open Go.RowKit
open Bt

/-- The beds up to a place, without the one at another. -/
def lessB (l : List Bdd) (p k : Nat) : List Bdd := (l.take k).eraseIdx p

theorem lessB_step (l : List Bdd) {p k : Nat} (hk : k < l.length) (hne : k ≠ p) : lessB l p (k + 1) = lessB l p k ++ [l[k]] := by
  unfold lessB
  rw [List.take_add_one, List.getElem?_eq_getElem hk]
  have hl : (l.take k).length = k := by rw [List.length_take]; omega
  simp only [Option.toList_some]
  by_cases q : p < k
  · rw [List.eraseIdx_append_of_lt_length (by rw [hl]; exact q)]
  · rw [List.eraseIdx_append_of_length_le (by rw [hl]; omega), hl, List.eraseIdx_of_length_le (l := l.take k) (by rw [hl]; omega), List.eraseIdx_of_length_le (by simp; omega)]

theorem lessB_skip (l : List Bdd) {p : Nat} (hk : p < l.length) : lessB l p (p + 1) = lessB l p p := by
  unfold lessB
  rw [List.take_add_one, List.getElem?_eq_getElem hk]
  have hl : (l.take p).length = p := by rw [List.length_take]; omega
  simp only [Option.toList_some]
  rw [List.eraseIdx_append_of_length_le (by rw [hl]; omega), hl, List.eraseIdx_of_length_le (l := l.take p) (by rw [hl]; omega)]
  simp

theorem lessB_all (l : List Bdd) (p : Nat) : lessB l p l.length = l.eraseIdx p := by unfold lessB; rw [List.take_length]

theorem lessB_len (l : List Bdd) (p k : Nat) : (lessB l p k).length ≤ k := by
  unfold lessB
  have h1 : ((l.take k).eraseIdx p).length ≤ (l.take k).length := (List.eraseIdx_sublist _ _).length_le
  have h2 : (l.take k).length ≤ k := by rw [List.length_take]; omega
  omega

set_option maxRecDepth 100000 in
set_option maxHeartbeats 4000000 in
theorem refDisch_in (R : Nat → Prop) (ao : Option Addr) (c : Nat) (l : List Bdd) (hl : l.length ≤ 100) (x : Int) (w : World) (h : BdsAt R w (.slice ao l.length c) l) :
    Calls Try.prog 25 #[.slice ao l.length c, .int .i64 x] w (BdA w (dischL l x) (dischE l x)) := by
  have FI := refFind_any R _ l hl x w h
  obtain ⟨ao', c', e0, hs⟩ := h
  simp only [Value.slice.injEq] at e0
  obtain ⟨rfl, _, rfl⟩ := e0
  have HS := Hid.intro hs
  have PC := placeB_cases (·.bid) l x
  have DN := Hid.intro (dischE_no (l := l) (x := x))
  have DY := Hid.intro (fun (i : Nat) => dischE_yes (l := l) (x := x) (i := i))
  obtain ⟨L, hL⟩ : ∃ L, L = l.length := ⟨_, rfl⟩
  have HL := Hid.intro hL
  obtain ⟨pe, hpe⟩ : ∃ pe, pe = dischE l x := ⟨_, rfl⟩
  obtain ⟨T, hT⟩ : ∃ T, T = dischL l x := ⟨_, rfl⟩
  rw [← hpe, ← hT] at DN DY ⊢
  rw [← hL] at hl FI ⊢
  clear hs hL hpe hT
  rcases PC with ⟨e, _⟩ | ⟨p, hp, e, _⟩
  · obtain ⟨e1, e2⟩ := DN.out e
    subst e1 e2
    rw [e] at FI
    have FIH := Hid.intro FI
    clear FI DN DY e
    go_enter Try.func25, Try.ntmps25
    go_wp2_with fail
    refine FIH.out.mono ?_
    rintro e w1 ⟨rfl, B1⟩
    clear FIH
    go_wp2
    go_ret2
    exact bda_none rfl B1
  · obtain ⟨e1, e2⟩ := DY.out p e
    subst e1
    rw [e] at FI
    have FIH := Hid.intro FI
    have HT := Hid.intro e2
    have hpL : p < L := by rw [HL.out]; exact hp
    clear FI DN DY e e2
    have p0 : ¬ (p : Int) < 0 := by omega
    go_enter Try.func25, Try.ntmps25
    go_wp2_with fail
    refine FIH.out.mono ?_
    rintro e w1 ⟨rfl, B1⟩
    have B1H := Hid.intro B1
    clear FIH B1
    go_wp2_with fail
    go_loopw [6, 8] (fun ov iv ws => ∃ (k m : Nat), k ≤ L ∧ m ≤ k ∧ m = (lessB l p k).length ∧ iv = .int .i64 k ∧ ws.ownsRow 0 27 6 ov m (bcells (lessB l p k)) ∧ (∀ q, ov.ownBlock = some q → w.heap.size ≤ q) ∧ Below w.heap.size w ws) (fun _ iv _ => L - (intOf iv).toNat)
    case atStart => exact ⟨0, 0, by omega, by omega, by simp [lessB], rfl, World.ownsRow_nil _ _ _ _, (fun q hq => by simp [Value.ownBlock] at hq), B1H.out⟩
    case round =>
      obtain ⟨k, m, hk, hmk, hm, rfl, hO, hN, hB⟩ := hrel
      have HM := Hid.intro hm
      have OH := Hid.intro hO
      have NH := Hid.intro hN
      have BH := Hid.intro hB
      clear hm hO hN
      by_cases hlt : k < L
      · have hlt' : k < l.length := by rw [← HL.out]; exact hlt
        have k0 : (0 : Int) ≤ (k : Int) := by omega
        have k1 : (k : Int) < (L : Int) := by omega
        by_cases hkp : k = p
        · subst hkp
          have SK := Hid.intro (lessB_skip l hlt')
          clear hB
          go_wp2
          go_roundw
          case rel => exact ⟨k + 1, m, by omega, by omega, by rw [SK.out]; exact HM.out, by go_num, by rw [SK.out]; exact OH.out, NH.out, BH.out⟩
          case measure => simp [intOf]; omega
        · have kp : ((k : Int) != (p : Int)) = true := by rw [bne_iff_ne]; omega
          obtain ⟨pb, off, rfl, _, hc⟩ := HS.out (by omega)
          obtain ⟨q0, q1, q2, q3, q4, q5⟩ := hc k hlt'
          have c0 := cell_chg (below_chg hB) q0 id
          have c1 := cell_chg (below_chg hB) q1 id
          have c2 := cell_chg (below_chg hB) q2 id
          have c3 := cell_chg (below_chg hB) q3 id
          have c4 := cell_chg (below_chg hB) q4 id
          have c5 := cell_chg (below_chg hB) q5 id
          have STP := Hid.intro (lessB_step l hlt' hkp)
          generalize l[k] = bd at c0 c1 c2 c3 c4 c5 STP
          obtain ⟨b0, b1, b2, b3, b4, b5⟩ := bd
          simp only at c0 c1 c2 c3 c4 c5
          have BN := (Below.refl _ wr).alloc (Nat.le_refl _) (.cells #[.int .i64 b0, .int .i64 b1, .int .i64 b2, .int .i64 b3, .int .i64 b4, .int .i64 b5] 27)
          have ON := OH.out.alloc (.cells #[.int .i64 b0, .int .i64 b1, .int .i64 b2, .int .i64 b3, .int .i64 b4, .int .i64 b5] 27)
          have GR := bds_block (l := [⟨b0, b1, b2, b3, b4, b5⟩]) (heap_alloc_new wr (.cells #[.int .i64 b0, .int .i64 b1, .int .i64 b2, .int .i64 b3, .int .i64 b4, .int .i64 b5] 27)) 1
          obtain ⟨oa, oc, hov, _⟩ := ownsRow_form OH.out
          subst hov
          have BW := BH.out.trans (BN.mono BH.out.size)
          have FIN : Hid (∀ (v' : Value) (wb : World), wb.ownsRow 0 27 6 v' (m + 1) (bcells (lessB l p k ++ [⟨b0, b1, b2, b3, b4, b5⟩])) → (wr.alloc (.cells #[.int .i64 b0, .int .i64 b1, .int .i64 b2, .int .i64 b3, .int .i64 b4, .int .i64 b5] 27)).grownBy wb (Value.slice oa m oc).ownBlock → (v'.ownBlock = (Value.slice oa m oc).ownBlock ∨ v'.ownBlock = some (wr.alloc (.cells #[.int .i64 b0, .int .i64 b1, .int .i64 b2, .int .i64 b3, .int .i64 b4, .int .i64 b5] 27)).heap.size) →
              m + 1 = (lessB l p (k + 1)).length ∧ wb.ownsRow 0 27 6 v' (m + 1) (bcells (lessB l p (k + 1))) ∧ (∀ q, v'.ownBlock = some q → w.heap.size ≤ q) ∧ Below w.heap.size w wb) := fun v' wb hown hgrow hat => by
            obtain ⟨g1, g2⟩ := grownL hgrow hat BW (Nat.le_refl _) NH.out
            rw [STP.out]
            exact ⟨by rw [List.length_append, ← HM.out]; rfl, hown, g2, g1⟩
          have ONH := Hid.intro ON
          have GRH := Hid.intro GR
          clear q0 q1 q2 q3 q4 q5 hc hB BN ON GR BW OH
          go_wp2_with (refine append_beds (by rfl) _ _ (by rfl) (.slice oa m oc) m (lessB l p k) HM.out (by rfl) ONH.out (fun _ => True) (some ⟨wr.heap.size, 0, none⟩) 1 1 [⟨b0, b1, b2, b3, b4, b5⟩] rfl (by rfl) GRH.out (fun h => by cases h) (by omega) ?_; intro v' wb hown hgrow hat; have FN := Hid.intro (FIN.out v' wb hown hgrow (by simpa using hat)); clear hown hgrow hat)
          exact ⟨⟨k + 1, m + 1, by omega, by omega, FN.out.1, by go_num, FN.out.2⟩, by simp [intOf]; omega⟩
      · obtain rfl : k = L := by omega
        have k1 : ¬ (k : Int) < (k : Int) := by omega
        obtain ⟨oa, oc, hov, _⟩ := ownsRow_form OH.out
        subst hov
        have hTl : T = lessB l p k := by rw [HT.out, HL.out, lessB_all]
        have TL : Hid (T.length = m) := by rw [Hid, hTl]; exact HM.out.symm
        have RM := Hid.intro (ownsRow_roomL OH.out)
        have SM : Hid (BdsAt (fun k => w.heap.size ≤ k) wr (.slice oa m oc) T) := by
          rw [hTl]
          have O4 := OH.out
          have q := bds_of_owns (R := fun k => w.heap.size ≤ k) (l := lessB l p k) (v := .slice oa m oc) (by rw [← HM.out]; exact O4) (fun r hr => NH.out r hr)
          exact q
        clear hB hTl
        go_wp2
        go_ret2
        exact ⟨oa, oc, by rw [TL.out]; rfl, by rw [TL.out]; exact SM.out, by rw [TL.out]; exact RM.out, BH.out⟩

theorem refDisch_any (R : Nat → Prop) (ao : Option Addr) (c : Nat) (l : List Bdd) (hl : l.length ≤ 100) (x : Int) (w : World) (h : BdsAt R w (.slice ao l.length c) l) :
    Calls Try.prog 25 #[.slice ao l.length c, .int .i64 x] w fun e w' => ∃ a d, e = .returned (.tuple #[.slice a (dischL l x).length d, .int .i64 (dischE l x)]) ∧ BdsAt (fun k => w.heap.size ≤ k) w' (.slice a (dischL l x).length d) (dischL l x) ∧ ((dischL l x).length ≤ d ∧ (a = none → d = 0)) ∧ Below w.heap.size w w' := refDisch_in R ao c l hl x w h

end Go.Proofs.Ythofgajchejdfaa
