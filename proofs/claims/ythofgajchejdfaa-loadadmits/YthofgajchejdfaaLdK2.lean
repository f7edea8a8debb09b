/- Package load: place and its closures, slices.IndexFunc of beds, Find, Owner. -/
import Derived.Test.YthofgajchejdfaaLdK1
import Derived.Deep.RegionHeld3
namespace Go.Proofs.Ythofgajchejdfaa
open Go.RowKit
open Bt

/-- The closures that look at a bed: at a number, at a yes or no. -/
abbrev lookI (bl bw : Nat) : Value := .func (.func 39) #[] #[.pointer (some ⟨bl, 0, none⟩), .pointer (some ⟨bw, 0, none⟩)]
abbrev lookB (bl bw : Nat) : Value := .func (.func 38) #[] #[.pointer (some ⟨bl, 0, none⟩), .pointer (some ⟨bw, 0, none⟩)]

theorem undrewL {w w' : World} (h : Below w.drew.heap.size w.drew w') : Below w.heap.size w w' := ⟨h.os, h.tape, h.output, h.size, h.block⟩

set_option maxRecDepth 100000 in
set_option maxHeartbeats 1000000 in
theorem lookId (b : Bdd) (x : Int) (bl bw : Nat) (w : World) (h1 : w.cell? ⟨bl, 0, none⟩ = some (.func (.func 33) #[] #[])) (h2 : w.cell? ⟨bw, 0, none⟩ = some (.int .i64 x)) :
    Calls Try.prog 39 #[Bv b, .pointer (some ⟨bl, 0, none⟩), .pointer (some ⟨bw, 0, none⟩)] w fun e w' => e = .returned (.bool (decide (b.bid = x))) ∧ Below w.heap.size w w' := by
  have CF := Hid.intro (lidOf_any b)
  generalize b.bid = y at CF ⊢
  obtain ⟨b0, b1, b2, b3, b4, b5⟩ := b
  have B0 := (Below.refl _ w).alloc (Nat.le_refl _) (.cells #[.int .i64 b0, .int .i64 b1, .int .i64 b2, .int .i64 b3, .int .i64 b4, .int .i64 b5] 27)
  have k1 := cellU B0 h1
  have k2 := cellU B0 h2
  have nb := heap_alloc_new w (.cells #[.int .i64 b0, .int .i64 b1, .int .i64 b2, .int .i64 b3, .int .i64 b4, .int .i64 b5] 27)
  obtain ⟨A, hA⟩ : ∃ A, A = w.alloc (.cells #[.int .i64 b0, .int .i64 b1, .int .i64 b2, .int .i64 b3, .int .i64 b4, .int .i64 b5] 27) := ⟨_, rfl⟩
  have HA := Hid.intro hA
  rw [← hA] at B0 k1 k2 nb
  have c0 : A.cell? ⟨w.heap.size, 0, none⟩ = some (.int .i64 b0) := by rw [cell_of_row _ _ 0 _ _ _ nb]; rfl
  have c1 : A.cell? ⟨w.heap.size, 1, none⟩ = some (.int .i64 b1) := by rw [cell_of_row _ _ 1 _ _ _ nb]; rfl
  have c2 : A.cell? ⟨w.heap.size, 2, none⟩ = some (.int .i64 b2) := by rw [cell_of_row _ _ 2 _ _ _ nb]; rfl
  have c3 : A.cell? ⟨w.heap.size, 3, none⟩ = some (.int .i64 b3) := by rw [cell_of_row _ _ 3 _ _ _ nb]; rfl
  have c4 : A.cell? ⟨w.heap.size, 4, none⟩ = some (.int .i64 b4) := by rw [cell_of_row _ _ 4 _ _ _ nb]; rfl
  have c5 : A.cell? ⟨w.heap.size, 5, none⟩ = some (.int .i64 b5) := by rw [cell_of_row _ _ 5 _ _ _ nb]; rfl
  have BH := Hid.intro B0
  have KK : Hid (∀ W, Below A.heap.size A W → W.cell? ⟨bl, 0, none⟩ = some (.func (.func 33) #[] #[]) ∧ W.cell? ⟨bw, 0, none⟩ = some (.int .i64 x) ∧ W.cell? ⟨w.heap.size, 0, none⟩ = some (.int .i64 b0) ∧ W.cell? ⟨w.heap.size, 1, none⟩ = some (.int .i64 b1) ∧ W.cell? ⟨w.heap.size, 2, none⟩ = some (.int .i64 b2) ∧ W.cell? ⟨w.heap.size, 3, none⟩ = some (.int .i64 b3) ∧ W.cell? ⟨w.heap.size, 4, none⟩ = some (.int .i64 b4) ∧ W.cell? ⟨w.heap.size, 5, none⟩ = some (.int .i64 b5)) := fun W h => ⟨cellU h k1, cellU h k2, cellU h c0, cellU h c1, cellU h c2, cellU h c3, cellU h c4, cellU h c5⟩
  have CL := Hid.intro (CF.out A.drew)
  clear h1 h2 nb B0 hA CF
  go_enter Try.func39, Try.ntmps39
  go_wp2_with fail
  rw [← HA.out]
  go_region_held3 (fun W => W.cell? ⟨bl, 0, none⟩ = some (.func (.func 33) #[] #[]) ∧ W.cell? ⟨bw, 0, none⟩ = some (.int .i64 x) ∧ W.cell? ⟨w.heap.size, 0, none⟩ = some (.int .i64 b0) ∧ W.cell? ⟨w.heap.size, 1, none⟩ = some (.int .i64 b1) ∧ W.cell? ⟨w.heap.size, 2, none⟩ = some (.int .i64 b2) ∧ W.cell? ⟨w.heap.size, 3, none⟩ = some (.int .i64 b3) ∧ W.cell? ⟨w.heap.size, 4, none⟩ = some (.int .i64 b4) ∧ W.cell? ⟨w.heap.size, 5, none⟩ = some (.int .i64 b5))
    (first | exact KK.out _ E1 | go_keep)
    (first
      | (go_at_call 33; refine CL.out.mono ?_; rintro e w1 ⟨rfl, B1⟩; have E1 : Below A.heap.size A w1 := undrewL B1; clear B1)
      | fail)
  all_goals
    go_wp2
    go_ret
    exact ⟨rfl, BH.out.trans (E1.mono BH.out.size)⟩

set_option maxRecDepth 100000 in
set_option maxHeartbeats 1000000 in
theorem lookTx (b : Bdd) (x : Int) (bl bw : Nat) (w : World) (h1 : w.cell? ⟨bl, 0, none⟩ = some (.func (.func 34) #[] #[])) (h2 : w.cell? ⟨bw, 0, none⟩ = some (.int .i64 x)) :
    Calls Try.prog 39 #[Bv b, .pointer (some ⟨bl, 0, none⟩), .pointer (some ⟨bw, 0, none⟩)] w fun e w' => e = .returned (.bool (decide (b.tx = x))) ∧ Below w.heap.size w w' := by
  have CF := Hid.intro (ltxOf_any b)
  generalize b.tx = y at CF ⊢
  obtain ⟨b0, b1, b2, b3, b4, b5⟩ := b
  have B0 := (Below.refl _ w).alloc (Nat.le_refl _) (.cells #[.int .i64 b0, .int .i64 b1, .int .i64 b2, .int .i64 b3, .int .i64 b4, .int .i64 b5] 27)
  have k1 := cellU B0 h1
  have k2 := cellU B0 h2
  have nb := heap_alloc_new w (.cells #[.int .i64 b0, .int .i64 b1, .int .i64 b2, .int .i64 b3, .int .i64 b4, .int .i64 b5] 27)
  obtain ⟨A, hA⟩ : ∃ A, A = w.alloc (.cells #[.int .i64 b0, .int .i64 b1, .int .i64 b2, .int .i64 b3, .int .i64 b4, .int .i64 b5] 27) := ⟨_, rfl⟩
  have HA := Hid.intro hA
  rw [← hA] at B0 k1 k2 nb
  have c0 : A.cell? ⟨w.heap.size, 0, none⟩ = some (.int .i64 b0) := by rw [cell_of_row _ _ 0 _ _ _ nb]; rfl
  have c1 : A.cell? ⟨w.heap.size, 1, none⟩ = some (.int .i64 b1) := by rw [cell_of_row _ _ 1 _ _ _ nb]; rfl
  have c2 : A.cell? ⟨w.heap.size, 2, none⟩ = some (.int .i64 b2) := by rw [cell_of_row _ _ 2 _ _ _ nb]; rfl
  have c3 : A.cell? ⟨w.heap.size, 3, none⟩ = some (.int .i64 b3) := by rw [cell_of_row _ _ 3 _ _ _ nb]; rfl
  have c4 : A.cell? ⟨w.heap.size, 4, none⟩ = some (.int .i64 b4) := by rw [cell_of_row _ _ 4 _ _ _ nb]; rfl
  have c5 : A.cell? ⟨w.heap.size, 5, none⟩ = some (.int .i64 b5) := by rw [cell_of_row _ _ 5 _ _ _ nb]; rfl
  have BH := Hid.intro B0
  have KK : Hid (∀ W, Below A.heap.size A W → W.cell? ⟨bl, 0, none⟩ = some (.func (.func 34) #[] #[]) ∧ W.cell? ⟨bw, 0, none⟩ = some (.int .i64 x) ∧ W.cell? ⟨w.heap.size, 0, none⟩ = some (.int .i64 b0) ∧ W.cell? ⟨w.heap.size, 1, none⟩ = some (.int .i64 b1) ∧ W.cell? ⟨w.heap.size, 2, none⟩ = some (.int .i64 b2) ∧ W.cell? ⟨w.heap.size, 3, none⟩ = some (.int .i64 b3) ∧ W.cell? ⟨w.heap.size, 4, none⟩ = some (.int .i64 b4) ∧ W.cell? ⟨w.heap.size, 5, none⟩ = some (.int .i64 b5)) := fun W h => ⟨cellU h k1, cellU h k2, cellU h c0, cellU h c1, cellU h c2, cellU h c3, cellU h c4, cellU h c5⟩
  have CL := Hid.intro (CF.out A.drew)
  clear h1 h2 nb B0 hA CF
  go_enter Try.func39, Try.ntmps39
  go_wp2_with fail
  rw [← HA.out]
  go_region_held3 (fun W => W.cell? ⟨bl, 0, none⟩ = some (.func (.func 34) #[] #[]) ∧ W.cell? ⟨bw, 0, none⟩ = some (.int .i64 x) ∧ W.cell? ⟨w.heap.size, 0, none⟩ = some (.int .i64 b0) ∧ W.cell? ⟨w.heap.size, 1, none⟩ = some (.int .i64 b1) ∧ W.cell? ⟨w.heap.size, 2, none⟩ = some (.int .i64 b2) ∧ W.cell? ⟨w.heap.size, 3, none⟩ = some (.int .i64 b3) ∧ W.cell? ⟨w.heap.size, 4, none⟩ = some (.int .i64 b4) ∧ W.cell? ⟨w.heap.size, 5, none⟩ = some (.int .i64 b5))
    (first | exact KK.out _ E1 | go_keep)
    (first
      | (go_at_call 34; refine CL.out.mono ?_; rintro e w1 ⟨rfl, B1⟩; have E1 : Below A.heap.size A w1 := undrewL B1; clear B1)
      | fail)
  all_goals
    go_wp2
    go_ret
    exact ⟨rfl, BH.out.trans (E1.mono BH.out.size)⟩

set_option maxRecDepth 100000 in
set_option maxHeartbeats 1000000 in
theorem lookMay (b : Bdd) (bl bw : Nat) (w : World) (h1 : w.cell? ⟨bl, 0, none⟩ = some (.func (.func 11) #[] #[])) (h2 : w.cell? ⟨bw, 0, none⟩ = some (.bool false)) :
    Calls Try.prog 38 #[Bv b, .pointer (some ⟨bl, 0, none⟩), .pointer (some ⟨bw, 0, none⟩)] w fun e w' => e = .returned (.bool (!mayB b)) ∧ Below w.heap.size w w' := by
  have CF := Hid.intro (lmay_any b)
  generalize mayB b = y at CF ⊢
  obtain ⟨b0, b1, b2, b3, b4, b5⟩ := b
  have B0 := (Below.refl _ w).alloc (Nat.le_refl _) (.cells #[.int .i64 b0, .int .i64 b1, .int .i64 b2, .int .i64 b3, .int .i64 b4, .int .i64 b5] 27)
  have k1 := cellU B0 h1
  have k2 := cellU B0 h2
  have nb := heap_alloc_new w (.cells #[.int .i64 b0, .int .i64 b1, .int .i64 b2, .int .i64 b3, .int .i64 b4, .int .i64 b5] 27)
  obtain ⟨A, hA⟩ : ∃ A, A = w.alloc (.cells #[.int .i64 b0, .int .i64 b1, .int .i64 b2, .int .i64 b3, .int .i64 b4, .int .i64 b5] 27) := ⟨_, rfl⟩
  have HA := Hid.intro hA
  rw [← hA] at B0 k1 k2 nb
  have c0 : A.cell? ⟨w.heap.size, 0, none⟩ = some (.int .i64 b0) := by rw [cell_of_row _ _ 0 _ _ _ nb]; rfl
  have c1 : A.cell? ⟨w.heap.size, 1, none⟩ = some (.int .i64 b1) := by rw [cell_of_row _ _ 1 _ _ _ nb]; rfl
  have c2 : A.cell? ⟨w.heap.size, 2, none⟩ = some (.int .i64 b2) := by rw [cell_of_row _ _ 2 _ _ _ nb]; rfl
  have c3 : A.cell? ⟨w.heap.size, 3, none⟩ = some (.int .i64 b3) := by rw [cell_of_row _ _ 3 _ _ _ nb]; rfl
  have c4 : A.cell? ⟨w.heap.size, 4, none⟩ = some (.int .i64 b4) := by rw [cell_of_row _ _ 4 _ _ _ nb]; rfl
  have c5 : A.cell? ⟨w.heap.size, 5, none⟩ = some (.int .i64 b5) := by rw [cell_of_row _ _ 5 _ _ _ nb]; rfl
  have BH := Hid.intro B0
  have KK : Hid (∀ W, Below A.heap.size A W → W.cell? ⟨bl, 0, none⟩ = some (.func (.func 11) #[] #[]) ∧ W.cell? ⟨bw, 0, none⟩ = some (.bool false) ∧ W.cell? ⟨w.heap.size, 0, none⟩ = some (.int .i64 b0) ∧ W.cell? ⟨w.heap.size, 1, none⟩ = some (.int .i64 b1) ∧ W.cell? ⟨w.heap.size, 2, none⟩ = some (.int .i64 b2) ∧ W.cell? ⟨w.heap.size, 3, none⟩ = some (.int .i64 b3) ∧ W.cell? ⟨w.heap.size, 4, none⟩ = some (.int .i64 b4) ∧ W.cell? ⟨w.heap.size, 5, none⟩ = some (.int .i64 b5)) := fun W h => ⟨cellU h k1, cellU h k2, cellU h c0, cellU h c1, cellU h c2, cellU h c3, cellU h c4, cellU h c5⟩
  have CL := Hid.intro (CF.out A.drew)
  clear h1 h2 nb B0 hA CF
  cases y
  all_goals
    go_enter Try.func38, Try.ntmps38
    go_wp2_with fail
    rw [← HA.out]
    go_region_held3 (fun W => W.cell? ⟨bl, 0, none⟩ = some (.func (.func 11) #[] #[]) ∧ W.cell? ⟨bw, 0, none⟩ = some (.bool false) ∧ W.cell? ⟨w.heap.size, 0, none⟩ = some (.int .i64 b0) ∧ W.cell? ⟨w.heap.size, 1, none⟩ = some (.int .i64 b1) ∧ W.cell? ⟨w.heap.size, 2, none⟩ = some (.int .i64 b2) ∧ W.cell? ⟨w.heap.size, 3, none⟩ = some (.int .i64 b3) ∧ W.cell? ⟨w.heap.size, 4, none⟩ = some (.int .i64 b4) ∧ W.cell? ⟨w.heap.size, 5, none⟩ = some (.int .i64 b5))
      (first | exact KK.out _ E1 | go_keep)
      (first
        | (go_at_call 11; refine CL.out.mono ?_; rintro e w1 ⟨rfl, B1⟩; have E1 : Below A.heap.size A w1 := undrewL B1; clear B1)
        | fail)
    all_goals
      go_wp2
      go_ret
      exact ⟨rfl, BH.out.trans (E1.mono BH.out.size)⟩

/-- Where the first is of whom something holds; -1: none. -/
def posB (p : Bdd → Bool) (l : List Bdd) : Int := match l.findIdx? p with
  | some i => (i : Int)
  | none => -1

theorem posB_hit {p : Bdd → Bool} {l : List Bdd} {i : Nat} (hi : i < l.length) (h : p l[i] = true) (hn : ∀ j, (hj : j < i) → p (l[j]'(Nat.lt_trans hj hi)) = false) : posB p l = (i : Int) := by
  have e : l.findIdx? p = some i := by
    rw [List.findIdx?_eq_some_iff_getElem]
    exact ⟨hi, h, fun j hj => by simp [hn j hj]⟩
  unfold posB
  rw [e]

theorem posB_miss {p : Bdd → Bool} {l : List Bdd} (hn : ∀ j, (hj : j < l.length) → p l[j] = false) : posB p l = -1 := by
  have e : l.findIdx? p = none := by
    rw [List.findIdx?_eq_none_iff]
    intro s hs
    obtain ⟨j, hj, rfl⟩ := List.getElem_of_mem hs
    exact hn j hj
  unfold posB
  rw [e]

theorem posB_place (f : Bdd → Int) (l : List Bdd) (x : Int) : posB (fun b => decide (f b = x)) l = placeB f l x := rfl

set_option maxRecDepth 100000 in
set_option maxHeartbeats 1000000 in
theorem lindexI (p : Bdd → Bool) (R : Nat → Prop) (ao : Option Addr) (c : Nat) (l : List Bdd) (hl : l.length ≤ 100) (bl bw : Nat) (w : World) (h : BdsAt R w (.slice ao l.length c) l)
    (hp : ∀ (b : Bdd) (W : World), Below w.heap.size w W → Calls Try.prog 39 #[Bv b, .pointer (some ⟨bl, 0, none⟩), .pointer (some ⟨bw, 0, none⟩)] W fun e w' => e = .returned (.bool (p b)) ∧ Below W.heap.size W w') :
    Calls Try.prog 37 #[.slice ao l.length c, lookI bl bw] w fun e w' => e = .returned (.int .i64 (posB p l)) ∧ Below w.heap.size w w' := by
  obtain ⟨ao', c', e0, hs⟩ := h
  simp only [Value.slice.injEq] at e0
  obtain ⟨rfl, _, rfl⟩ := e0
  have HS := Hid.intro hs
  have HP := Hid.intro hp
  clear hs hp
  obtain ⟨L, hL⟩ : ∃ L, L = l.length := ⟨_, rfl⟩
  have HL := Hid.intro hL
  obtain ⟨P, hP⟩ : ∃ P, P = posB p l := ⟨_, rfl⟩
  have HQ := Hid.intro hP
  rw [← hL] at hl ⊢
  rw [← hP]
  clear hL hP
  go_enter Try.func37, Try.ntmps37
  go_wp2_with fail
  go_loopw [8] (fun i ws => ∃ t : Nat, t ≤ L ∧ i = .int .i64 t ∧ Below w.heap.size w ws ∧ ∀ j, (hj : j < l.length) → j < t → p l[j] = false) (fun i _ => L - (intOf i).toNat)
  case atStart => exact ⟨0, by omega, rfl, Below.refl _ w, fun j _ hj => absurd hj (Nat.not_lt_zero _)⟩
  case round =>
    obtain ⟨t, ht, rfl, hB, hno⟩ := hrel
    have HNO := Hid.intro hno
    have BH := Hid.intro hB
    clear hno
    by_cases hlt : t < L
    · have hlt' : t < l.length := by rw [← HL.out]; exact hlt
      obtain ⟨pb, off, rfl, _, hc⟩ := HS.out (by omega)
      obtain ⟨q0, q1, q2, q3, q4, q5⟩ := hc t hlt'
      have c0 := cell_chg (below_chg hB) q0 id
      have c1 := cell_chg (below_chg hB) q1 id
      have c2 := cell_chg (below_chg hB) q2 id
      have c3 := cell_chg (below_chg hB) q3 id
      have c4 := cell_chg (below_chg hB) q4 id
      have c5 := cell_chg (below_chg hB) q5 id
      have CL := Hid.intro (HP.out l[t] wr hB)
      have HIT := Hid.intro (fun (e : p l[t] = true) => posB_hit hlt' e (fun j hj => HNO.out j (by omega) hj))
      have t1 : (t : Int) < (L : Int) := by omega
      have t0 : (0 : Int) ≤ (t : Int) := by omega
      have NX : Hid (p l[t] = false → ∀ j, (hj : j < l.length) → j < t + 1 → p l[j] = false) := fun e j hj h => by
        by_cases q : j < t
        · exact HNO.out j hj q
        · obtain rfl : j = t := by omega
          exact e
      generalize l[t] = s at CL HIT NX c0 c1 c2 c3 c4 c5
      clear q0 q1 q2 q3 q4 q5 hc hB HNO hlt'
      cases e : p s with
      | true =>
        rw [e] at CL
        have HPE : Hid (P = (t : Int)) := by rw [Hid, HQ.out]; exact HIT.out e
        clear HIT e NX
        go_wp2_with fail
        refine CL.out.mono ?_
        rintro e w3 ⟨rfl, B3⟩
        have B3w := Hid.intro (BH.out.trans (B3.mono BH.out.size))
        clear CL B3 BH c0 c1 c2 c3 c4 c5
        go_wp2
        go_ret
        exact ⟨by rw [HPE.out]; rfl, B3w.out⟩
      | false =>
        rw [e] at CL
        have NXT := Hid.intro (NX.out e)
        clear HIT e NX
        go_wp2_with fail
        refine CL.out.mono ?_
        rintro e w3 ⟨rfl, B3⟩
        have B3w := Hid.intro (BH.out.trans (B3.mono BH.out.size))
        clear CL B3 BH c0 c1 c2 c3 c4 c5
        go_wp2
        go_roundw
        case rel => exact ⟨t + 1, by omega, by go_num, B3w.out, NXT.out⟩
        case measure => simp [intOf]; omega
    · obtain rfl : t = L := by omega
      have k1 : ¬ (t : Int) < (t : Int) := by omega
      have HPE : Hid (P = -1) := by
        rw [Hid, HQ.out]
        exact posB_miss (fun j hj => HNO.out j hj (by rw [HL.out]; exact hj))
      clear HNO hB
      go_wp2
      go_ret
      exact ⟨by rw [HPE.out]; rfl, BH.out⟩

set_option maxRecDepth 100000 in
set_option maxHeartbeats 1000000 in
theorem lindexB (p : Bdd → Bool) (R : Nat → Prop) (ao : Option Addr) (c : Nat) (l : List Bdd) (hl : l.length ≤ 100) (bl bw : Nat) (w : World) (h : BdsAt R w (.slice ao l.length c) l)
    (hp : ∀ (b : Bdd) (W : World), Below w.heap.size w W → Calls Try.prog 38 #[Bv b, .pointer (some ⟨bl, 0, none⟩), .pointer (some ⟨bw, 0, none⟩)] W fun e w' => e = .returned (.bool (p b)) ∧ Below W.heap.size W w') :
    Calls Try.prog 37 #[.slice ao l.length c, lookB bl bw] w fun e w' => e = .returned (.int .i64 (posB p l)) ∧ Below w.heap.size w w' := by
  obtain ⟨ao', c', e0, hs⟩ := h
  simp only [Value.slice.injEq] at e0
  obtain ⟨rfl, _, rfl⟩ := e0
  have HS := Hid.intro hs
  have HP := Hid.intro hp
  clear hs hp
  obtain ⟨L, hL⟩ : ∃ L, L = l.length := ⟨_, rfl⟩
  have HL := Hid.intro hL
  obtain ⟨P, hP⟩ : ∃ P, P = posB p l := ⟨_, rfl⟩
  have HQ := Hid.intro hP
  rw [← hL] at hl ⊢
  rw [← hP]
  clear hL hP
  go_enter Try.func37, Try.ntmps37
  go_wp2_with fail
  go_loopw [8] (fun i ws => ∃ t : Nat, t ≤ L ∧ i = .int .i64 t ∧ Below w.heap.size w ws ∧ ∀ j, (hj : j < l.length) → j < t → p l[j] = false) (fun i _ => L - (intOf i).toNat)
  case atStart => exact ⟨0, by omega, rfl, Below.refl _ w, fun j _ hj => absurd hj (Nat.not_lt_zero _)⟩
  case round =>
    obtain ⟨t, ht, rfl, hB, hno⟩ := hrel
    have HNO := Hid.intro hno
    have BH := Hid.intro hB
    clear hno
    by_cases hlt : t < L
    · have hlt' : t < l.length := by rw [← HL.out]; exact hlt
      obtain ⟨pb, off, rfl, _, hc⟩ := HS.out (by omega)
      obtain ⟨q0, q1, q2, q3, q4, q5⟩ := hc t hlt'
      have c0 := cell_chg (below_chg hB) q0 id
      have c1 := cell_chg (below_chg hB) q1 id
      have c2 := cell_chg (below_chg hB) q2 id
      have c3 := cell_chg (below_chg hB) q3 id
      have c4 := cell_chg (below_chg hB) q4 id
      have c5 := cell_chg (below_chg hB) q5 id
      have CL := Hid.intro (HP.out l[t] wr hB)
      have HIT := Hid.intro (fun (e : p l[t] = true) => posB_hit hlt' e (fun j hj => HNO.out j (by omega) hj))
      have t1 : (t : Int) < (L : Int) := by omega
      have t0 : (0 : Int) ≤ (t : Int) := by omega
      have NX : Hid (p l[t] = false → ∀ j, (hj : j < l.length) → j < t + 1 → p l[j] = false) := fun e j hj h => by
        by_cases q : j < t
        · exact HNO.out j hj q
        · obtain rfl : j = t := by omega
          exact e
      generalize l[t] = s at CL HIT NX c0 c1 c2 c3 c4 c5
      clear q0 q1 q2 q3 q4 q5 hc hB HNO hlt'
      cases e : p s with
      | true =>
        rw [e] at CL
        have HPE : Hid (P = (t : Int)) := by rw [Hid, HQ.out]; exact HIT.out e
        clear HIT e NX
        go_wp2_with fail
        refine CL.out.mono ?_
        rintro e w3 ⟨rfl, B3⟩
        have B3w := Hid.intro (BH.out.trans (B3.mono BH.out.size))
        clear CL B3 BH c0 c1 c2 c3 c4 c5
        go_wp2
        go_ret
        exact ⟨by rw [HPE.out]; rfl, B3w.out⟩
      | false =>
        rw [e] at CL
        have NXT := Hid.intro (NX.out e)
        clear HIT e NX
        go_wp2_with fail
        refine CL.out.mono ?_
        rintro e w3 ⟨rfl, B3⟩
        have B3w := Hid.intro (BH.out.trans (B3.mono BH.out.size))
        clear CL B3 BH c0 c1 c2 c3 c4 c5
        go_wp2
        go_roundw
        case rel => exact ⟨t + 1, by omega, by go_num, B3w.out, NXT.out⟩
        case measure => simp [intOf]; omega
    · obtain rfl : t = L := by omega
      have k1 : ¬ (t : Int) < (t : Int) := by omega
      have HPE : Hid (P = -1) := by
        rw [Hid, HQ.out]
        exact posB_miss (fun j hj => HNO.out j hj (by rw [HL.out]; exact hj))
      clear HNO hB
      go_wp2
      go_ret
      exact ⟨by rw [HPE.out]; rfl, BH.out⟩

set_option maxRecDepth 100000 in
set_option maxHeartbeats 1000000 in
theorem placeId (R : Nat → Prop) (ao : Option Addr) (c : Nat) (l : List Bdd) (hl : l.length ≤ 100) (x : Int) (w : World) (h : BdsAt R w (.slice ao l.length c) l) :
    Calls Try.prog 32 #[.slice ao l.length c, .func (.func 33) #[] #[], .int .i64 x] w fun e w' => e = .returned (.int .i64 (posB (fun b => decide (b.bid = x)) l)) ∧ Below w.heap.size w w' := by
  have O1 : Below w.heap.size w (w.alloc (.cells #[.func (.func 33) #[] #[]] 28)) := (Below.refl _ w).alloc (Nat.le_refl _) _
  have hn := heap_alloc_new w (.cells #[.func (.func 33) #[] #[]] 28)
  obtain ⟨A, hA⟩ : ∃ A, A = w.alloc (.cells #[.func (.func 33) #[] #[]] 28) := ⟨_, rfl⟩
  have sA : A.heap.size = w.heap.size + 1 := by rw [hA]; unfold World.alloc; exact Array.size_push _
  rw [← hA] at O1 hn
  have O2 : Below A.heap.size A (A.alloc (.cells #[.int .i64 x] 3)) := (Below.refl _ A).alloc (Nat.le_refl _) _
  have hm := heap_alloc_new A (.cells #[.int .i64 x] 3)
  have hn2 := (O2.block _ (lt_of_heap hn)).trans hn
  obtain ⟨D, hD⟩ : ∃ D, D = A.alloc (.cells #[.int .i64 x] 3) := ⟨_, rfl⟩
  rw [← hD] at O2 hm hn2
  have k1 : D.cell? ⟨w.heap.size, 0, none⟩ = some (.func (.func 33) #[] #[]) := by rw [cell_of_row _ _ 0 _ _ _ hn2]; rfl
  have k2 : D.cell? ⟨w.heap.size + 1, 0, none⟩ = some (.int .i64 x) := by rw [← sA, cell_of_row _ _ 0 _ _ _ hm]; rfl
  have OD := Hid.intro (O1.trans (O2.mono O1.size))
  have IX := Hid.intro (lindexI (fun b => decide (b.bid = x)) R ao c l hl w.heap.size (w.heap.size + 1) D (h.below OD.out) (fun b W hW => lookId b x w.heap.size (w.heap.size + 1) W (cellU hW k1) (cellU hW k2)))
  rw [hD, hA] at IX OD
  clear O1 hn hA sA O2 hm hn2 hD k1 k2 h D A
  generalize l.length = L at *
  generalize posB (fun b => decide (b.bid = x)) l = Z at *
  go_enter Try.func32, Try.ntmps32
  go_wp2_with fail
  refine IX.out.mono ?_
  rintro e w3 ⟨rfl, B3⟩
  have B3w := Hid.intro (OD.out.trans (B3.mono OD.out.size))
  clear IX B3 OD
  go_wp2
  go_ret
  exact ⟨rfl, B3w.out⟩

set_option maxRecDepth 100000 in
set_option maxHeartbeats 1000000 in
theorem placeTx (R : Nat → Prop) (ao : Option Addr) (c : Nat) (l : List Bdd) (hl : l.length ≤ 100) (x : Int) (w : World) (h : BdsAt R w (.slice ao l.length c) l) :
    Calls Try.prog 32 #[.slice ao l.length c, .func (.func 34) #[] #[], .int .i64 x] w fun e w' => e = .returned (.int .i64 (posB (fun b => decide (b.tx = x)) l)) ∧ Below w.heap.size w w' := by
  have O1 : Below w.heap.size w (w.alloc (.cells #[.func (.func 34) #[] #[]] 28)) := (Below.refl _ w).alloc (Nat.le_refl _) _
  have hn := heap_alloc_new w (.cells #[.func (.func 34) #[] #[]] 28)
  obtain ⟨A, hA⟩ : ∃ A, A = w.alloc (.cells #[.func (.func 34) #[] #[]] 28) := ⟨_, rfl⟩
  have sA : A.heap.size = w.heap.size + 1 := by rw [hA]; unfold World.alloc; exact Array.size_push _
  rw [← hA] at O1 hn
  have O2 : Below A.heap.size A (A.alloc (.cells #[.int .i64 x] 3)) := (Below.refl _ A).alloc (Nat.le_refl _) _
  have hm := heap_alloc_new A (.cells #[.int .i64 x] 3)
  have hn2 := (O2.block _ (lt_of_heap hn)).trans hn
  obtain ⟨D, hD⟩ : ∃ D, D = A.alloc (.cells #[.int .i64 x] 3) := ⟨_, rfl⟩
  rw [← hD] at O2 hm hn2
  have k1 : D.cell? ⟨w.heap.size, 0, none⟩ = some (.func (.func 34) #[] #[]) := by rw [cell_of_row _ _ 0 _ _ _ hn2]; rfl
  have k2 : D.cell? ⟨w.heap.size + 1, 0, none⟩ = some (.int .i64 x) := by rw [← sA, cell_of_row _ _ 0 _ _ _ hm]; rfl
  have OD := Hid.intro (O1.trans (O2.mono O1.size))
  have IX := Hid.intro (lindexI (fun b => decide (b.tx = x)) R ao c l hl w.heap.size (w.heap.size + 1) D (h.below OD.out) (fun b W hW => lookTx b x w.heap.size (w.heap.size + 1) W (cellU hW k1) (cellU hW k2)))
  rw [hD, hA] at IX OD
  clear O1 hn hA sA O2 hm hn2 hD k1 k2 h D A
  generalize l.length = L at *
  generalize posB (fun b => decide (b.tx = x)) l = Z at *
  go_enter Try.func32, Try.ntmps32
  go_wp2_with fail
  refine IX.out.mono ?_
  rintro e w3 ⟨rfl, B3⟩
  have B3w := Hid.intro (OD.out.trans (B3.mono OD.out.size))
  clear IX B3 OD
  go_wp2
  go_ret
  exact ⟨rfl, B3w.out⟩

set_option maxRecDepth 100000 in
set_option maxHeartbeats 1000000 in
theorem placeMay (R : Nat → Prop) (ao : Option Addr) (c : Nat) (l : List Bdd) (hl : l.length ≤ 100) (w : World) (h : BdsAt R w (.slice ao l.length c) l) :
    Calls Try.prog 29 #[.slice ao l.length c, .func (.func 11) #[] #[], .bool false] w fun e w' => e = .returned (.int .i64 (posB (fun b => !mayB b) l)) ∧ Below w.heap.size w w' := by
  have O1 : Below w.heap.size w (w.alloc (.cells #[.func (.func 11) #[] #[]] 25)) := (Below.refl _ w).alloc (Nat.le_refl _) _
  have hn := heap_alloc_new w (.cells #[.func (.func 11) #[] #[]] 25)
  obtain ⟨A, hA⟩ : ∃ A, A = w.alloc (.cells #[.func (.func 11) #[] #[]] 25) := ⟨_, rfl⟩
  have sA : A.heap.size = w.heap.size + 1 := by rw [hA]; unfold World.alloc; exact Array.size_push _
  rw [← hA] at O1 hn
  have O2 : Below A.heap.size A (A.alloc (.cells #[.bool false] 4)) := (Below.refl _ A).alloc (Nat.le_refl _) _
  have hm := heap_alloc_new A (.cells #[.bool false] 4)
  have hn2 := (O2.block _ (lt_of_heap hn)).trans hn
  obtain ⟨D, hD⟩ : ∃ D, D = A.alloc (.cells #[.bool false] 4) := ⟨_, rfl⟩
  rw [← hD] at O2 hm hn2
  have k1 : D.cell? ⟨w.heap.size, 0, none⟩ = some (.func (.func 11) #[] #[]) := by rw [cell_of_row _ _ 0 _ _ _ hn2]; rfl
  have k2 : D.cell? ⟨w.heap.size + 1, 0, none⟩ = some (.bool false) := by rw [← sA, cell_of_row _ _ 0 _ _ _ hm]; rfl
  have OD := Hid.intro (O1.trans (O2.mono O1.size))
  have IX := Hid.intro (lindexB (fun b => !mayB b) R ao c l hl w.heap.size (w.heap.size + 1) D (h.below OD.out) (fun b W hW => lookMay b w.heap.size (w.heap.size + 1) W (cellU hW k1) (cellU hW k2)))
  rw [hD, hA] at IX OD
  clear O1 hn hA sA O2 hm hn2 hD k1 k2 h D A
  generalize l.length = L at *
  generalize posB (fun b => !mayB b) l = Z at *
  go_enter Try.func29, Try.ntmps29
  go_wp2_with fail
  refine IX.out.mono ?_
  rintro e w3 ⟨rfl, B3⟩
  have B3w := Hid.intro (OD.out.trans (B3.mono OD.out.size))
  clear IX B3 OD
  go_wp2
  go_ret
  exact ⟨rfl, B3w.out⟩

theorem lfind_any (R : Nat → Prop) (v : Value) (l : List Bdd) (hl : l.length ≤ 100) (x : Int) (w : World) (h : BdsAt R w v l) :
    Calls Try.prog 18 #[v, .int .i64 x] w fun e w' => e = .returned (.int .i64 (placeB (·.bid) l x)) ∧ Below w.heap.size w w' := by
  obtain ⟨ao, c, rfl⟩ := h.len
  have A := Hid.intro (placeId R ao c l hl x w h)
  rw [← posB_place]
  generalize posB (fun b => decide (b.bid = x)) l = Z at *
  clear h
  generalize l.length = L at *
  go_enter Try.func18, Try.ntmps18
  go_wp2_with fail
  refine A.out.mono ?_
  rintro e w1 ⟨rfl, B1⟩
  clear A
  go_wp2
  go_ret
  exact ⟨rfl, B1⟩

theorem lowner_any (R : Nat → Prop) (v : Value) (l : List Bdd) (hl : l.length ≤ 100) (x : Int) (w : World) (h : BdsAt R w v l) :
    Calls Try.prog 20 #[v, .int .i64 x] w fun e w' => e = .returned (.int .i64 (placeB (·.tx) l x)) ∧ Below w.heap.size w w' := by
  obtain ⟨ao, c, rfl⟩ := h.len
  have A := Hid.intro (placeTx R ao c l hl x w h)
  rw [← posB_place]
  generalize posB (fun b => decide (b.tx = x)) l = Z at *
  clear h
  generalize l.length = L at *
  go_enter Try.func20, Try.ntmps20
  go_wp2_with fail
  refine A.out.mono ?_
  rintro e w1 ⟨rfl, B1⟩
  clear A
  go_wp2
  go_ret
  exact ⟨rfl, B1⟩

end Go.Proofs.Ythofgajchejdfaa
