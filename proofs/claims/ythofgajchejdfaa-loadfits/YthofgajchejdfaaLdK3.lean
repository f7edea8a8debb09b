/- Package load: Sum, isThere, hasTwice, Fits. -/
import Derived.Test.YthofgajchejdfaaLdK2
namespace Go.Proofs.Ythofgajchejdfaa
open Go.RowKit
open Bt

set_option maxRecDepth 100000 in
set_option maxHeartbeats 1000000 in
theorem lsum_any (R : Nat → Prop) (v : Value) (l : List Bdd) (hl : l.length ≤ 100) (w : World) (h : BdsAt R w v l) :
    Calls Try.prog 15 #[v] w fun e w' => e = .returned (.int .i64 (sumB l)) ∧ Below w.heap.size w w' := by
  obtain ⟨ao, c, rfl, hs⟩ := h
  have HS := Hid.intro hs
  clear hs
  obtain ⟨L, hL⟩ : ∃ L, L = l.length := ⟨_, rfl⟩
  have HL := Hid.intro hL
  obtain ⟨S, hS⟩ : ∃ S, S = sumB l := ⟨_, rfl⟩
  have HSU := Hid.intro hS
  rw [← hL] at hl ⊢
  rw [← hS]
  clear hL hS
  go_enter Try.func15, Try.ntmps15
  go_wp2_with fail
  go_loopw [3, 8] (fun nv iv ws => ∃ (k : Nat) (N : Nat), k ≤ L ∧ iv = .int .i64 k ∧ nv = .int .i64 N ∧ (N : Int) = sumB (l.take k) ∧ Below w.heap.size w ws) (fun _ iv _ => L - (intOf iv).toNat)
  case atStart => exact ⟨0, 0, by omega, rfl, rfl, by simp [sumB], Below.refl _ _⟩
  case round =>
    obtain ⟨k, N, hk, rfl, rfl, hN, hB⟩ := hrel
    have hNb : N ≤ 6000 * 100 := by
      have := (sumB_bounds (l.take k)).2
      have hle : (l.take k).length ≤ l.length := List.length_take_le' _ _
      rw [← HL.out] at hle
      omega
    have HN := Hid.intro hN
    have BH := Hid.intro hB
    clear hN
    by_cases hlt : k < L
    · have hlt' : k < l.length := by rw [← HL.out]; exact hlt
      have k0 : (0 : Int) ≤ (k : Int) := by omega
      have k1 : (k : Int) < (L : Int) := by omega
      obtain ⟨pb, off, rfl, _, hc⟩ := HS.out (by omega)
      obtain ⟨q0, q1, q2, q3, q4, q5⟩ := hc k hlt'
      have c0 := cellU hB q0
      have c1 := cellU hB q1
      have c2 := cellU hB q2
      have c3 := cellU hB q3
      have c4 := cellU hB q4
      have c5 := cellU hB q5
      have ST := Hid.intro (sumB_take l hlt')
      have OB := ofB_bounds l[k]
      clear q0 q1 q2 q3 q4 q5 hc hB
      generalize l[k] = bd at *
      obtain ⟨b0, b1, b2, b3, b4, b5⟩ := bd
      simp only at c0 c1 c2 c3 c4 c5
      have BA := (Below.refl _ wr).alloc (Nat.le_refl _) (.cells #[.int .i64 b0, .int .i64 b1, .int .i64 b2, .int .i64 b3, .int .i64 b4, .int .i64 b5] 27)
      have OF := Hid.intro (lof_in b0 b1 b2 b3 b4 b5 (wr.alloc (.cells #[.int .i64 b0, .int .i64 b1, .int .i64 b2, .int .i64 b3, .int .i64 b4, .int .i64 b5] 27)))
      have BAH := Hid.intro (BH.out.trans (BA.mono BH.out.size))
      obtain ⟨O, hO⟩ := Int.eq_ofNat_of_zero_le OB.1
      rw [hO] at OF ST OB
      have OB2 : O ≤ 6000 := by omega
      clear BA BH OB hO
      go_wp2_with fail
      refine OF.out.mono ?_
      rintro e w2 ⟨rfl, B2⟩
      have B2H := Hid.intro (BAH.out.trans (B2.mono BAH.out.size))
      clear OF B2 c0 c1 c2 c3 c4 c5 BAH
      go_wp2
      go_roundw
      case rel => exact ⟨k + 1, N + O, by omega, by go_num, by go_num, by rw [ST.out, ← HN.out]; push_cast; rfl, B2H.out⟩
      case measure => simp [intOf]; omega
    · obtain rfl : k = L := by omega
      have k1 : ¬ (k : Int) < (k : Int) := by omega
      have FN : Hid ((N : Int) = S) := by
        rw [Hid, HN.out, HSU.out, List.take_of_length_le (by rw [← HL.out]; exact Nat.le_refl _)]
      clear hB
      go_wp2
      go_ret
      exact ⟨by rw [← FN.out]; rfl, BH.out⟩

/-- Is a bed's Id or Tx among beds? -/
def thB (l : List Bdd) (b : Bdd) : Bool := decide (0 ≤ placeB (·.bid) l b.bid) || decide (0 ≤ placeB (·.tx) l b.tx)

theorem thB_iff {l : List Bdd} {b : Bdd} : thB l b = true ↔ (b.bid ∈ l.map (·.bid) ∨ b.tx ∈ l.map (·.tx)) := by
  have key : ∀ f : Bdd → Int, ∀ x, (0 ≤ placeB f l x) ↔ x ∈ l.map f := fun f x => by
    have h1 := placeB_none (f := f) (l := l) (x := x)
    have h2 := placeB_lt f l x
    constructor
    · intro q
      apply Classical.byContradiction
      intro r
      have := h1.2 r
      omega
    · intro q
      apply Classical.byContradiction
      intro r
      exact h1.1 (by omega) q
  unfold thB
  rw [Bool.or_eq_true, decide_eq_true_eq, decide_eq_true_eq, key, key]

set_option maxRecDepth 100000 in
set_option maxHeartbeats 1000000 in
theorem lthere_any (R : Nat → Prop) (v : Value) (l : List Bdd) (hl : l.length ≤ 100) (b : Bdd) (w : World) (h : BdsAt R w v l) :
    Calls Try.prog 35 #[v, Bv b] w fun e w' => e = .returned (.bool (thB l b)) ∧ Below w.heap.size w w' := by
  have pf := placeB_lt (·.bid) l b.bid
  have po := placeB_lt (·.tx) l b.tx
  have HT : thB l b = (decide (0 ≤ placeB (·.bid) l b.bid) || decide (0 ≤ placeB (·.tx) l b.tx)) := rfl
  rw [HT]
  clear HT
  have FI := fun (W : World) (hB : Below w.heap.size w W) => lfind_any R v l hl b.bid W (h.below hB)
  have OW := fun (W : World) (hB : Below w.heap.size w W) => lowner_any R v l hl b.tx W (h.below hB)
  obtain ⟨ao, c, rfl⟩ := h.len
  generalize placeB (·.bid) l b.bid = F at *
  generalize placeB (·.tx) l b.tx = O at *
  have FIH := Hid.intro FI
  have OWH := Hid.intro OW
  clear FI OW h
  generalize l.length = L at *
  obtain ⟨b0, b1, b2, b3, b4, b5⟩ := b
  simp only at FIH OWH
  have B0 := (Below.refl _ w).alloc (Nat.le_refl _) (.cells #[.int .i64 b0, .int .i64 b1, .int .i64 b2, .int .i64 b3, .int .i64 b4, .int .i64 b5] 27)
  have nb := heap_alloc_new w (.cells #[.int .i64 b0, .int .i64 b1, .int .i64 b2, .int .i64 b3, .int .i64 b4, .int .i64 b5] 27)
  have BH := Hid.intro B0
  have NH := Hid.intro nb
  have C1 := Hid.intro (FIH.out _ B0)
  clear B0 nb FIH
  by_cases hF : 0 ≤ F
  · rw [decide_eq_true hF, Bool.true_or]
    go_enter Try.func35, Try.ntmps35
    go_wp2_with fail
    refine C1.out.mono ?_
    rintro e w2 ⟨rfl, B2⟩
    have B2H := Hid.intro (BH.out.trans (B2.mono BH.out.size))
    clear C1 B2 BH NH
    go_wp2
    go_ret
    exact ⟨rfl, B2H.out⟩
  · rw [decide_eq_false hF, Bool.false_or]
    go_enter Try.func35, Try.ntmps35
    go_wp2_with fail
    refine C1.out.mono ?_
    rintro e w2 ⟨rfl, B2⟩
    have n2 := (B2.block _ (lt_of_heap NH.out)).trans NH.out
    have c1 : w2.cell? ⟨w.heap.size, 1, none⟩ = some (.int .i64 b1) := by rw [cell_of_row _ _ 1 _ _ _ n2]; rfl
    have B2H := Hid.intro (BH.out.trans (B2.mono BH.out.size))
    clear C1 B2 BH NH n2
    go_wp2_with fail
    refine (OWH.out _ B2H.out).mono ?_
    rintro e w3 ⟨rfl, B3⟩
    have B3H := Hid.intro (B2H.out.trans (B3.mono B2H.out.size))
    clear OWH B3 B2H c1
    go_wp2
    go_ret
    exact ⟨by simp; omega, B3H.out⟩

/-- The first of them, as a list of its own. -/
theorem BdsAt.take {R : Nat → Prop} {w : World} {ao : Option Addr} {n c : Nat} {l : List Bdd} (h : BdsAt R w (.slice ao n c) l) {k : Nat} (hk : k ≤ l.length) : BdsAt R w (.slice ao k c) (l.take k) := by
  obtain ⟨ao', cap, e, hp⟩ := h
  simp only [Value.slice.injEq] at e
  obtain ⟨rfl, _, rfl⟩ := e
  have hl : (l.take k).length = k := by rw [List.length_take]; omega
  refine ⟨_, _, by rw [hl], fun h0 => ?_⟩
  rw [hl] at h0
  obtain ⟨pb, off, ha, hb, hq⟩ := hp (by omega)
  refine ⟨pb, off, ha, hb, fun t ht => ?_⟩
  rw [hl] at ht
  rw [List.getElem_take]
  exact hq t (by omega)

/-- The others, as a list of their own. -/
theorem BdsAt.drop {R : Nat → Prop} {w : World} {pb off : Nat} {n c c' : Nat} {l : List Bdd} (h : BdsAt R w (.slice (some ⟨pb, off, none⟩) n c) l) {k m : Nat} (hm : m + k = l.length) : BdsAt R w (.slice (some ⟨pb, off + k * 6, none⟩) m c') (l.drop k) := by
  obtain ⟨ao', cap, e, hp⟩ := h
  simp only [Value.slice.injEq] at e
  obtain ⟨rfl, _, rfl⟩ := e
  have hl : (l.drop k).length = m := by rw [List.length_drop]; omega
  refine ⟨_, _, by rw [hl], fun h0 => ?_⟩
  rw [hl] at h0
  obtain ⟨pb', off', ha, hb, hq⟩ := hp (by omega)
  simp only [Option.some.injEq, Addr.mk.injEq, and_true] at ha
  obtain ⟨rfl, rfl⟩ := ha
  refine ⟨pb, _, rfl, hb, fun t ht => ?_⟩
  rw [hl] at ht
  rw [List.getElem_drop, show off + k * 6 + t * 6 = off + (k + t) * 6 by omega]
  exact hq (k + t) (by omega)

/-- No Id and no Tx twice. -/
def ndB (l : List Bdd) : Bool := decide ((l.map (·.bid)).Nodup ∧ (l.map (·.tx)).Nodup)

theorem ndB_nil : ndB [] = true := by simp [ndB]

theorem take_succB {l : List Bdd} {k : Nat} (hk : k < l.length) : l.take (k + 1) = l.take k ++ [l[k]] := by
  rw [List.take_add_one, List.getElem?_eq_getElem hk]
  rfl

theorem ndB_step {l : List Bdd} {k : Nat} (hk : k < l.length) (h : ndB (l.take k) = true) (ht : thB (l.take k) l[k] = false) : ndB (l.take (k + 1)) = true := by
  unfold ndB at *
  rw [decide_eq_true_eq] at *
  have q : ¬ (l[k].bid ∈ (l.take k).map (·.bid) ∨ l[k].tx ∈ (l.take k).map (·.tx)) := fun r => by
    rw [thB_iff.2 r] at ht
    cases ht
  rw [take_succB hk, List.map_append, List.map_append]
  exact ⟨nodup_snoc.2 ⟨h.1, fun r => q (.inl r)⟩, nodup_snoc.2 ⟨h.2, fun r => q (.inr r)⟩⟩

theorem ndB_no {l : List Bdd} {k : Nat} (hk : k < l.length) (ht : thB (l.take k) l[k] = true) : ndB l = false := by
  unfold ndB
  rw [decide_eq_false_iff_not]
  rintro ⟨h1, h2⟩
  have hs : (l.take (k + 1)).Sublist l := List.take_sublist _ _
  have g1 := (hs.map (·.bid)).nodup h1
  have g2 := (hs.map (·.tx)).nodup h2
  rw [take_succB hk, List.map_append] at g1 g2
  rcases thB_iff.1 ht with q | q
  · exact (nodup_snoc.1 g1).2 q
  · exact (nodup_snoc.1 g2).2 q

set_option maxRecDepth 100000 in
set_option maxHeartbeats 1000000 in
theorem ltwice_any (R : Nat → Prop) (ao : Option Addr) (c : Nat) (l : List Bdd) (hl : l.length ≤ 100) (hr : l.length ≤ c) (w : World) (h : BdsAt R w (.slice ao l.length c) l) :
    Calls Try.prog 30 #[.slice ao l.length c] w fun e w' => e = .returned (.bool (!ndB l)) ∧ Below w.heap.size w w' := by
  have HB := Hid.intro h
  obtain ⟨ao', c', e0, hs⟩ := h
  simp only [Value.slice.injEq] at e0
  obtain ⟨rfl, _, rfl⟩ := e0
  have HS := Hid.intro hs
  clear hs
  obtain ⟨L, hL⟩ : ∃ L, L = l.length := ⟨_, rfl⟩
  have HL := Hid.intro hL
  obtain ⟨P, hP⟩ : ∃ P, P = !ndB l := ⟨_, rfl⟩
  have HP := Hid.intro hP
  rw [← hL] at hl hr ⊢
  rw [← hP]
  clear hL hP
  go_enter Try.func30, Try.ntmps30
  go_wp2_with fail
  go_loopw [7] (fun i ws => ∃ k : Nat, k ≤ L ∧ i = .int .i64 k ∧ ndB (l.take k) = true ∧ Below w.heap.size w ws) (fun i _ => L - (intOf i).toNat)
  case atStart => exact ⟨0, by omega, rfl, by rw [List.take_zero]; exact ndB_nil, Below.refl _ w⟩
  case round =>
    obtain ⟨k, hk, rfl, hno, hB⟩ := hrel
    have HNO := Hid.intro hno
    have BH := Hid.intro hB
    clear hno
    by_cases hlt : k < L
    · have hlt' : k < l.length := by rw [← HL.out]; exact hlt
      have TH := Hid.intro (fun (W : World) (hW : Below w.heap.size w W) => lthere_any R (.slice ao k c) (l.take k) (by rw [List.length_take]; omega) l[k] W ((HB.out.below hW).take (by omega)))
      have YES := Hid.intro (fun (e : thB (l.take k) l[k] = true) => ndB_no hlt' e)
      have NO := Hid.intro (fun (e : thB (l.take k) l[k] = false) => ndB_step hlt' HNO.out e)
      obtain ⟨pb, off, rfl, _, hc⟩ := HS.out (by omega)
      obtain ⟨q0, q1, q2, q3, q4, q5⟩ := hc k hlt'
      have c0 := cellU hB q0
      have c1 := cellU hB q1
      have c2 := cellU hB q2
      have c3 := cellU hB q3
      have c4 := cellU hB q4
      have c5 := cellU hB q5
      have k0 : (0 : Int) ≤ (k : Int) := by omega
      have k1 : (k : Int) < (L : Int) := by omega
      have k2 : (k : Int) ≤ (c : Int) := by omega
      have k3 : k ≤ c := by omega
      clear q0 q1 q2 q3 q4 q5 hc hB
      generalize thB (l.take k) l[k] = T at *
      generalize l[k] = bd at *
      obtain ⟨b0, b1, b2, b3, b4, b5⟩ := bd
      simp only at c0 c1 c2 c3 c4 c5
      have BA := (Below.refl _ wr).alloc (Nat.le_refl _) (.cells #[.int .i64 b0, .int .i64 b1, .int .i64 b2, .int .i64 b3, .int .i64 b4, .int .i64 b5] 27)
      have nb := heap_alloc_new wr (.cells #[.int .i64 b0, .int .i64 b1, .int .i64 b2, .int .i64 b3, .int .i64 b4, .int .i64 b5] 27)
      have BW := Hid.intro (BH.out.trans (BA.mono BH.out.size))
      obtain ⟨A, hA⟩ : ∃ A, A = wr.alloc (.cells #[.int .i64 b0, .int .i64 b1, .int .i64 b2, .int .i64 b3, .int .i64 b4, .int .i64 b5] 27) := ⟨_, rfl⟩
      have HA := Hid.intro hA
      rw [← hA] at BA nb BW
      have d0 : A.cell? ⟨wr.heap.size, 0, none⟩ = some (.int .i64 b0) := by rw [cell_of_row _ _ 0 _ _ _ nb]; rfl
      have d1 : A.cell? ⟨wr.heap.size, 1, none⟩ = some (.int .i64 b1) := by rw [cell_of_row _ _ 1 _ _ _ nb]; rfl
      have d2 : A.cell? ⟨wr.heap.size, 2, none⟩ = some (.int .i64 b2) := by rw [cell_of_row _ _ 2 _ _ _ nb]; rfl
      have d3 : A.cell? ⟨wr.heap.size, 3, none⟩ = some (.int .i64 b3) := by rw [cell_of_row _ _ 3 _ _ _ nb]; rfl
      have d4 : A.cell? ⟨wr.heap.size, 4, none⟩ = some (.int .i64 b4) := by rw [cell_of_row _ _ 4 _ _ _ nb]; rfl
      have d5 : A.cell? ⟨wr.heap.size, 5, none⟩ = some (.int .i64 b5) := by rw [cell_of_row _ _ 5 _ _ _ nb]; rfl
      have KK : Hid (∀ W, Below A.heap.size A W → W.cell? ⟨wr.heap.size, 0, none⟩ = some (.int .i64 b0) ∧ W.cell? ⟨wr.heap.size, 1, none⟩ = some (.int .i64 b1) ∧ W.cell? ⟨wr.heap.size, 2, none⟩ = some (.int .i64 b2) ∧ W.cell? ⟨wr.heap.size, 3, none⟩ = some (.int .i64 b3) ∧ W.cell? ⟨wr.heap.size, 4, none⟩ = some (.int .i64 b4) ∧ W.cell? ⟨wr.heap.size, 5, none⟩ = some (.int .i64 b5)) := fun W h => ⟨cellU h d0, cellU h d1, cellU h d2, cellU h d3, cellU h d4, cellU h d5⟩
      have CX := Hid.intro (TH.out A.drew ⟨BW.out.os, BW.out.tape, BW.out.output, BW.out.size, BW.out.block⟩)
      clear nb BA hA TH BH HS HB
      cases T with
      | true =>
        have e : P = true := by rw [HP.out, YES.out rfl]; rfl
        subst e
        clear YES NO HP HNO
        go_wp2_with fail
        rw [← HA.out]
        go_region_held3 (fun W => W.cell? ⟨wr.heap.size, 0, none⟩ = some (.int .i64 b0) ∧ W.cell? ⟨wr.heap.size, 1, none⟩ = some (.int .i64 b1) ∧ W.cell? ⟨wr.heap.size, 2, none⟩ = some (.int .i64 b2) ∧ W.cell? ⟨wr.heap.size, 3, none⟩ = some (.int .i64 b3) ∧ W.cell? ⟨wr.heap.size, 4, none⟩ = some (.int .i64 b4) ∧ W.cell? ⟨wr.heap.size, 5, none⟩ = some (.int .i64 b5))
          (first | exact KK.out _ E1 | go_keep)
          (first
            | (go_at_call 35; refine CX.out.mono ?_; rintro e w1 ⟨rfl, B1⟩; have E1 : Below A.heap.size A w1 := undrewL B1; clear B1)
            | fail)
        all_goals
          go_wp2
          go_ret
          exact ⟨rfl, BW.out.trans (E1.mono BW.out.size)⟩
      | false =>
        have NX := Hid.intro (NO.out rfl)
        clear YES NO HNO
        go_wp2_with fail
        rw [← HA.out]
        go_region_held3 (fun W => W.cell? ⟨wr.heap.size, 0, none⟩ = some (.int .i64 b0) ∧ W.cell? ⟨wr.heap.size, 1, none⟩ = some (.int .i64 b1) ∧ W.cell? ⟨wr.heap.size, 2, none⟩ = some (.int .i64 b2) ∧ W.cell? ⟨wr.heap.size, 3, none⟩ = some (.int .i64 b3) ∧ W.cell? ⟨wr.heap.size, 4, none⟩ = some (.int .i64 b4) ∧ W.cell? ⟨wr.heap.size, 5, none⟩ = some (.int .i64 b5))
          (first | exact KK.out _ E1 | go_keep)
          (first
            | (go_at_call 35; refine CX.out.mono ?_; rintro e w1 ⟨rfl, B1⟩; have E1 : Below A.heap.size A w1 := undrewL B1; clear B1)
            | fail)
        all_goals
          go_wp2
          go_roundw
          case rel => exact ⟨k + 1, by omega, by go_num, NX.out, BW.out.trans (E1.mono BW.out.size)⟩
          case measure => simp [intOf]; omega
    · obtain rfl : k = L := by omega
      have k1 : ¬ (k : Int) < (k : Int) := by omega
      have e : P = false := by
        have q := HNO.out
        rw [List.take_of_length_le (by rw [← HL.out]; exact Nat.le_refl _)] at q
        rw [HP.out, q]
        rfl
      subst e
      clear hB HNO
      go_wp2
      go_ret
      exact ⟨rfl, BH.out⟩

theorem posB_may (l : List Bdd) : (posB (fun b => !mayB b) l < 0) ↔ ∀ b ∈ l, mayB b = true := by
  unfold posB
  cases e : l.findIdx? (fun b => !mayB b) with
  | none =>
    rw [List.findIdx?_eq_none_iff] at e
    exact ⟨fun _ b hb => by simpa using e b hb, fun _ => (by decide : (-1 : Int) < 0)⟩
  | some i =>
    rw [List.findIdx?_eq_some_iff_getElem] at e
    obtain ⟨hi, h1, _⟩ := e
    constructor
    · intro q
      exact absurd q (by simp only; omega)
    · intro q
      have := q l[i] (List.getElem_mem hi)
      simp [this] at h1

theorem fitsB_four (l : List Bdd) (cap : Int) : fitsB l cap = (decide ((l.length : Int) ≤ 8) && (decide (posB (fun b => !mayB b) l < 0) && (!(!ndB l) && decide (sumB l ≤ cap * 60)))) := by
  rw [Bool.eq_iff_iff, fitsB_iff]
  simp only [Bool.and_eq_true, decide_eq_true_eq, posB_may, Bool.not_not, ndB]
  constructor
  · rintro ⟨h1, h2, h3, h4, h5⟩
    exact ⟨by omega, h2, ⟨h3, h4⟩, h5⟩
  · rintro ⟨h1, h2, ⟨h3, h4⟩, h5⟩
    exact ⟨by omega, h2, h3, h4, h5⟩

/-- A slice has room for what it holds. -/
def RoomV (v : Value) : Prop := ∀ a n c, v = .slice a n c → n ≤ c

theorem roomV {a : Option Addr} {n c : Nat} (h : n ≤ c) : RoomV (.slice a n c) := fun _ _ _ e => by
  simp only [Value.slice.injEq] at e
  obtain ⟨_, rfl, rfl⟩ := e
  exact h

set_option maxRecDepth 100000 in
set_option maxHeartbeats 1000000 in
theorem lfits_in (R : Nat → Prop) (v : Value) (l : List Bdd) (hl : l.length ≤ 100) (cap : Int) (w : World) (h : BdsAt R w v l) (hv : RoomV v) :
    Calls Try.prog 16 #[v, .int .i64 cap] w fun e w' => e = .returned (.bool (fitsB l cap)) ∧ Below w.heap.size w w' := by
  obtain ⟨ao, c, rfl⟩ := h.len
  have hr := hv _ _ _ rfl
  rw [fitsB_four]
  have sb := sumB_bounds l
  have M := Hid.intro (placeMay R ao c l hl w h)
  have T := Hid.intro (fun (W : World) (hB : Below w.heap.size w W) => ltwice_any R ao c l hl hr W (h.below hB))
  have S := Hid.intro (fun (W : World) (hB : Below w.heap.size w W) => lsum_any R _ l hl W (h.below hB))
  have K := Hid.intro (fun (W : World) => ltakes_any cap (sumB l) (by omega) W)
  generalize decide (sumB l ≤ cap * 60) = d at *
  generalize sumB l = Z at *
  generalize (!ndB l) = tw at *
  generalize posB (fun b => !mayB b) l = pz at *
  clear h hv sb
  generalize l.length = L at *
  by_cases h1 : (L : Int) ≤ 8
  case neg =>
    rw [decide_eq_false h1, Bool.false_and]
    go_enter Try.func16, Try.ntmps16
    go_wp2
    go_ret
    exact ⟨rfl, Below.refl _ _⟩
  rw [decide_eq_true h1, Bool.true_and]
  by_cases h2 : pz < 0
  case neg =>
    rw [decide_eq_false h2, Bool.false_and]
    go_enter Try.func16, Try.ntmps16
    go_wp2_with fail
    refine M.out.mono ?_
    rintro e w1 ⟨rfl, B1⟩
    have B1H := Hid.intro B1
    clear M B1
    go_wp2
    go_ret
    exact ⟨rfl, B1H.out⟩
  rw [decide_eq_true h2, Bool.true_and]
  cases tw with
  | true =>
    rw [Bool.not_true, Bool.false_and]
    go_enter Try.func16, Try.ntmps16
    go_wp2_with fail
    refine M.out.mono ?_
    rintro e w1 ⟨rfl, B1⟩
    have B1H := Hid.intro B1
    clear M B1
    go_wp2_with fail
    refine (T.out _ B1H.out).mono ?_
    rintro e w2 ⟨rfl, B2⟩
    have B2H := Hid.intro (B1H.out.trans (B2.mono B1H.out.size))
    clear T B2
    go_wp2
    go_ret
    exact ⟨rfl, B2H.out⟩
  | false =>
    rw [Bool.not_false, Bool.true_and]
    go_enter Try.func16, Try.ntmps16
    go_wp2_with fail
    refine M.out.mono ?_
    rintro e w1 ⟨rfl, B1⟩
    have B1H := Hid.intro B1
    clear M B1
    go_wp2_with fail
    refine (T.out _ B1H.out).mono ?_
    rintro e w2 ⟨rfl, B2⟩
    have B2H := Hid.intro (B1H.out.trans (B2.mono B1H.out.size))
    clear T B2 B1H
    go_wp2_with fail
    refine (S.out _ B2H.out).mono ?_
    rintro e w3 ⟨rfl, B3⟩
    have B3H := Hid.intro (B2H.out.trans (B3.mono B2H.out.size))
    clear S B3 B2H
    go_wp2_with fail
    refine (K.out _).mono ?_
    rintro e w4 ⟨rfl, rfl⟩
    go_wp2
    go_ret
    exact ⟨rfl, B3H.out⟩

end Go.Proofs.Ythofgajchejdfaa
