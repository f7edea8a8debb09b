/- The document's own answer of layer 16: Raise. -/
import Derived.Test.YtbeeigfcchjdlaaPnR1
import Derived.Deep.RegionLaw
import Derived.StillTailTactics
namespace Go.Proofs.Ytbeeigfcchjdlaa
open Go.RowKit
open Pn

theorem alCR {w : World} {l : Al} {t : TypeId} {fr : Nat × Nat} {g : Nat} (h : w.heap[g]? = some (.cells #[.int .i64 l.bed, .int .i64 l.kind, .int .i64 l.since, .bool l.on, .bool l.acked] t fr)) : AlAt w g 0 l :=
  ⟨by rw [cell_of_row _ _ 0 _ _ _ h]; rfl, by rw [cell_of_row _ _ 1 _ _ _ h]; rfl, by rw [cell_of_row _ _ 2 _ _ _ h]; rfl, by rw [cell_of_row _ _ 3 _ _ _ h]; rfl, by rw [cell_of_row _ _ 4 _ _ _ h]; rfl⟩

set_option maxRecDepth 100000 in
set_option maxHeartbeats 4000000 in
theorem refRaise16_any (b : Nat) (bed kind now : Int) (S : Nat → Prop) (L : List Al) (u : Int) (w : World) (h : PR b L u S w) :
    Calls Try.prog 18 #[.pointer (some ⟨b, 0, none⟩), .int .i64 bed, .int .i64 kind, .int .i64 now] w fun e w' => e = .returned (.bool (raiseB L bed kind)) ∧ LeftG (PR b (raiseL L bed kind now) u) S w w' := by
  obtain ⟨v, h⟩ := h
  have ok := raise_ok h.ok bed kind now
  have HS := Hid.intro (fun (W : World) (hW : Below w.heap.size w W) => h.same hW)
  have mixed : Try.prog.follows Departure.mixedOrders = true := by kernel_rfl
  unfold raiseL at ok ⊢
  unfold raiseB at ok ⊢
  by_cases hk : kindA kind = true
  · rw [hk] at ok ⊢
    simp only [Bool.true_and] at ok ⊢
    obtain ⟨k1, k2⟩ := kindA_iff.1 hk
    have k3 : ¬ kind < 0 := by omega
    have k4 : ¬ 4 < kind := by omega
    have B0 := (Below.refl _ w).alloc (Nat.le_refl _) (.cells #[.int .i64 bed, .int .i64 kind, .int .i64 now, .bool true, .bool false] 42)
    have BA := Hid.intro B0
    have hf := h.ok.few
    have FI := Hid.intro (refFind16_any b bed kind v L u _ (h.below B0).rawR hf)
    have g0 := heap_alloc_new w (.cells #[.int .i64 bed, .int .i64 kind, .int .i64 now, .bool true, .bool false] 42)
    have sz0 : Hid (w.heap.size < (w.alloc (.cells #[.int .i64 bed, .int .i64 kind, .int .i64 now, .bool true, .bool false] 42)).heap.size) := by rw [Hid]; simp
    clear hk k1 k2
    rcases posA_ways (isA bed kind) L with ⟨p1, p2, p3⟩ | ⟨i, hi, p1, p2, p3, p4⟩
    · rw [p1] at FI
      rw [p2] at ok ⊢
      simp only [decide_eq_true_eq] at ok ⊢
      obtain ⟨ao, c, rfl, hz⟩ := ownsRow_form h.own
      have HA := Hid.intro (fun (W : World) (hW : Below w.heap.size w W) => (h.below hW).cells.1)
      by_cases h40 : L.length < 40
      · simp only [if_pos h40, decide_eq_true h40] at ok ⊢
        have n40 : ¬ (40 : Int) ≤ (L.length : Int) := by omega
        have EL := Hid.intro elem_al
        have OW := Hid.intro (fun (W : World) (hW : Below w.heap.size w W) => src_own (h.below hW).own)
        have DN : Hid (∀ (W : World), Below w.heap.size w W → ∀ (wb : World) (vb : Value), NewR 42 5 W.heap.size W (L.length + 1) (acells L ++ acells [⟨bed, kind, now, true, false⟩]) wb vb → (wb.cell? ⟨b, 0, none⟩ = some (.slice ao L.length c) ∧ wb.frozen? ⟨b, 0, none⟩ = false) ∧ LeftG (PR b (L ++ [⟨bed, kind, now, true, false⟩]) u) S w (wb.setCell ⟨b, 0, none⟩ vb)) := fun W hW wb vb hN => by
          rw [← acells_append] at hN
          obtain ⟨q1, q2⟩ := (h.below hW).laid hN (by simp) ok
          exact ⟨q1, left_fromA hW q2⟩
        have ONE := Hid.intro (acells_onecell L)
        have NL : Hid ((acells [(⟨bed, kind, now, true, false⟩ : Al)]).length = 1 * 5) := by rw [Hid, acells_length]; rfl
        clear h p1 p2 p3 hz ok h40 HS
        generalize L ++ [⟨bed, kind, now, true, false⟩] = L2 at *
        generalize acells L = xs at *
        generalize L.length = n at *
        go_enter Try.func18, Try.ntmps18
        go_wp2_with fail
        refine FI.out.mono ?_
        rintro e w1 ⟨rfl, hw1⟩
        rw [hw1] at B0 BA g0 sz0
        clear FI hw1
        have k0 := HA.out w1 B0
        have S1 := Hid.intro (fun (W : World) (hW : Below w1.heap.size w1 W) => OW.out W (BA.out.trans (hW.mono BA.out.size)))
        have HAL := Hid.intro (fun wb vb hN => DN.out w1 BA.out wb vb hN)
        have LA : Hid (∀ W, Below w1.heap.size w1 W → W.cell? ⟨w.heap.size, 0, none⟩ = some (.int .i64 bed) ∧ W.cell? ⟨w.heap.size, 1, none⟩ = some (.int .i64 kind) ∧ W.cell? ⟨w.heap.size, 2, none⟩ = some (.int .i64 now) ∧ W.cell? ⟨w.heap.size, 3, none⟩ = some (.bool true) ∧ W.cell? ⟨w.heap.size, 4, none⟩ = some (.bool false)) := fun W hW => by
          have q := alCR (l := ⟨bed, kind, now, true, false⟩) ((hW.block _ (lt_of_heap g0)).trans g0)
          simp only [AlAt, Nat.zero_add] at q
          exact q
        generalize hlb : w.heap.size = lb at *
        obtain ⟨c0, c1, c2, c3, c4⟩ := LA.out w1 (Below.refl _ _)
        have BE := bel_allocR (Below.refl w1.heap.size w1) (Nat.le_refl _) (.cells #[] 42)
        have BF := bel_allocR (Below.refl w1.heap.size w1) (Nat.le_refl _) (.cells #[.int .i64 bed, .int .i64 kind, .int .i64 now, .bool true, .bool false] 42)
        have BEF := bel_allocR BE (Nat.le_refl _) (.cells #[.int .i64 bed, .int .i64 kind, .int .i64 now, .bool true, .bool false] 42)
        have BFE := bel_allocR BF (Nat.le_refl _) (.cells #[] 42)
        have kE := (BE.cell (cell_lt k0)).trans k0
        have kF := (BF.cell (cell_lt k0)).trans k0
        have kEF := (BEF.cell (cell_lt k0)).trans k0
        have kFE := (BFE.cell (cell_lt k0)).trans k0
        obtain ⟨d0, d1, d2, d3, d4⟩ := LA.out _ BE
        have BD := Hid.intro ((Below.refl w1.heap.size w1).drew)
        clear BE BF BEF BFE g0 B0 HA OW DN
        go_wp2_with fail
        go_region_law (first
          | (have _ := QF; refine step_append_row (by rfl) _ _ EL.out (by rfl) va n xs (by rfl) (ownsRow_keep QF.own (fun k hk => alloc_keepR (World.ownsRow.lt QF.own k hk).2)) (.slice (some ⟨wa.heap.size, 0, none⟩) 1 1) 1 (acells [⟨bed, kind, now, true, false⟩]) (by rfl) (src_block (alloc_atR rfl) NL.out) (acells_onecell _) (by omega) ?_; intro vb wb hown hgrow hat; have QG := newR QF.ge (bel_allocR QF.below (Nat.le_refl _) _) (Nat.le_refl _) hown hgrow hat; obtain ⟨⟨z1, z2⟩, z3⟩ := HAL.out wb vb QG; have Z3 := Hid.intro z3; obtain ⟨ao', cc', hv', _⟩ := ownsRow_form hown; subst hv'; clear hown hgrow hat QF QG z3)
          | (have _ := QF; refine step_append_row (by rfl) _ _ EL.out (by rfl) va n xs (by rfl) QF.own (.slice (some ⟨w1.heap.size + 1, 0, none⟩) 1 1) 1 (acells [⟨bed, kind, now, true, false⟩]) (by rfl) (src_block (QF.keep _ _ (by first | exact alloc_atR (by simp) | exact alloc_farR (alloc_atR (by simp))) (by simp [acells, acell])) NL.out) (acells_onecell _) (by omega) ?_; intro vb wb hown hgrow hat; have QG := newR QF.ge QF.below (Nat.le_refl _) hown hgrow hat; obtain ⟨⟨z1, z2⟩, z3⟩ := HAL.out wb vb QG; have Z3 := Hid.intro z3; obtain ⟨ao', cc', hv', _⟩ := ownsRow_form hown; subst hv'; clear hown hgrow hat QF QG z3)
          | (have _ := QF; refine step_append_row (by rfl) _ _ EL.out (by rfl) va n xs (by rfl) QF.own (.slice (some ⟨w1.heap.size, 0, none⟩) 1 1) 1 (acells [⟨bed, kind, now, true, false⟩]) (by rfl) (src_block (QF.keep _ _ (by first | exact alloc_atR (by simp) | exact alloc_farR (alloc_atR (by simp))) (by simp [acells, acell])) NL.out) (acells_onecell _) (by omega) ?_; intro vb wb hown hgrow hat; have QG := newR QF.ge QF.below (Nat.le_refl _) hown hgrow hat; obtain ⟨⟨z1, z2⟩, z3⟩ := HAL.out wb vb QG; have Z3 := Hid.intro z3; obtain ⟨ao', cc', hv', _⟩ := ownsRow_form hown; subst hv'; clear hown hgrow hat QF QG z3)
          | (refine step_append_row (by rfl) _ _ EL.out (by rfl) _ 0 [] (by rfl) (own_emptyR (by first | exact alloc_atR (by simp) | exact alloc_farR (alloc_atR (by simp)))) (.slice ao n c) n xs (by rfl) (S1.out _ (by first | exact BD.out | exact bel_allocR BD.out (Nat.le_refl _) _ | exact bel_allocR (bel_allocR BD.out (Nat.le_refl _) _) (Nat.le_refl _) _)) ONE.out (by omega) ?_; intro va wa hown hgrow hat; have QF := apF (H := w1.heap.size) (w0 := w1) (by first | exact alloc_atR (by simp) | exact alloc_farR (alloc_atR (by simp))) (by first | (dsimp only; omega) | (simp; done)) (by first | exact BD.out | exact bel_allocR BD.out (Nat.le_refl _) _ | exact bel_allocR (bel_allocR BD.out (Nat.le_refl _) _) (Nat.le_refl _) _) (Nat.le_refl _) hown hgrow hat; obtain ⟨y0, y1, y2, y3, y4⟩ := LA.out _ QF.below; clear hown hgrow hat)
          | fail)
        all_goals
          clear kE kF kEF kFE k0 c0 c1 c2 c3 c4 d0 d1 d2 d3 d4
          go_wp2
          go_ret
          exact ⟨rfl, Z3.out⟩
      · simp only [if_neg h40, decide_eq_false h40] at ok ⊢
        have n40 : (40 : Int) ≤ (L.length : Int) := by omega
        clear h p1 p2 p3 hz ok h40 hf g0 sz0 B0
        generalize L.length = n at *
        go_enter Try.func18, Try.ntmps18
        go_wp2_with fail
        refine FI.out.mono ?_
        rintro e w1 ⟨rfl, rfl⟩
        have k0 := HA.out _ BA.out
        have BH := Hid.intro (HS.out _ BA.out)
        clear FI HA HS BA
        go_wp2
        go_ret
        exact ⟨rfl, BH.out⟩
    · rw [p1] at FI
      rw [p2] at ok ⊢
      simp only at ok ⊢
      obtain ⟨ao, c, rfl, hz⟩ := ownsRow_form h.own
      obtain ⟨g, rfl⟩ := hz.resolve_left (by omega)
      have HA := Hid.intro (fun (W : World) (hW : Below w.heap.size w W) => (al_at (h.below hW).own hi))
      have HC := Hid.intro (fun (W : World) (hW : Below w.heap.size w W) => (h.below hW).cells.1)
      have i0 : (0 : Int) ≤ (i : Int) := by omega
      have i1 : (i : Int) < (L.length : Int) := by omega
      have i2 : ¬ (i : Int) < 0 := by omega
      by_cases ho : L[i].on = true
      · simp only [ho, Bool.not_true, Bool.false_eq_true, if_false] at ok ⊢
        have H3 := Hid.intro (fun (W : World) (hW : Below w.heap.size w W) => (HA.out W hW).2.2.2.1)
        rw [ho] at H3
        clear h p1 p2 p3 p4 hz ok ho hf HA hi g0 sz0 B0
        generalize L.length = n at *
        go_enter Try.func18, Try.ntmps18
        go_wp2_with fail
        refine FI.out.mono ?_
        rintro e w1 ⟨rfl, rfl⟩
        have c3 := H3.out _ BA.out
        have k0 := HC.out _ BA.out
        have BH := Hid.intro (HS.out _ BA.out)
        clear FI H3 HS BA HC
        go_wp2
        go_ret
        exact ⟨rfl, BH.out⟩
      · have ho' : L[i].on = false := by simpa using ho
        simp only [ho', Bool.not_false, if_true] at ok ⊢
        rw [turn_place h.ok.once hi p3] at ok ⊢
        have HF := Hid.intro (fun (W : World) (hW : Below w.heap.size w W) j => frozen_ownA (h.below hW).own j)
        have PU : Hid (∀ (W : World), Below w.heap.size w W → LeftG (PR b (L.set i ⟨bed, kind, now, true, false⟩) u) S w (setAC W g (i * 5) ⟨bed, kind, now, true, false⟩)) := fun W hW => by
          obtain ⟨q1, q2⟩ := (h.below hW).putAll (y := ⟨bed, kind, now, true, false⟩) hi ok
          exact left_fromA hW ⟨S, ⟨_, q1⟩, q2, fun _ hk => .inl hk⟩
        clear h p1 p2 p3 p4 hz ok ho hf HS
        generalize L.set i ⟨bed, kind, now, true, false⟩ = L2 at *
        go_enter Try.func18, Try.ntmps18
        go_wp2_with fail
        refine FI.out.mono ?_
        rintro e w1 ⟨rfl, hw1⟩
        rw [hw1] at B0 BA g0 sz0
        clear FI hw1
        obtain ⟨c0, c1, c2, c3, c4⟩ := HA.out w1 B0
        rw [ho'] at c3
        have k0 := HC.out w1 B0
        have fz := HF.out w1 B0
        have q := alCR (l := ⟨bed, kind, now, true, false⟩) g0
        simp only [AlAt, Nat.zero_add] at q
        obtain ⟨r0, r1, r2, r3, r4⟩ := q
        have PH := Hid.intro (PU.out _ B0.drew)
        clear B0 BA HA HC HF PU ho' g0
        generalize L[i].bed = a0 at *
        generalize L[i].kind = a1 at *
        generalize L[i].since = a2 at *
        generalize L[i].acked = a4 at *
        clear hi
        generalize L.length = n at *
        generalize w.heap.size = lb at *
        go_wp2_with fail
        go_region
        all_goals
          go_wp2
          go_ret
          exact ⟨rfl, PH.out⟩
  · have hk' : kindA kind = false := by simpa using hk
    rw [hk'] at ok ⊢
    simp only [Bool.false_and, Bool.false_eq_true, if_false] at ok ⊢
    by_cases q : kind < 0
    · clear ok h hk hk'
      go_enter Try.func18, Try.ntmps18
      go_wp2
      go_ret
      exact ⟨rfl, HS.out _ (Below.refl _ _)⟩
    · have q2 : 4 < kind := by
        rcases Int.lt_or_le 4 kind with r | r
        · exact r
        · exact absurd (kindA_iff.2 ⟨by omega, r⟩) hk
      clear ok h hk hk'
      go_enter Try.func18, Try.ntmps18
      go_wp2
      go_ret
      exact ⟨rfl, HS.out _ (Below.refl _ _)⟩

end Go.Proofs.Ytbeeigfcchjdlaa
