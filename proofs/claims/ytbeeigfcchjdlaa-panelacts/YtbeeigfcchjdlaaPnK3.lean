/- Package panel: Raise. -/
import Derived.Test.YtbeeigfcchjdlaaPnK2
import Derived.Deep.RegionLaw
namespace Go.Proofs.Ytbeeigfcchjdlaa
open Go.RowKit Go.Shelf
open Pn

theorem alC3 {w : World} {l : Al} {t : TypeId} {fr : Nat × Nat} {g : Nat} (h : w.heap[g]? = some (.cells #[.int .i64 l.bed, .int .i64 l.kind, .int .i64 l.since, .bool l.on, .bool l.acked] t fr)) : AlAt w g 0 l :=
  ⟨by rw [cell_of_row _ _ 0 _ _ _ h]; rfl, by rw [cell_of_row _ _ 1 _ _ _ h]; rfl, by rw [cell_of_row _ _ 2 _ _ _ h]; rfl, by rw [cell_of_row _ _ 3 _ _ _ h]; rfl, by rw [cell_of_row _ _ 4 _ _ _ h]; rfl⟩

/-- Its list has grown by an append, and is stored anew. -/
theorem PnS.grew {S : Nat → Prop} {w w1 ws : World} {b : Nat} {v v' : Value} {L L' : List Al} {u : Int} (h : PnS 47 48 S w b v L u) (hb : Below w.heap.size w w1) (hown : ws.ownsRow 0 48 5 v' L'.length (acells L')) (hgrow : w1.grownBy ws v.ownBlock) (hat : v'.ownBlock = v.ownBlock ∨ v'.ownBlock = some w1.heap.size) (ok : OkA L') :
    (ws.cell? ⟨b, 0, none⟩ = some v ∧ ws.frozen? ⟨b, 0, none⟩ = false) ∧ LeftG (PK b L' u) S w (ws.setCell ⟨b, 0, none⟩ v') := by
  have h1 := h.below hb
  have vb : v.ownBlock ≠ some b := row_not_block h1.own h1.head (by decide)
  have hd : ws.heap[b]? = some (.cells #[v, .int .i64 u] 47 (0, 0)) := (hgrow.block b (h1.lt b h1.inB) (fun e => vb e.symm)).trans h1.head
  have C : Chg (fun k => k = b) ws (ws.setCell ⟨b, 0, none⟩ v') := (Chg.refl _ ws).setCell (S := fun k => k = b) (p := ⟨b, 0, none⟩) (fun _ => rfl) _
  have c0 : Chg S w w1 := (below_chg hb).mono (fun _ f _ => f.elim)
  have c1 : Chg S w ws := c0.grown hgrow (fun k e _ => h.inV k e)
  have s1 := hb.size
  have s2 := hgrow.size
  have s3 := C.size
  refine ⟨⟨by rw [cell_of_row ws _ 0 _ _ _ hd]; rfl, frozen_of_row ws b 0 _ _ hd⟩, fun k => (S k ∨ w.heap.size ≤ k) ∧ k < ws.heap.size, ⟨v', ⟨by rw [heap_setCell_same ws b 0 _ _ v' hd]; rfl, ?_, ⟨.inl h.inB, by have := h.lt b h.inB; omega⟩, fun k hk => ⟨?_, (World.ownsRow.lt hown k hk).2⟩, fun k hk => by have := hk.2; omega, ok, h.ne⟩⟩, c1.trans C (fun k hk _ => by rw [hk]; exact h.inB), fun k hk => hk.1⟩
  · exact ownsRow_keep hown fun k hk => C.block k (World.ownsRow.lt hown k hk).2 (fun q => row_not_block hown hd (by decide) (by rw [← q]; exact hk))
  · rcases hat with q | q
    · exact .inl (h.inV k (by rw [← q]; exact hk))
    · rw [hk] at q
      have e : k = w1.heap.size := by simpa using q
      exact .inr (by omega)

theorem praise_nil (bed kind now : Int) (w : World) :
    Calls Try.prog 11 #[.pointer none, .int .i64 bed, .int .i64 kind, .int .i64 now] w fun e w' => e = .returned (.bool false) ∧ Below w.heap.size w w' := by
  go_enter Try.func11, Try.ntmps11
  go_wp2
  go_ret
  exact ⟨rfl, Below.refl _ _⟩

set_option maxRecDepth 100000 in
set_option maxHeartbeats 1000000 in
theorem praise_any (b : Nat) (bed kind now : Int) (S : Nat → Prop) (L : List Al) (u : Int) (w : World) (h : PK b L u S w) :
    Calls Try.prog 11 #[.pointer (some ⟨b, 0, none⟩), .int .i64 bed, .int .i64 kind, .int .i64 now] w fun e w' => e = .returned (.bool (raiseB L bed kind)) ∧ LeftG (PK b (raiseL L bed kind now) u) S w w' := by
  obtain ⟨v, h⟩ := h
  have KI := Hid.intro (pkind_any kind w)
  have ok := raise_ok h.ok bed kind now
  have HS := Hid.intro (fun (W : World) (hW : Below w.heap.size w W) => h.same hW)
  unfold raiseL at ok ⊢
  unfold raiseB at ok ⊢
  by_cases hk : kindA kind = true
  · rw [hk] at KI ok ⊢
    simp only [Bool.true_and] at ok ⊢
    have B0 := (Below.refl _ w).alloc (Nat.le_refl _) (.cells #[.int .i64 bed, .int .i64 kind, .int .i64 now, .bool true, .bool false] 48)
    have FI := Hid.intro (pfind_any b bed kind S v L u _ (h.below B0))
    have BA := Hid.intro B0
    have g0 := heap_alloc_new w (.cells #[.int .i64 bed, .int .i64 kind, .int .i64 now, .bool true, .bool false] 48)
    have HR := Hid.intro (fun (W : World) (hW : Below (w.alloc (.cells #[.int .i64 bed, .int .i64 kind, .int .i64 now, .bool true, .bool false] 48)).heap.size (w.alloc (.cells #[.int .i64 bed, .int .i64 kind, .int .i64 now, .bool true, .bool false] 48)) W) => alC3 (l := ⟨bed, kind, now, true, false⟩) ((hW.block _ (lt_of_heap g0)).trans g0))
    have hf := h.ok.few
    clear g0 B0
    rcases posA_ways (isA bed kind) L with ⟨p1, p2, p3⟩ | ⟨i, hi, p1, p2, p3, p4⟩
    · rw [p1, atA_miss] at FI
      rw [p2] at ok ⊢
      simp only [decide_eq_true_eq] at ok ⊢
      obtain ⟨ao, c, rfl, hz⟩ := ownsRow_form h.own
      have HA := Hid.intro (fun (W : World) (hW : Below w.heap.size w W) => (h.below hW).cells.1)
      by_cases h40 : L.length < 40
      · simp only [if_pos h40, decide_eq_true h40] at ok ⊢
        have n40 : ¬ (40 : Int) ≤ (L.length : Int) := by omega
        have EL := Hid.intro elem_sh
        have OW := Hid.intro (fun (W : World) (hW : Below w.heap.size w W) => (h.below hW).own)
        have GR : Hid (∀ W, Below w.heap.size w W → ∀ v' ws, ws.ownsRow 0 48 5 v' (L.length + 1) (acells L ++ acells [⟨bed, kind, now, true, false⟩]) → W.grownBy ws (Value.slice ao L.length c).ownBlock → (v'.ownBlock = (Value.slice ao L.length c).ownBlock ∨ v'.ownBlock = some W.heap.size) → (ws.cell? ⟨b, 0, none⟩ = some (.slice ao L.length c) ∧ ws.frozen? ⟨b, 0, none⟩ = false) ∧ LeftG (PK b (L ++ [⟨bed, kind, now, true, false⟩]) u) S w (ws.setCell ⟨b, 0, none⟩ v')) := fun W hW v' ws o1 o2 o3 => by
          refine h.grew hW ?_ o2 o3 ok
          rw [← acells_append] at o1
          rw [List.length_append]
          exact o1
        have NL : Hid ((acells [(⟨bed, kind, now, true, false⟩ : Al)]).length = 1 * 5) := by rw [Hid, acells_length]; rfl
        have mixed : Try.prog.follows Departure.mixedOrders = true := by kernel_rfl
        clear h p1 p2 p3 hz ok hk h40 HS
        generalize L ++ [⟨bed, kind, now, true, false⟩] = L2 at *
        generalize acells L = xs at *
        generalize L.length = n at *
        go_enter Try.func11, Try.ntmps11
        go_wp2_with fail
        refine KI.out.mono ?_
        rintro e w1 ⟨rfl, rfl⟩
        clear KI
        go_wp2_with fail
        refine FI.out.mono ?_
        rintro e w1 ⟨rfl, B1⟩
        have B2 := BA.out.trans (B1.mono BA.out.size)
        have B2H := Hid.intro B2
        have c0 := HA.out w1 B2
        obtain ⟨r0, r1, r2, r3, r4⟩ := HR.out w1 B1
        simp only [Nat.zero_add] at r0 r1 r2 r3 r4
        have BE := bel_allocR (Below.refl w1.heap.size w1) (Nat.le_refl _) (.cells #[.int .i64 bed, .int .i64 kind, .int .i64 now, .bool true, .bool false] 48)
        have kE := (BE.cell (cell_lt c0)).trans c0
        have OW1 := Hid.intro (fun (W : World) (hW : Below w1.heap.size w1 W) => OW.out W (B2H.out.trans (hW.mono B2H.out.size)))
        have GR1 := Hid.intro (fun (W : World) (hW : Below w1.heap.size w1 W) => GR.out W (B2H.out.trans (hW.mono B2H.out.size)))
        have BD := Hid.intro (bel_allocR ((Below.refl w1.heap.size w1).drew) (Nat.le_refl _) (.cells #[.int .i64 bed, .int .i64 kind, .int .i64 now, .bool true, .bool false] 48))
        clear FI B1 B2 HA HR BA OW GR BE B2H
        go_wp2_with fail
        go_region_law (first
          | (refine step_append_row (by rfl) _ _ EL.out (by rfl) (.slice ao n c) n xs (by rfl) (OW1.out _ BD.out) (.slice (some ⟨w1.heap.size, 0, none⟩) 1 1) 1 (acells [⟨bed, kind, now, true, false⟩]) (by rfl) (src_block (alloc_atR rfl) NL.out) (acells_onecell _) (by omega) ?_; intro v' wb hown hgrow hat; obtain ⟨⟨z1, z2⟩, z3⟩ := GR1.out _ BD.out v' wb hown hgrow hat; have Z3 := Hid.intro z3; obtain ⟨oa, oc, e, _⟩ := ownsRow_form hown; subst e; clear hown hgrow hat z3)
          | fail)
        all_goals
          clear kE c0 r0 r1 r2 r3 r4
          go_wp2
          go_ret
          exact ⟨rfl, Z3.out⟩
      · simp only [if_neg h40, decide_eq_false h40] at ok ⊢
        have n40 : (40 : Int) ≤ (L.length : Int) := by omega
        clear h p1 p2 p3 hz ok hk h40 HR hf
        generalize L.length = n at *
        go_enter Try.func11, Try.ntmps11
        go_wp2_with fail
        refine KI.out.mono ?_
        rintro e w1 ⟨rfl, rfl⟩
        clear KI
        go_wp2_with fail
        refine FI.out.mono ?_
        rintro e w1 ⟨rfl, B1⟩
        have B2 := BA.out.trans (B1.mono BA.out.size)
        have c0 := HA.out w1 B2
        have BH := Hid.intro (HS.out w1 B2)
        clear FI B1 B2 HA HS BA
        go_wp2
        go_ret
        exact ⟨rfl, BH.out⟩
    · rw [p1, atA_hit] at FI
      rw [p2] at ok ⊢
      simp only at ok ⊢
      obtain ⟨ao, c, rfl, hz⟩ := ownsRow_form h.own
      obtain ⟨g, rfl⟩ := hz.resolve_left (by omega)
      change Hid (Calls Try.prog _ _ _ fun e w' => e = .returned (.pointer (some ⟨g, i * 5, none⟩)) ∧ _) at FI
      have HA := Hid.intro (fun (W : World) (hW : Below w.heap.size w W) => (al_at (h.below hW).own hi))
      by_cases ho : L[i].on = true
      · simp only [ho, Bool.not_true, Bool.false_eq_true, if_false] at ok ⊢
        have H3 := Hid.intro (fun (W : World) (hW : Below w.heap.size w W) => (HA.out W hW).2.2.2.1)
        rw [ho] at H3
        clear h p1 p2 p3 p4 hz ok hk ho HR hf HA hi
        go_enter Try.func11, Try.ntmps11
        go_wp2_with fail
        refine KI.out.mono ?_
        rintro e w1 ⟨rfl, rfl⟩
        clear KI
        go_wp2_with fail
        refine FI.out.mono ?_
        rintro e w1 ⟨rfl, B1⟩
        have B2 := BA.out.trans (B1.mono BA.out.size)
        have c3 := H3.out w1 B2
        have BH := Hid.intro (HS.out w1 B2)
        clear FI B1 B2 H3 HS BA
        go_wp2
        go_ret
        exact ⟨rfl, BH.out⟩
      · have ho' : L[i].on = false := by simpa using ho
        simp only [ho', Bool.not_false, if_true] at ok ⊢
        rw [turn_place h.ok.once hi p3] at ok ⊢
        have HF := Hid.intro (fun (W : World) (hW : Below w.heap.size w W) j => frozen_ownA (h.below hW).own j)
        have PU : Hid (∀ (W : World), Below w.heap.size w W → LeftG (PK b (L.set i ⟨bed, kind, now, true, false⟩) u) S w (setAC W g (i * 5) ⟨bed, kind, now, true, false⟩)) := fun W hW => by
          obtain ⟨q1, q2⟩ := (h.below hW).putAll (y := ⟨bed, kind, now, true, false⟩) hi ok
          exact left_fromA hW ⟨S, ⟨_, q1⟩, q2, fun _ hk => .inl hk⟩
        clear h p1 p2 p3 p4 hz ok ho hf HS
        go_enter Try.func11, Try.ntmps11
        go_wp2_with fail
        refine KI.out.mono ?_
        rintro e w1 ⟨rfl, rfl⟩
        clear KI
        go_wp2_with fail
        refine FI.out.mono ?_
        rintro e w1 ⟨rfl, B1⟩
        have B2 := BA.out.trans (B1.mono BA.out.size)
        obtain ⟨c0, c1, c2, c3, c4⟩ := HA.out w1 B2
        rw [ho'] at c3
        have fz := HF.out w1 B2
        obtain ⟨r0, r1, r2, r3, r4⟩ := HR.out w1 B1
        simp only [Nat.zero_add] at r0 r1 r2 r3 r4
        generalize L[i].bed = a0 at *
        generalize L[i].kind = a1 at *
        generalize L[i].since = a2 at *
        generalize L[i].acked = a4 at *
        have PH := Hid.intro (PU.out w1 B2)
        clear FI B1 B2 HA HF HR BA PU
        go_wp2
        go_ret
        exact ⟨rfl, PH.out⟩
  · have hk' : kindA kind = false := by simpa using hk
    rw [hk'] at KI ok ⊢
    simp only [Bool.false_and, Bool.false_eq_true, if_false] at ok ⊢
    clear ok h hk hk'
    go_enter Try.func11, Try.ntmps11
    go_wp2_with fail
    refine KI.out.mono ?_
    rintro e w1 ⟨rfl, rfl⟩
    clear KI
    go_wp2
    go_ret
    exact ⟨rfl, HS.out _ (Below.refl _ _)⟩

end Go.Proofs.Ytbeeigfcchjdlaa
