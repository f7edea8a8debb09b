/- Package shed: put, Add, Remove. -/
import Derived.Test.YthfmgdhhjnngaaaShIx
import Derived.Test.YthfmgdhhjnngaaaShInsD
import Derived.Test.YthfmgdhhjnngaaaShDelB
import Derived.Deep.RegionHeld3
namespace Go.Proofs.Ythfmgdhhjnngaaa
open Go.RowKit
open Bt

variable {S T : Nat → Prop} {w w' : World} {b : Nat} {v : Value} {zs : List (Nat × Sd)} {x : Ctl}

/-- A bed less. -/
theorem CS.less (h : CS S w b v zs x) {i : Nat} {v' : Value} {w2 : World} (hi : i < zs.length) (hv : v'.ownBlock = v.ownBlock) (own : w2.ownsRow 0 TE 1 v' (zs.length - 1) ((pcells zs).eraseIdx i)) (hc : Chg (fun k => v.ownBlock = some k) w w2) :
    CS S (w2.setCell ⟨b, 2, none⟩ v') b v' (zs.eraseIdx i) { x with beds := x.beds.eraseIdx i } ∧ Chg S w (w2.setCell ⟨b, 2, none⟩ v') := by
  obtain ⟨a1, a2⟩ := h.apart
  have hd : w2.heap[b]? = _ := (hc.block b (h.lt b h.inB) a1).trans h.head
  have kb : Chg (fun k => k = b) w2 (w2.setCell ⟨b, 2, none⟩ v') := Chg.setCell (S := fun k => k = b) (Chg.refl _ w2) (p := ⟨b, 2, none⟩) (fun _ => rfl) _
  have hl : (zs.eraseIdx i).length = zs.length - 1 := List.length_eraseIdx_of_lt hi
  have e1 : pcells (zs.eraseIdx i) = (pcells zs).eraseIdx i := map_eraseIdx _ _ _
  have sub : ∀ z ∈ zs.eraseIdx i, z ∈ zs := fun z hz => List.mem_of_mem_eraseIdx hz
  refine ⟨⟨?_, ?_, ?_, fun z hz => ?_, ?_, h.inB, fun k hk => h.inV k (hv ▸ hk), fun z hz => h.inP z (sub z hz), fun k hk => Nat.lt_of_lt_of_le (h.lt k hk) (Nat.le_trans hc.size kb.size), ?_⟩, ?_⟩
  · rw [heap_setCell_same w2 b 2 _ _ _ hd]; rfl
  · show x.beds.eraseIdx i = _
    rw [h.beds, map_eraseIdx]
  · rw [hl, e1]
    exact ownsRow_keep own fun k hk => kb.block k (World.ownsRow.lt own k hk).2 (fun e => a1 (by rw [← hv, ← e]; exact hk))
  · exact ((h.each z (sub z hz)).chg hc (a2 z (sub z hz)).1).chg kb (a2 z (sub z hz)).2
  · rw [map_eraseIdx]
    exact h.dist.sublist (List.eraseIdx_sublist _ _)
  · refine ⟨Nat.le_trans (List.length_eraseIdx_le _ _) h.ok.few, fun s hs => h.ok.lev s (List.mem_of_mem_eraseIdx hs), ?_, h.ok.w1, h.ok.w2, h.ok.cw⟩
    show ((x.beds.eraseIdx _).map Sd.bed).Nodup
    rw [map_eraseIdx]
    exact h.ok.once.sublist (List.eraseIdx_sublist _ _)
  · exact (hc.mono (fun k hk _ => h.inV k hk)).trans kb (fun k e _ => by rw [e]; exact h.inB)

theorem hremove_nil (bed : Int) (w : World) : Calls Try.prog 12 #[.pointer none, .int .i64 bed] w fun e w' => e = .returned (.int .i64 8) ∧ Below w.heap.size w w' := by
  go_enter Try.func12, Try.ntmps12
  go_wp2
  go_ret
  exact ⟨rfl, Below.refl _ _⟩

theorem hadd_nil (bed prio : Int) (w : World) : Calls Try.prog 11 #[.pointer none, .int .i64 bed, .int .i64 prio] w fun e w' => e = .returned (.int .i64 1) ∧ Below w.heap.size w w' := by
  go_enter Try.func11, Try.ntmps11
  go_wp2
  go_ret
  exact ⟨rfl, Below.refl _ _⟩

set_option maxRecDepth 100000 in
set_option maxHeartbeats 1000000 in
theorem hremove_any (b : Nat) (bed : Int) (S : Nat → Prop) (x : Ctl) (w : World) (h : Ctr S w b x) :
    Calls Try.prog 12 #[.pointer (some ⟨b, 0, none⟩), .int .i64 bed] w fun e w' => e = .returned (.int .i64 (remE x bed)) ∧ LeftC S w w' b (remC x bed) := by
  have HC := Hid.intro h
  obtain ⟨v, zs, h⟩ := h
  have FI := Hid.intro (hfind_any b bed S v zs x w h)
  have hf := h.few
  rcases posS_all (isBedS bed) x.beds with ⟨e1, e2, e3⟩ | ⟨i, hi, e1, e4, e2, e3, e5⟩
  · have q1 : remE x bed = 8 := by unfold remE; rw [e2]; rfl
    have q2 : remC x bed = x := by unfold remC; rw [e3, List.eraseIdx_of_length_le (Nat.le_refl _)]
    rw [q1, q2]
    rw [e1] at FI
    clear h e1 e2 e3 q1 q2
    go_enter Try.func12, Try.ntmps12
    go_wp2_with fail
    refine FI.out.mono ?_
    rintro e w2 ⟨rfl, B2⟩
    have BH := Hid.intro B2
    clear B2 FI
    go_wp2
    go_ret
    exact ⟨rfl, LeftC.same HC.out BH.out⟩
  · have q1 : remE x bed = 0 := by unfold remE; rw [e2]; rfl
    have q2 : remC x bed = { x with beds := x.beds.eraseIdx i } := by unfold remC; rw [e3]
    rw [q1, q2]
    rw [e1] at FI
    have hi' : i < zs.length := by rw [← h.len]; exact hi
    obtain ⟨ao, c, rfl, hz⟩ := h.form
    obtain ⟨g, rfl⟩ := hz.resolve_left (by omega)
    have HH := Hid.intro h
    have DEL := Hid.intro (fun (W : World) (hB : Below w.heap.size w W) => hdelete_any g zs.length c i (pcells zs) (pcells_length zs) (by omega) hi' (pcells_one zs) W (h.below hB).own)
    have K2 := Hid.intro (fun (W : World) (hB : Below w.heap.size w W) => (h.below hB).cells)
    have FIN : Hid (∀ W w2 : World, Below w.heap.size w W → w2.ownsRow 0 TE 1 (.slice (some ⟨g, 0, none⟩) (zs.length - 1) c) (zs.length - 1) ((pcells zs).eraseIdx i) → Chg (fun k => k = g) W w2 → LeftC S w (w2.setCell ⟨b, 2, none⟩ (.slice (some ⟨g, 0, none⟩) (zs.length - 1) c)) b { x with beds := x.beds.eraseIdx i }) := fun W w2 hB ho hk => by
      have hB' : Below w.heap.size w W := hB
      obtain ⟨r1, r2⟩ := (h.below hB').less (v' := .slice (some ⟨g, 0, none⟩) (zs.length - 1) c) hi' rfl ho (hk.mono (fun k e _ => by rw [e]; rfl))
      exact ⟨S, ⟨_, _, r1⟩, ((below_chg hB').mono (fun _ f _ => f.elim)).trans r2 (fun _ q _ => q), fun _ => .inl⟩
    have i0 : (0 : Int) ≤ (i : Int) := by omega
    have i8 : i ≤ 8 := by omega
    have iw : IntKind.i64.wrap ((i : Int) + 1) = (i : Int) + 1 := by rw [IntKind.wrap_i64]; omega
    clear h e1 e2 e3 e4 e5 q1 q2 hi hi' hz
    generalize zs.length = n at *
    go_enter Try.func12, Try.ntmps12
    go_wp2_with fail
    refine FI.out.mono ?_
    rintro e w2 ⟨rfl, B2⟩
    obtain ⟨_, _, k2, fz⟩ := K2.out w2 B2
    have f2 := fz 2
    have DL := Hid.intro (DEL.out w2 B2)
    have FN := Hid.intro (fun V => FIN.out w2 V B2)
    have AP := Hid.intro (fun (V : World) (hV : Chg (fun k => k = g) w2 V) => (show V.cell? ⟨b, 2, none⟩ = some (.slice (some ⟨g, 0, none⟩) n c) ∧ V.frozen? ⟨b, 2, none⟩ = false from by
      have q := (HH.out.below B2).apart.1
      have hne : ¬ b = g := fun e => q (by rw [e]; rfl)
      exact ⟨cell_chg hV k2 hne, (World.frozen?_of_block (hV.block b (cell_lt k2) hne)).trans f2⟩))
    clear B2 FI K2 FIN DEL fz
    go_wp2_with fail
    refine DL.out.mono ?_
    rintro e w3 ⟨rfl, ow3, c3⟩
    obtain ⟨m1, m2⟩ := AP.out w3 c3
    have FF := Hid.intro (FN.out w3 ow3 c3)
    clear ow3 c3 DL FN AP k2 f2
    go_wp2
    go_ret
    exact ⟨rfl, FF.out⟩

/-- A bed more. -/
theorem CS.more (h : CS S w b v zs x) {i nb : Nat} {s : Sd} {v' : Value} {w1 w2 : World} (hB : Below w.heap.size w w1) (hb : SdAt w1 nb s) (hnb : w.heap.size ≤ nb) (hi : i ≤ zs.length) (ins : InsA w1 w2 v v' (pcells zs) i (Pv nb)) (ok : ({ x with beds := x.beds.insertIdx i s } : Ctl).Ok) :
    LeftC S w (w2.setCell ⟨b, 2, none⟩ v') b { x with beds := x.beds.insertIdx i s } := by
  have h1 := h.below hB
  obtain ⟨a1, a2⟩ := h1.apart
  obtain ⟨own, hc, hv⟩ := ins
  have hd : w2.heap[b]? = _ := (hc.block b (h1.lt b h1.inB) a1).trans h1.head
  have kb : Chg (fun k => k = b) w2 (w2.setCell ⟨b, 2, none⟩ v') := Chg.setCell (S := fun k => k = b) (Chg.refl _ w2) (p := ⟨b, 2, none⟩) (fun _ => rfl) _
  have hbs := h.lt b h.inB
  have hl : (zs.insertIdx i (nb, s)).length = zs.length + 1 := List.length_insertIdx_of_le_length hi _
  have e1 : pcells (zs.insertIdx i (nb, s)) = (pcells zs).insertIdx i (Pv nb) := map_insertIdx _ _ _ _
  have mem : ∀ z ∈ zs.insertIdx i (nb, s), z = (nb, s) ∨ z ∈ zs := fun z hz => (List.mem_insertIdx hi).1 hz
  have vne : v.ownBlock ≠ some nb := fun e => by have := h.lt nb (h.inV nb e); omega
  have vb' : v'.ownBlock ≠ some b := fun e => by
    rcases hv with q | ⟨k, q, hk⟩
    · exact a1 (by rw [← q]; exact e)
    · rw [e] at q; cases q; have := hB.size; omega
  have sz : w.heap.size ≤ w1.heap.size := hB.size
  refine ⟨fun k => S k ∨ (w.heap.size ≤ k ∧ k < w2.heap.size), ⟨v', zs.insertIdx i (nb, s), ?_, ?_, ?_, fun z hz => ?_, ?_, .inl h.inB, fun k hk => ?_, fun z hz => ?_, fun k hk => ?_, ok⟩, ?_, fun k hk => ?_⟩
  · rw [heap_setCell_same w2 b 2 _ _ _ hd]; rfl
  · show x.beds.insertIdx i s = _
    rw [h.beds, map_insertIdx]
  · rw [hl, e1]
    rw [pcells_length] at own
    exact ownsRow_keep own fun k hk => kb.block k (World.ownsRow.lt own k hk).2 (fun e => vb' (by rw [← e]; exact hk))
  · rcases mem z hz with rfl | q
    · exact (hb.chg hc vne).chg kb (by show ¬ nb = b; omega)
    · exact ((h1.each z q).chg hc (a2 z q).1).chg kb (a2 z q).2
  · rw [map_insertIdx]
    refine nodup_insertIdx h.dist (fun q => ?_)
    obtain ⟨z, hz, e⟩ := List.mem_map.1 q
    have := h.lt z.1 (h.inP z hz)
    rw [e] at this
    simp at this
    omega
  · rcases hv with q | ⟨j, q, hj⟩
    · exact .inl (h.inV k (by rw [← q]; exact hk))
    · rw [hk] at q
      cases q
      exact .inr ⟨by omega, (World.ownsRow.lt own k hk).2⟩
  · rcases mem z hz with rfl | q
    · exact .inr ⟨hnb, Nat.lt_of_lt_of_le (lt_of_heap hb) hc.size⟩
    · exact .inl (h.inP z q)
  · rcases hk with q | q
    · exact Nat.lt_of_lt_of_le (h.lt k q) (Nat.le_trans sz (Nat.le_trans hc.size kb.size))
    · exact Nat.lt_of_lt_of_le q.2 kb.size
  · exact (((below_chg hB).mono (fun _ f _ => f.elim)).trans hc (fun k hk _ => h.inV k hk)).trans kb (fun k e _ => by rw [e]; exact h.inB)
  · rcases hk with q | q
    · exact .inl q
    · exact .inr q.1

set_option maxRecDepth 100000 in
set_option maxHeartbeats 2000000 in
theorem hput_any (b : Nat) (bed prio : Int) (S : Nat → Prop) (v : Value) (zs : List (Nat × Sd)) (x : Ctl) (w : World) (h : CS S w b v zs x) (ok : ({ x with beds := insS x.beds ⟨bed, prio, 0⟩ } : Ctl).Ok) :
    Calls Try.prog 26 #[.pointer (some ⟨b, 0, none⟩), .int .i64 bed, .int .i64 prio] w fun e w' => e = .returned (.tuple #[]) ∧ LeftC S w w' b { x with beds := insS x.beds ⟨bed, prio, 0⟩ } := by
  have hf := h.few
  have BA := (Below.refl _ w).alloc (Nat.le_refl _) (.cells #[.int .i64 prio] 3)
  have nbx := heap_alloc_new w (.cells #[.int .i64 prio] 3)
  obtain ⟨A, hA⟩ : ∃ A, A = w.alloc (.cells #[.int .i64 prio] 3) := ⟨_, rfl⟩
  have HA := Hid.intro hA
  rw [← hA] at BA nbx
  have h2 := h.below BA
  have k0 : A.cell? ⟨w.heap.size, 0, none⟩ = some (.int .i64 prio) := by rw [cell_of_row _ _ 0 _ _ _ nbx]; rfl
  have IX := hindex_any 35 (.inr rfl) (lessS prio) w.heap.size zs (by omega) v A (fun W hW z hz => hput1_any z.1 z.2 prio w.heap.size W ((h2.each z hz).below hW) (cell_chg (below_chg hW) k0 id)) h2.own
  rw [← h.beds] at IX
  have IXH := Hid.intro IX
  have c2 := h2.cells.2.2.1
  have at_le : atS prio x.beds ≤ zs.length := by rw [← h.len]; exact atS_le _ _
  have APOS : Hid ((posS (lessS prio) x.beds = -1 ∧ atS prio x.beds = zs.length) ∨ posS (lessS prio) x.beds = (atS prio x.beds : Int)) := by
    rcases posS_all (lessS prio) x.beds with ⟨e1, _, e3⟩ | ⟨i, hi, e1, _, _, e3, _⟩
    · exact .inl ⟨e1, by unfold atS; rw [e3, h.len]⟩
    · exact .inr (by unfold atS; rw [e3, e1])
  have KK := Hid.intro (fun (W : World) (hB : Below A.heap.size A W) => (show W.cell? ⟨b, 2, none⟩ = some v ∧ W.frozen? ⟨b, 2, none⟩ = false ∧ W.cell? ⟨w.heap.size, 0, none⟩ = some (.int .i64 prio) from
    ⟨(h2.below hB).cells.2.2.1, (h2.below hB).cells.2.2.2 2, cell_chg (below_chg hB) k0 id⟩))
  have HH := Hid.intro h
  have BAH := Hid.intro BA
  have OK := Hid.intro ok
  have hs2 : insS x.beds ⟨bed, prio, 0⟩ = x.beds.insertIdx (atS prio x.beds) ⟨bed, prio, 0⟩ := rfl
  rw [hs2] at OK ⊢
  generalize atS prio x.beds = i at *
  generalize posS (lessS prio) x.beds = P at *
  have bA : w.heap.size < A.heap.size := lt_of_heap nbx
  obtain ⟨ao, c, rfl, hz⟩ := h.form
  rw [hA] at c2
  clear h IX nbx BA ok k0 h2 hs2 hA hz
  go_enter Try.func26, Try.ntmps26
  go_wp2_with fail
  rw [← HA.out]
  refine IXH.out.mono ?_
  rintro e w2 ⟨rfl, B2⟩
  have o1 := Hid.intro (heap_alloc_new w2 (.cells #[.int .i64 bed, .int .i64 prio, .int .i64 0] 57))
  obtain ⟨W1, hW1⟩ : ∃ W1, W1 = w2.alloc (.cells #[.int .i64 bed, .int .i64 prio, .int .i64 0] 57) := ⟨_, rfl⟩
  have B1 : Below w2.heap.size w2 W1 := hW1 ▸ (Below.refl _ w2).alloc (Nat.le_refl _) _
  obtain ⟨W2, hW2⟩ : ∃ W2, W2 = W1.alloc (.cells #[Pv w2.heap.size] TE) := ⟨_, rfl⟩
  have s1 : W1.heap.size = w2.heap.size + 1 := by rw [hW1]; simp
  have B2' : Below w2.heap.size w2 W2 := hW2 ▸ B1.alloc (by omega) _
  have nb : W2.heap[w2.heap.size + 1]? = some (.cells #[Pv w2.heap.size] TE (0, 0)) := by rw [hW2, ← s1]; exact heap_alloc_new W1 _
  have BT := BAH.out.trans ((B2.trans (B2'.mono B2.size)).mono BAH.out.size)
  have BTd : Below w.heap.size w W2.drew := ⟨BT.os, BT.tape, BT.output, BT.size, BT.block⟩
  have sz2 : w.heap.size < w2.heap.size := Nat.lt_of_lt_of_le bA B2.size
  have INS := Hid.intro (hinsert_any (.slice ao zs.length c) (pcells zs) (pcells_one zs) (by rw [pcells_length]; omega) i (by rw [pcells_length]; exact at_le) (Pv w2.heap.size) rfl (w2.heap.size + 1) W2.drew (by rw [pcells_length]; exact (HH.out.below BTd).own) nb (fun e => by have := HH.out.lt _ (HH.out.inV _ e); omega))
  have SN : Hid (SdAt W2.drew w2.heap.size ⟨bed, prio, 0⟩) := by
    show W2.heap[w2.heap.size]? = _
    rw [hW2]
    refine (Below.heap_alloc W1 _ _ (by omega)).trans ?_
    rw [hW1]
    exact o1.out
  have FIN := Hid.intro (fun (w3 : World) (v' : Value) (q : InsA W2.drew w3 (.slice ao zs.length c) v' (pcells zs) i (Pv w2.heap.size)) => HH.out.more BTd SN.out (by omega) at_le q OK.out)
  have AP := Hid.intro (fun (w3 : World) (v' : Value) (q : InsA W2.drew w3 (.slice ao zs.length c) v' (pcells zs) i (Pv w2.heap.size)) => (show (∃ ao' c', v' = .slice ao' (zs.length + 1) c') ∧ w3.cell? ⟨b, 2, none⟩ = some (.slice ao zs.length c) ∧ w3.frozen? ⟨b, 2, none⟩ = false from by
    have h5 := HH.out.below BTd
    have hb := h5.cells
    have hne := h5.apart.1
    obtain ⟨p1, p2, p3⟩ := q
    refine ⟨?_, cell_chg p2 hb.2.2.1 hne, (World.frozen?_of_block (p2.block b (cell_lt hb.2.2.1) hne)).trans (hb.2.2.2 2)⟩
    obtain ⟨ao', c', e, _⟩ := ownsRow_form p1
    rw [pcells_length] at e
    exact ⟨ao', c', e⟩))
  have g0 : w2.cell? ⟨b, 2, none⟩ = some (.slice ao zs.length c) := (KK.out w2 B2).1
  obtain ⟨d0, d1, d2⟩ := KK.out w2.drew ⟨B2.os, B2.tape, B2.output, B2.size, B2.block⟩
  have f0 : (W1.drew).cell? ⟨b, 2, none⟩ = some (.slice ao zs.length c) := cell_chg (below_chg B1) d0 id
  have f1 : (W2.drew).cell? ⟨b, 2, none⟩ = some (.slice ao zs.length c) := cell_chg (below_chg B2') d0 id
  subst hW2
  subst hW1
  clear B1 B2' nb BT BTd s1 o1 SN KK IXH c2 bA B2 BAH OK
  have i0 : (0 : Int) ≤ (i : Int) := by omega
  have mixed : Try.prog.follows Departure.mixedOrders = true := by kernel_rfl
  rcases APOS.out with ⟨e1, e2⟩ | e1
  · subst e1
    subst e2
    go_wp2_with fail
    go_region_law (first
      | (go_simp; refine INS.out.mono ?_; rintro e w3 ⟨v', rfl, ins⟩; obtain ⟨⟨ao', c', e'⟩, m1, m2⟩ := AP.out w3 v' ins; subst e')
      | fail)
    all_goals
      have FF := Hid.intro (FIN.out w3 _ ins)
      clear ins
      go_wp2
      go_end0
      exact ⟨rfl, FF.out⟩
  · subst e1
    go_wp2_with fail
    go_region_law (first
      | (go_simp; refine INS.out.mono ?_; rintro e w3 ⟨v', rfl, ins⟩; obtain ⟨⟨ao', c', e'⟩, m1, m2⟩ := AP.out w3 v' ins; subst e')
      | fail)
    all_goals
      have FF := Hid.intro (FIN.out w3 _ ins)
      clear ins
      go_wp2
      go_end0
      exact ⟨rfl, FF.out⟩

set_option maxRecDepth 100000 in
set_option maxHeartbeats 1000000 in
theorem hadd_any (b : Nat) (bed prio : Int) (S : Nat → Prop) (x : Ctl) (w : World) (h : Ctr S w b x) :
    Calls Try.prog 11 #[.pointer (some ⟨b, 0, none⟩), .int .i64 bed, .int .i64 prio] w fun e w' => e = .returned (.int .i64 (addE x bed)) ∧ LeftC S w w' b (addC x bed prio) := by
  have HC := Hid.intro h
  obtain ⟨v, zs, h⟩ := h
  have FI := Hid.intro (hfind_any b bed S v zs x w h)
  have hf := h.few
  have hl := h.len
  rcases posS_all (isBedS bed) x.beds with ⟨e1, e2, _⟩ | ⟨i, hi, e1, e4, e2, e3, e5⟩
  · rw [e1] at FI
    have K2 := Hid.intro (fun (W : World) (hB : Below w.heap.size w W) => (h.below hB).cells.2.2.1)
    by_cases h8 : 8 ≤ x.beds.length
    · have q1 : addE x bed = 7 := by unfold addE; rw [e2, if_neg (by simp), if_pos h8]
      have q2 : addC x bed prio = x := by unfold addC; rw [q1, if_neg (by decide)]
      rw [q1, q2]
      obtain ⟨ao, c, rfl, _⟩ := h.form
      have n8 : (8 : Int) ≤ (zs.length : Int) := by omega
      clear h e1 e2 q1 q2 hl h8
      generalize zs.length = n at *
      go_enter Try.func11, Try.ntmps11
      go_wp2_with fail
      refine FI.out.mono ?_
      rintro e w2 ⟨rfl, B2⟩
      have k2 := K2.out w2 B2
      have BH := Hid.intro B2
      clear B2 FI K2
      go_wp2
      go_ret
      exact ⟨rfl, LeftC.same HC.out BH.out⟩
    · have q1 : addE x bed = 0 := by unfold addE; rw [e2, if_neg (by simp), if_neg h8]
      have q2 : addC x bed prio = { x with beds := insS x.beds ⟨bed, prio, 0⟩ } := by unfold addC; rw [q1, if_pos rfl]
      have ok := ok_add h.ok bed prio
      rw [q2] at ok
      rw [q1, q2]
      have PT := Hid.intro (fun (W : World) (hB : Below w.heap.size w W) => hput_any b bed prio S v zs x W (h.below hB) ok)
      obtain ⟨ao, c, rfl, _⟩ := h.form
      have n8 : ¬ (8 : Int) ≤ (zs.length : Int) := by omega
      clear h e1 e2 q1 q2 hl h8 ok
      generalize zs.length = n at *
      go_enter Try.func11, Try.ntmps11
      go_wp2_with fail
      refine FI.out.mono ?_
      rintro e w2 ⟨rfl, B2⟩
      have k2 := K2.out w2 B2
      have BH := Hid.intro B2
      have P2 := Hid.intro (PT.out w2 B2)
      clear B2 FI K2 PT
      go_wp2_with fail
      refine P2.out.mono ?_
      rintro e w3 ⟨rfl, hL⟩
      have FN : Hid (LeftC S w w3 b { x with beds := insS x.beds ⟨bed, prio, 0⟩ }) := by
        obtain ⟨S', r1, r2, r3⟩ := hL
        refine ⟨S', r1, ((below_chg BH.out).mono (fun _ f _ => f.elim)).trans r2 (fun _ q _ => q), fun k hk => ?_⟩
        rcases r3 k hk with q | q
        · exact .inl q
        · exact .inr (Nat.le_trans BH.out.size q)
      clear hL P2
      go_wp2
      go_ret
      exact ⟨rfl, FN.out⟩
  · have q1 : addE x bed = 9 := by unfold addE; rw [e2, if_pos rfl]
    have q2 : addC x bed prio = x := by unfold addC; rw [q1, if_neg (by decide)]
    rw [q1, q2]
    rw [e1] at FI
    clear h e1 e2 e3 e4 e5 q1 q2 hi
    go_enter Try.func11, Try.ntmps11
    go_wp2_with fail
    refine FI.out.mono ?_
    rintro e w2 ⟨rfl, B2⟩
    have BH := Hid.intro B2
    clear B2 FI
    go_wp2
    go_ret
    exact ⟨rfl, LeftC.same HC.out BH.out⟩

end Go.Proofs.Ythfmgdhhjnngaaa
