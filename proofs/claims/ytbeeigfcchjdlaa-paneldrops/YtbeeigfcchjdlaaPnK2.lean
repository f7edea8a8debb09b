/- Package panel: Clear, Ack, Drop. -/
import Derived.Test.YtbeeigfcchjdlaaPnK1
namespace Go.Proofs.Ytbeeigfcchjdlaa
open Go.RowKit Go.Shelf
open Pn

variable {S : Nat → Prop} {w : World} {b : Nat} {v : Value} {L : List Al} {u : Int}

/-- One of an alarm's cells is written. -/
theorem PnS.turned {g c n i k : Nat} {y : Al} {x : Value} (h : PnS 47 48 S w b (.slice (some ⟨g, 0, none⟩) n c) L u) (hi : i < L.length) (hk : k < 5) (hy : acell y = (acell L[i]).set k x) (W : World) (hW : Below w.heap.size w W) :
    RawP (W.setCell ⟨g, i * 5 + k, none⟩ x) b (.slice (some ⟨g, 0, none⟩) n c) (L.set i y) u ∧ Chg S w (W.setCell ⟨g, i * 5 + k, none⟩ x) := by
  obtain ⟨q1, q2, q3⟩ := (h.below hW).put hi hk hy
  refine ⟨⟨q1, ?_⟩, ((below_chg hW).mono (fun _ f _ => f.elim)).trans q3 (fun _ q _ => q)⟩
  rw [List.length_set]
  exact q2

/-- And some go. -/
theorem PnS.let {w1 w2 : World} {v' : Value} {M : List Al} (h : PnS 47 48 S w b v L u) (hc : Chg S w w1) (hv : v'.ownBlock = v.ownBlock) (hr : RawP w2 b v' M u) (hd : Chg (fun k => k = b ∨ v.ownBlock = some k) w1 w2) (ok : OkA M) : LeftG (PK b M u) S w w2 :=
  h.anew (hc.trans hd (fun k q _ => by
    rcases q with q | q
    · rw [q]; exact h.inB
    · exact h.inV k q)) hr hv ok

theorem pclear_nil (bed kind : Int) (w : World) :
    Calls Try.prog 12 #[.pointer none, .int .i64 bed, .int .i64 kind] w fun e w' => e = .returned (.bool false) ∧ Below w.heap.size w w' := by
  have FI := Hid.intro (pfind_nil bed kind w)
  go_enter Try.func12, Try.ntmps12
  go_wp2_with fail
  refine FI.out.mono ?_
  rintro e w1 ⟨rfl, B1⟩
  have BH := Hid.intro B1
  clear FI B1
  go_wp2
  go_ret
  exact ⟨rfl, BH.out⟩

set_option maxRecDepth 100000 in
set_option maxHeartbeats 1000000 in
theorem pclear_any (b : Nat) (bed kind : Int) (S : Nat → Prop) (L : List Al) (u : Int) (w : World) (h : PK b L u S w) :
    Calls Try.prog 12 #[.pointer (some ⟨b, 0, none⟩), .int .i64 bed, .int .i64 kind] w fun e w' => e = .returned (.bool (clearB L bed kind)) ∧ LeftG (PK b (clearL L bed kind) u) S w w' := by
  obtain ⟨v, h⟩ := h
  have FI := Hid.intro (pfind_any b bed kind S v L u w h)
  have HS := Hid.intro (fun (W : World) (hW : Below w.heap.size w W) => h.same hW)
  have hf := h.ok.few
  have ok := clear_ok h.ok bed kind
  unfold clearL at ok ⊢
  unfold clearB at ok ⊢
  rcases posA_ways (isA bed kind) L with ⟨p1, p2, p3⟩ | ⟨i, hi, p1, p2, p3, p4⟩
  · rw [p1, atA_miss] at FI
    rw [p2]
    simp only [Bool.false_eq_true, if_false]
    clear h p1 p2 p3 ok hf
    go_enter Try.func12, Try.ntmps12
    go_wp2_with fail
    refine FI.out.mono ?_
    rintro e w1 ⟨rfl, B1⟩
    have BH := Hid.intro (HS.out w1 B1)
    clear FI B1 HS
    go_wp2
    go_ret
    exact ⟨rfl, BH.out⟩
  · rw [p1, atA_hit] at FI
    rw [p2] at ok ⊢
    simp only at ok ⊢
    obtain ⟨ao, c, rfl, hz⟩ := ownsRow_form h.own
    obtain ⟨g, rfl⟩ := hz.resolve_left (by omega)
    change Hid (Calls Try.prog _ _ w fun e w' => e = .returned (.pointer (some ⟨g, i * 5, none⟩)) ∧ _) at FI
    have HA := Hid.intro (fun (W : World) (hW : Below w.heap.size w W) => (al_at (h.below hW).own hi).2.2.2.1)
    by_cases ho : L[i].on = true
    · simp only [ho, if_true] at ok ⊢
      rw [turn_place h.ok.once hi p3] at ok ⊢
      have HF := Hid.intro (fun (W : World) (hW : Below w.heap.size w W) => frozen_ownA (h.below hW).own (i * 5 + 3))
      have HT := Hid.intro (fun (W : World) (hW : Below w.heap.size w W) => h.turned (k := 3) (y := { L[i] with on := false }) (x := .bool false) hi (by omega) rfl W hW)
      have GO := Hid.intro (fun (W : World) (hr : RawP W b (.slice (some ⟨g, 0, none⟩) L.length c) (L.set i { L[i] with on := false }) u) => pletgo_any 28 #[] overA (enters_of Try.func28 (by kernel_rfl) rfl) b _ _ u W hr (by rw [List.length_set]; omega) (over_pred _ W))
      have LE := Hid.intro (fun (w1 w2 : World) (v' : Value) (hc : Chg S w w1) (hv : v'.ownBlock = (Value.slice (some ⟨g, 0, none⟩) L.length c).ownBlock) (hr : RawP w2 b v' (delA overA (L.set i { L[i] with on := false })) u) (hd : Chg (fun k => k = b ∨ (Value.slice (some ⟨g, 0, none⟩) L.length c).ownBlock = some k) w1 w2) => h.let hc hv hr hd ok)
      rw [ho] at HA
      change Hid (∀ (w1 w2 : World) (v' : Value), Chg S w w1 → _ → _ → _ → LeftG (PK b (tidyA (L.set i { L[i] with on := false })) u) S w w2) at LE
      clear h p1 p2 p3 p4 hz ok ho hf HS
      generalize tidyA (L.set i { L[i] with on := false }) = M at *
      generalize delA overA (L.set i { L[i] with on := false }) = M2 at *
      generalize L.set i { L[i] with on := false } = L2 at *
      clear hi
      generalize L.length = n at *
      go_enter Try.func12, Try.ntmps12
      go_wp2_with fail
      refine FI.out.mono ?_
      rintro e w1 ⟨rfl, B1⟩
      have c3 := HA.out w1 B1
      have f3 := HF.out w1 B1
      have T1 := HT.out w1 B1
      have T2 := Hid.intro T1.2
      have GO2 := Hid.intro (GO.out _ T1.1)
      clear FI B1 HA HF HT T1 GO
      go_wp2_with fail
      refine GO2.out.mono ?_
      rintro e w2 ⟨rfl, v', q1, q2, q3⟩
      have FIN := Hid.intro (LE.out _ _ _ T2.out q1 q2 q3)
      clear GO2 LE T2 q1 q2 q3 c3 f3
      go_wp2
      go_ret
      exact ⟨rfl, FIN.out⟩
    · have ho' : L[i].on = false := by simpa using ho
      simp only [ho', Bool.false_eq_true, if_false] at ok ⊢
      rw [ho'] at HA
      clear h p1 p2 p3 p4 hz ok ho ho' hf hi
      generalize L.length = n at *
      go_enter Try.func12, Try.ntmps12
      go_wp2_with fail
      refine FI.out.mono ?_
      rintro e w1 ⟨rfl, B1⟩
      have c3 := HA.out w1 B1
      have BH := Hid.intro (HS.out w1 B1)
      clear FI B1 HS HA
      go_wp2
      go_ret
      exact ⟨rfl, BH.out⟩

theorem pack_nil (bed kind : Int) (w : World) :
    Calls Try.prog 13 #[.pointer none, .int .i64 bed, .int .i64 kind] w fun e w' => e = .returned (.bool false) ∧ Below w.heap.size w w' := by
  have FI := Hid.intro (pfind_nil bed kind w)
  go_enter Try.func13, Try.ntmps13
  go_wp2_with fail
  refine FI.out.mono ?_
  rintro e w1 ⟨rfl, B1⟩
  have BH := Hid.intro B1
  clear FI B1
  go_wp2
  go_ret
  exact ⟨rfl, BH.out⟩

set_option maxRecDepth 100000 in
set_option maxHeartbeats 1000000 in
theorem pack_any (b : Nat) (bed kind : Int) (S : Nat → Prop) (L : List Al) (u : Int) (w : World) (h : PK b L u S w) :
    Calls Try.prog 13 #[.pointer (some ⟨b, 0, none⟩), .int .i64 bed, .int .i64 kind] w fun e w' => e = .returned (.bool (ackB L bed kind)) ∧ LeftG (PK b (ackL L bed kind) u) S w w' := by
  obtain ⟨v, h⟩ := h
  have FI := Hid.intro (pfind_any b bed kind S v L u w h)
  have HS := Hid.intro (fun (W : World) (hW : Below w.heap.size w W) => h.same hW)
  have hf := h.ok.few
  have ok := ack_ok h.ok bed kind
  unfold ackL at ok ⊢
  unfold ackB at ok ⊢
  rcases posA_ways (isA bed kind) L with ⟨p1, p2, p3⟩ | ⟨i, hi, p1, p2, p3, p4⟩
  · rw [p1, atA_miss] at FI
    rw [p2]
    simp only [Bool.false_eq_true, if_false]
    clear h p1 p2 p3 ok hf
    go_enter Try.func13, Try.ntmps13
    go_wp2_with fail
    refine FI.out.mono ?_
    rintro e w1 ⟨rfl, B1⟩
    have BH := Hid.intro (HS.out w1 B1)
    clear FI B1 HS
    go_wp2
    go_ret
    exact ⟨rfl, BH.out⟩
  · rw [p1, atA_hit] at FI
    rw [p2] at ok ⊢
    simp only at ok ⊢
    obtain ⟨ao, c, rfl, hz⟩ := ownsRow_form h.own
    obtain ⟨g, rfl⟩ := hz.resolve_left (by omega)
    change Hid (Calls Try.prog _ _ w fun e w' => e = .returned (.pointer (some ⟨g, i * 5, none⟩)) ∧ _) at FI
    have HA := Hid.intro (fun (W : World) (hW : Below w.heap.size w W) => (al_at (h.below hW).own hi).2.2.2.2)
    by_cases ho : L[i].acked = false
    · simp only [ho, Bool.not_false, if_true] at ok ⊢
      rw [turn_place h.ok.once hi p3] at ok ⊢
      have HF := Hid.intro (fun (W : World) (hW : Below w.heap.size w W) => frozen_ownA (h.below hW).own (i * 5 + 4))
      have HT := Hid.intro (fun (W : World) (hW : Below w.heap.size w W) => h.turned (k := 4) (y := { L[i] with acked := true }) (x := .bool true) hi (by omega) rfl W hW)
      have GO := Hid.intro (fun (W : World) (hr : RawP W b (.slice (some ⟨g, 0, none⟩) L.length c) (L.set i { L[i] with acked := true }) u) => pletgo_any 28 #[] overA (enters_of Try.func28 (by kernel_rfl) rfl) b _ _ u W hr (by rw [List.length_set]; omega) (over_pred _ W))
      have LE := Hid.intro (fun (w1 w2 : World) (v' : Value) (hc : Chg S w w1) (hv : v'.ownBlock = (Value.slice (some ⟨g, 0, none⟩) L.length c).ownBlock) (hr : RawP w2 b v' (delA overA (L.set i { L[i] with acked := true })) u) (hd : Chg (fun k => k = b ∨ (Value.slice (some ⟨g, 0, none⟩) L.length c).ownBlock = some k) w1 w2) => h.let hc hv hr hd ok)
      rw [ho] at HA
      change Hid (∀ (w1 w2 : World) (v' : Value), Chg S w w1 → _ → _ → _ → LeftG (PK b (tidyA (L.set i { L[i] with acked := true })) u) S w w2) at LE
      clear h p1 p2 p3 p4 hz ok ho hf HS
      generalize tidyA (L.set i { L[i] with acked := true }) = M at *
      generalize delA overA (L.set i { L[i] with acked := true }) = M2 at *
      generalize L.set i { L[i] with acked := true } = L2 at *
      clear hi
      generalize L.length = n at *
      go_enter Try.func13, Try.ntmps13
      go_wp2_with fail
      refine FI.out.mono ?_
      rintro e w1 ⟨rfl, B1⟩
      have c3 := HA.out w1 B1
      have f3 := HF.out w1 B1
      have T1 := HT.out w1 B1
      have T2 := Hid.intro T1.2
      have GO2 := Hid.intro (GO.out _ T1.1)
      clear FI B1 HA HF HT T1 GO
      go_wp2_with fail
      refine GO2.out.mono ?_
      rintro e w2 ⟨rfl, v', q1, q2, q3⟩
      have FIN := Hid.intro (LE.out _ _ _ T2.out q1 q2 q3)
      clear GO2 LE T2 q1 q2 q3 c3 f3
      go_wp2
      go_ret
      exact ⟨rfl, FIN.out⟩
    · have ho' : L[i].acked = true := by simpa using ho
      simp only [ho', Bool.not_true, Bool.false_eq_true, if_false] at ok ⊢
      rw [ho'] at HA
      clear h p1 p2 p3 p4 hz ok ho ho' hf hi
      generalize L.length = n at *
      go_enter Try.func13, Try.ntmps13
      go_wp2_with fail
      refine FI.out.mono ?_
      rintro e w1 ⟨rfl, B1⟩
      have c3 := HA.out w1 B1
      have BH := Hid.intro (HS.out w1 B1)
      clear FI B1 HS HA
      go_wp2
      go_ret
      exact ⟨rfl, BH.out⟩

set_option maxRecDepth 100000 in
theorem pdclo_any (a : Al) (bed : Int) (bb : Nat) (w : World) (hb : w.cell? ⟨bb, 0, none⟩ = some (.int .i64 bed)) :
    Calls Try.prog 31 #[Avv a, .pointer (some ⟨bb, 0, none⟩)] w fun e w' => e = .returned (.bool (decide (a.bed = bed))) ∧ Below w.heap.size w w' := by
  have HB := Hid.intro ((Below.refl _ w).alloc (Nat.le_refl _) (.cells #[.int .i64 a.bed, .int .i64 a.kind, .int .i64 a.since, .bool a.on, .bool a.acked] 48))
  obtain ⟨a0, a1, a2, a3, a4⟩ := a
  show Calls Try.prog 31 #[.agg #[.int .i64 a0, .int .i64 a1, .int .i64 a2, .bool a3, .bool a4], .pointer (some ⟨bb, 0, none⟩)] w fun e w' => e = .returned (.bool (decide (a0 = bed))) ∧ Below w.heap.size w w'
  have n1 : bb ≠ w.heap.size := by have q : bb < w.heap.size := cell_lt hb; omega
  have hd := cell_chg (below_chg HB.out) hb id
  simp only at hd
  by_cases h1 : a0 = bed
  · subst h1
    simp only [decide_true]
    go_enter Try.func31, Try.ntmps31
    go_wp2
    go_ret
    exact ⟨by simp, HB.out⟩
  · have h1' : (a0 == bed) = false := by rw [beq_eq_false_iff_ne]; exact h1
    simp only [decide_eq_false h1]
    go_enter Try.func31, Try.ntmps31
    go_wp2
    go_ret
    exact ⟨by simp, HB.out⟩

theorem pdrop_nil (bed : Int) (w : World) :
    Calls Try.prog 15 #[.pointer none, .int .i64 bed] w fun e w' => e = .returned (.int .i64 0) ∧ Below w.heap.size w w' := by
  have HB := Hid.intro ((Below.refl _ w).alloc (Nat.le_refl _) (.cells #[.int .i64 bed] 3))
  go_enter Try.func15, Try.ntmps15
  go_wp2
  go_ret
  exact ⟨rfl, HB.out⟩

set_option maxRecDepth 100000 in
set_option maxHeartbeats 1000000 in
theorem pdrop_any (b : Nat) (bed : Int) (S : Nat → Prop) (L : List Al) (u : Int) (w : World) (h : PK b L u S w) :
    Calls Try.prog 15 #[.pointer (some ⟨b, 0, none⟩), .int .i64 bed] w fun e w' => e = .returned (.int .i64 ((L.length : Int) - ((dropA L bed).length : Int))) ∧ LeftG (PK b (dropA L bed) u) S w w' := by
  obtain ⟨v, h⟩ := h
  have hf := h.ok.few
  have B1 : Below w.heap.size w (w.alloc (.cells #[.int .i64 bed] 3)) := (Below.refl _ w).alloc (Nat.le_refl _) _
  have g0 := heap_alloc_new w (.cells #[.int .i64 bed] 3)
  have h1 := h.below B1
  have k0 : blkA v < w.heap.size := by
    unfold blkA
    cases q : v.ownBlock with
    | none => have := h.lt b h.inB; show 0 < _; omega
    | some k => exact h.lt k (h.inV k q)
  have HP : Pred 31 #[.pointer (some ⟨w.heap.size, 0, none⟩)] (fun x => decide (x.bed = bed)) (blkA v) (w.alloc (.cells #[.int .i64 bed] 3)) := fun a W hW => by
    refine pdclo_any a bed w.heap.size W (cell_chg hW (by rw [cell_of_row _ _ 0 _ _ _ g0]; rfl) (fun q => ?_))
    have q' : w.heap.size = blkA v := q
    omega
  have GO := Hid.intro (pletgo_any 31 #[.pointer (some ⟨w.heap.size, 0, none⟩)] (fun x => decide (x.bed = bed)) (enters_of Try.func31 (by kernel_rfl) rfl) b v L u _ h1.raw (by omega) HP)
  have LE := Hid.intro (fun (w2 : World) (v' : Value) (hv : v'.ownBlock = v.ownBlock) (hr : RawP w2 b v' (dropA L bed) u) (hd : Chg (fun k => k = b ∨ v.ownBlock = some k) (w.alloc (.cells #[.int .i64 bed] 3)) w2) => h.let ((below_chg B1).mono (fun _ f _ => f.elim)) hv hr hd (drop_ok h.ok bed))
  change Hid (Calls Try.prog _ _ _ fun e w' => e = .returned (.int .i64 ((L.length : Int) - ((dropA L bed).length : Int))) ∧ ∃ v', v'.ownBlock = v.ownBlock ∧ RawP w' b v' (dropA L bed) u ∧ _) at GO
  clear h h1 HP k0 g0 B1 hf
  generalize ((L.length : Int) - ((dropA L bed).length : Int)) = r at *
  generalize dropA L bed = M at *
  go_enter Try.func15, Try.ntmps15
  go_wp2_with fail
  refine GO.out.mono ?_
  rintro e w2 ⟨rfl, v', q1, q2, q3⟩
  have FIN := Hid.intro (LE.out _ _ q1 q2 q3)
  clear GO LE q1 q2 q3
  go_wp2
  go_ret
  exact ⟨rfl, FIN.out⟩

end Go.Proofs.Ytbeeigfcchjdlaa
