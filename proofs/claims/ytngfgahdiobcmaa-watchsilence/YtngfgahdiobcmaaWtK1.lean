/- Package watch: a watch in memory; New, within. -/
import Derived.Test.YtngfgahdiobcmaaWtVal
namespace Go.Proofs.Ytngfgahdiobcmaa
open Go.RowKit
open Bt

theorem info_ws15 : (Try.prog.info? 58).map (fun i => (i.zero, i.size, i.bytes)) = some (some (.agg #[.int .i64 0, .int .i64 0, .int .i64 0, .bool false]), 4, 32) := by kernel_rfl

theorem elem_ws15 : ElemT 54 58 4 := by
  obtain ⟨i, hi, hz0, hz1, hz2⟩ := info_parts info_ws15
  exact ⟨Try.underlying54, ⟨i, _, 32, hi, hz0, hz1, hz2, rfl, by omega⟩, by omega⟩

/-- A watch: its own block, and its list. -/
structure WtS (S : Nat → Prop) (w : World) (b : Nat) (v : Value) (L : List Wb) : Prop where
  head : w.heap[b]? = some (.cells #[v] 56 (0, 0))
  own : w.ownsRow 0 58 4 v L.length (wcells15 L)
  inB : S b
  inV : ∀ k, v.ownBlock = some k → S k
  lt : ∀ k, S k → k < w.heap.size
  ok : OkWb L

/-- The same, as something that owns its blocks. -/
def WS (b : Nat) (L : List Wb) : (Nat → Prop) → World → Prop := fun S w => ∃ v, WtS S w b v L

variable {S T : Nat → Prop} {w w' : World} {b : Nat} {v : Value} {L : List Wb}

theorem WtS.kept (h : WtS S w b v L) (hc : Chg T w w') (hT : ∀ k, S k → ¬ T k) : WtS S w' b v L :=
  ⟨(hc.block b (h.lt b h.inB) (hT b h.inB)).trans h.head, ownsRow_keep h.own fun k hk => hc.block k (World.ownsRow.lt h.own k hk).2 (hT k (h.inV k hk)), h.inB, h.inV, fun k hk => Nat.lt_of_lt_of_le (h.lt k hk) hc.size, h.ok⟩

theorem WtS.below (h : WtS S w b v L) (hb : Below w.heap.size w w') : WtS S w' b v L := h.kept (below_chg hb) (fun _ _ => id)

theorem ws_owned (b : Nat) (L : List Wb) : Owned (WS b L) := ⟨fun ⟨v, h⟩ hc hT => ⟨v, h.kept hc hT⟩, fun ⟨_, h⟩ => h.lt⟩

theorem WtS.same (h : WtS S w b v L) (hb : Below w.heap.size w w') : LeftG (WS b L) S w w' :=
  ⟨S, ⟨v, h.below hb⟩, (below_chg hb).mono (fun _ f _ => f.elim), fun _ hk => .inl hk⟩

theorem WtS.cells (h : WtS S w b v L) : w.cell? ⟨b, 0, none⟩ = some v ∧ w.frozen? ⟨b, 0, none⟩ = false :=
  ⟨by rw [cell_of_row w _ 0 _ _ _ h.head]; rfl, frozen_of_row w b 0 _ _ h.head⟩

theorem ws_at {n c g : Nat} (h : w.ownsRow 0 58 4 (.slice (some ⟨g, 0, none⟩) n c) n (wcells15 L)) {t : Nat} (ht : t < L.length) : WbAt w g (t * 4) L[t] := by
  have hl : L.length = n := by have := h.1; rw [wcells15_length] at this; omega
  have q : ∀ j, j < 4 → w.cell? ⟨g, t * 4 + j, none⟩ = (wcell15 L[t])[j]? := fun j hj => by
    rw [h.cellAt (t * 4 + j) (by omega)]
    exact wcells15_at L ht hj
  exact ⟨q 0 (by omega), q 1 (by omega), q 2 (by omega), q 3 (by omega)⟩

/-- One of its cells is written. -/
theorem WtS.put {g c n i k : Nat} {y : Wb} {u : Value} (h : WtS S w b (.slice (some ⟨g, 0, none⟩) n c) L) (hi : i < L.length) (hk : k < 4) (hy : wcell15 y = (wcell15 L[i]).set k u) (ok : OkWb (L.set i y)) :
    WtS S (w.setCell ⟨g, i * 4 + k, none⟩ u) b (.slice (some ⟨g, 0, none⟩) n c) (L.set i y) ∧ Chg S w (w.setCell ⟨g, i * 4 + k, none⟩ u) := by
  have hc : Chg (fun k => k = g) w (w.setCell ⟨g, i * 4 + k, none⟩ u) := Chg.setCell (S := fun k => k = g) (Chg.refl _ w) (p := ⟨g, i * 4 + k, none⟩) (fun _ => rfl) _
  obtain rfl : n = L.length := by obtain ⟨_, _, e, _⟩ := ownsRow_form h.own; cases e; rfl
  have hgb : g ≠ b := fun e => row_not_block h.own h.head (by decide) (by rw [← e]; rfl)
  have st := (World.ownsRow.stored h.own (i * 4 + k) u).1
  rw [wcells15_set L hi hk hy] at st
  refine ⟨⟨(hc.block b (h.lt b h.inB) (fun e => hgb e.symm)).trans h.head, ?_, h.inB, h.inV, fun k hk => Nat.lt_of_lt_of_le (h.lt k hk) hc.size, ok⟩, hc.mono (fun k e _ => by rw [e]; exact h.inV g rfl)⟩
  rw [List.length_set]
  exact st

/-- Its list is another one, in new memory. -/
theorem WtS.laid {ws : World} {v' : Value} {L' : List Wb} {n : Nat} (h : WtS S w b v L) (hN : NewR 58 4 w.heap.size w n (wcells15 L') ws v') (hn : n = L'.length) (ok : OkWb L') :
    (ws.cell? ⟨b, 0, none⟩ = some v ∧ ws.frozen? ⟨b, 0, none⟩ = false) ∧ LeftG (WS b L') S w (ws.setCell ⟨b, 0, none⟩ v') := by
  subst hn
  have h1 := h.below hN.below
  have C : Chg (fun k => k = b) ws (ws.setCell ⟨b, 0, none⟩ v') := (Chg.refl _ ws).setCell (S := fun k => k = b) (p := ⟨b, 0, none⟩) (fun _ => rfl) _
  have s1 := hN.below.size
  have s2 := C.size
  refine ⟨h1.cells, fun k => (S k ∨ w.heap.size ≤ k) ∧ k < ws.heap.size, ⟨v', ⟨by rw [heap_setCell_same ws b 0 _ _ v' h1.head]; rfl, ?_, ⟨.inl h.inB, by have := h.lt b h.inB; omega⟩, fun k hk => ⟨.inr (hN.ge k hk), (World.ownsRow.lt hN.own k hk).2⟩, fun k hk => by have := hk.2; omega, ok⟩⟩, ?_, fun k hk => hk.1⟩
  · exact ownsRow_keep hN.own fun k hk => C.block k (World.ownsRow.lt hN.own k hk).2 (fun q => row_not_block hN.own h1.head (by decide) (by rw [← q]; exact hk))
  · exact ((below_chg hN.below).mono (fun _ f _ => f.elim)).trans C (fun k hk _ => by subst hk; exact h.inB)

theorem ws_new (w : World) : WS w.heap.size [] (fun k => k = w.heap.size) (w.alloc (.cells #[.slice none 0 0] 56)) :=
  ⟨.slice none 0 0, ⟨heap_alloc_new w _, own_noneR _ _ _, rfl, fun k hk => (by cases hk), fun k hk => (by rw [hk]; simp), okWb_nil⟩⟩

end Go.Proofs.Ytngfgahdiobcmaa
