/- Package edf: a line in memory; its methods, as container/heap calls them. -/
import Derived.Test.YtgcpkploeobafaaEdK2
import Derived.Test.YtgcpkploeobafaaHpP
import Derived.Deep.RegionHeldLaw
import Derived.Deep.RegionLaw
import Derived.WalkSmall
namespace Go.Proofs.Ytgcpkploeobafaa
open Go.RowKit
open Bt

theorem cellB {w w' : World} (h : Below w.heap.size w w') {a : Addr} {v : Value} (hc : w.cell? a = some v) : w'.cell? a = some v := (h.cell (cell_lt hc)).trans hc

/-- A line: the first cell of a block holds its slice, behind it lies what tl tells; the slice's array is its own. -/
structure LnV (b : Nat) (tb : TypeId) (tl : List Value) (S : Nat → Prop) (w : World) (v : Value) (l : List It) : Prop where
  head : w.heap[b]? = some (.cells (v :: tl).toArray tb (0, 0))
  own : w.ownsRow 0 56 8 v l.length (wcells l)
  inB : S b
  inV : ∀ k, v.ownBlock = some k → S k ∧ k ≠ b
  lt : ∀ k, S k → k < w.heap.size

def Ln (b : Nat) (tb : TypeId) (tl : List Value) (S : Nat → Prop) (w : World) (h : Nat → It) (n : Nat) : Prop := ∃ v, LnV b tb tl S w v ((List.range n).map h)

section
variable {b : Nat} {tb : TypeId} {tl : List Value} {S : Nat → Prop} {w w' : World} {v : Value} {l : List It} {h : Nat → It} {n : Nat}

theorem LnV.cell (h : LnV b tb tl S w v l) : w.cell? ⟨b, 0, none⟩ = some v := by rw [cell_of_row _ _ 0 _ _ _ h.head]; rfl

theorem LnV.nofz (h : LnV b tb tl S w v l) : w.frozen? ⟨b, 0, none⟩ = false := frozen_of_row w b 0 _ _ h.head

theorem LnV.kept {T : Nat → Prop} (h : LnV b tb tl S w v l) (hc : Chg T w w') (hT : ∀ k, S k → ¬ T k) : LnV b tb tl S w' v l :=
  ⟨(hc.block b (h.lt b h.inB) (hT b h.inB)).trans h.head, ownsRow_keep h.own fun k hk => hc.block k (World.ownsRow.lt h.own k hk).2 (hT k (h.inV k hk).1), h.inB, h.inV, fun k hk => Nat.lt_of_lt_of_le (h.lt k hk) hc.size⟩

theorem LnV.below (h : LnV b tb tl S w v l) (hb : Below w.heap.size w w') : LnV b tb tl S w' v l := h.kept (below_chg hb) (fun _ _ => id)

theorem LnV.form (h : LnV b tb tl S w v l) : ∃ ao c, v = .slice ao l.length c ∧ (l.length = 0 ∨ ∃ g, ao = some ⟨g, 0, none⟩) := ownsRow_form h.own

/-- The array is written, and nothing else. -/
theorem LnV.wrote {g c : Nat} {l' : List It} (h : LnV b tb tl S w (.slice (some ⟨g, 0, none⟩) l.length c) l) (hC : Chg (fun k => k = g) w w') (hl : l'.length = l.length)
    (own : w'.ownsRow 0 56 8 (.slice (some ⟨g, 0, none⟩) l.length c) l.length (wcells l')) : LnV b tb tl S w' (.slice (some ⟨g, 0, none⟩) l.length c) l' ∧ Chg S w w' := by
  have hg := h.inV g rfl
  exact ⟨⟨(hC.block b (h.lt b h.inB) (fun q => hg.2 q.symm)).trans h.head, by rw [hl]; exact own, h.inB, h.inV, fun k hk => Nat.lt_of_lt_of_le (h.lt k hk) hC.size⟩, hC.mono (fun k q _ => by rw [q]; exact hg.1)⟩

theorem mapr_length : ((List.range n).map h).length = n := by simp

theorem mapr_at {i : Nat} (hi : i < ((List.range n).map h).length) : ((List.range n).map h)[i] = h i := by simp

theorem mapr_swap {i j : Nat} (hi : i < n) (hj : j < n) : (((List.range n).map h).set i (h j)).set j (h i) = (List.range n).map (swp h i j) := by
  apply List.ext_getElem
  · simp
  · intro k h1 h2
    simp only [List.length_set, List.length_map, List.length_range] at h1
    simp only [List.getElem_set, List.getElem_map, List.getElem_range, swp]
    by_cases e1 : k = j
    · subst e1
      rw [if_pos rfl]
      by_cases e2 : k = i
      · subst e2; simp
      · rw [if_neg e2, if_pos rfl]
    · rw [if_neg (fun q => e1 q.symm)]
      by_cases e2 : k = i
      · subst e2; rw [if_pos rfl, if_pos rfl]
      · rw [if_neg (fun q => e2 q.symm), if_neg e2, if_neg e1]

theorem mapr_upd (x : It) : (List.range (n + 1)).map (updH h n x) = (List.range n).map h ++ [x] := by
  rw [List.range_succ, List.map_append]
  congr 1
  · refine List.map_congr_left fun k hk => ?_
    have : k < n := List.mem_range.1 hk
    unfold updH
    rw [if_neg (by omega)]
  · simp [updH]

theorem mapr_succ : (List.range (n + 1)).map h = (List.range n).map h ++ [h n] := by rw [List.range_succ, List.map_append]; rfl

theorem load_line {W : World} (hc : W.cell? ⟨b, 0, none⟩ = some v) : (loadVar 51 ⟨b, 0, none⟩).run Try.prog W = .ok v W := by
  simp [loadVar, isAgg, run_underlying Try.underlying51, hc]

end

theorem heapc_line (b : Nat) (tb : TypeId) (tl : List Value) (S : Nat → Prop) : HeapC b 0 S (Ln b tb tl S) := by
  refine ⟨fun W h n hM => ?_, fun W h n hM => ?_, fun W h n hM => ?_⟩
  · obtain ⟨v, hv⟩ := hM
    refine ⟨v, fun fuel => meth_val (sig := 76) Try.underlying61 (by kernel_rfl) fuel _ _ _ (load_line hv.cell), fun i j hi hj => ?_⟩
    obtain ⟨ao, c, rfl, hf⟩ := hv.form
    obtain ⟨g, rfl⟩ := hf.resolve_left (by simp; omega)
    refine (eless_any g c i j _ (by simpa using hi) (by simpa using hj) W hv.own).mono ?_
    rintro e w' ⟨rfl, B⟩
    exact ⟨by simp, ⟨_, hv.below B⟩, (below_chg B).mono (fun _ f _ => f.elim)⟩
  · obtain ⟨v, hv⟩ := hM
    refine ⟨v, fun fuel => meth_val (sig := 74) Try.underlying61 (by kernel_rfl) fuel _ _ _ (load_line hv.cell), fun i j hi hj => ?_⟩
    obtain ⟨ao, c, rfl, hf⟩ := hv.form
    obtain ⟨g, rfl⟩ := hf.resolve_left (by simp; omega)
    refine (eswap_any g c i j _ (by simpa using hi) (by simpa using hj) W hv.own).mono ?_
    rintro e w' ⟨rfl, O, C⟩
    obtain ⟨q1, q2⟩ := hv.wrote C (by simp) O
    rw [mapr_at, mapr_at, mapr_swap hi hj] at q1
    exact ⟨rfl, ⟨_, q1⟩, q2⟩
  · obtain ⟨v, hv⟩ := hM
    refine ⟨v, fun fuel => meth_val (sig := 32) Try.underlying61 (by kernel_rfl) fuel _ _ _ (load_line hv.cell), ?_⟩
    obtain ⟨ao, c, rfl, hf⟩ := hv.form
    refine (elen_any ao _ c W).mono ?_
    rintro e w' ⟨rfl, rfl⟩
    exact ⟨by simp, ⟨_, hv⟩, Chg.refl _ _⟩

theorem meth_pop (b : Nat) (W : World) (fuel : Nat) : (method (fuel + 1) 61 (.pointer (some ⟨b, 0, none⟩)) "Pop").run Try.prog W = .ok (61, .pointer (some ⟨b, 0, none⟩)) W :=
  meth_ptr (sig := 75) Try.underlying61 (by kernel_rfl) fuel _ W

theorem meth_push (b : Nat) (W : World) (fuel : Nat) : (method (fuel + 1) 61 (.pointer (some ⟨b, 0, none⟩)) "Push").run Try.prog W = .ok (62, .pointer (some ⟨b, 0, none⟩)) W :=
  meth_ptr (sig := 72) Try.underlying61 (by kernel_rfl) fuel _ W

/-- What waits, as an interface's value. -/
abbrev Wi (a : It) : Value := .iface 56 (Wv a)

section
variable {b : Nat} {tb : TypeId} {tl : List Value} {S : Nat → Prop} {w w' : World} {v v' : Value} {l l' : List It}

/-- Another slice is laid, over an array that is the line's own or new. -/
theorem LnV.laid {W : World} (h : LnV b tb tl S w v l) (hb : W.heap[b]? = w.heap[b]?) (hsz : w.heap.size ≤ W.heap.size) (own : W.ownsRow 0 56 8 v' l'.length (wcells l')) (hv : ∀ k, v'.ownBlock = some k → k ≠ b ∧ (S k ∨ w.heap.size ≤ k)) :
    LnV b tb tl (fun k => S k ∨ v'.ownBlock = some k) (W.setCell ⟨b, 0, none⟩ v') v' l' := by
  have h0 := hb.trans h.head
  have h3 := heap_setCell_same W b 0 _ _ v' h0
  have C : Chg (fun k => k = b) W (W.setCell ⟨b, 0, none⟩ v') := Chg.setCell (S := fun k => k = b) (Chg.refl _ W) (fun _ => rfl) _
  have own' := ownsRow_keep own fun k hk => C.block k (World.ownsRow.lt own k hk).2 (hv k hk).1
  refine ⟨by rw [h3]; simp, own', .inl h.inB, fun k hk => ⟨.inr hk, (hv k hk).1⟩, fun k hk => ?_⟩
  have hs2 := C.size
  rcases hk with q | q
  · have := h.lt k q; omega
  · exact (World.ownsRow.lt own' k q).2
end

end Go.Proofs.Ytgcpkploeobafaa
