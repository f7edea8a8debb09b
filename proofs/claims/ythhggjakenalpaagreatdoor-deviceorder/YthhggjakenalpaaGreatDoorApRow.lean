/- Rows appended to a row of one's own, for whatever type of elements; plainly, and in a region that draws its order. -/
import Derived.Test.YthhggjakenalpaaGreatDoorBase
import Derived.Laws.OwnMore
import Derived.Laws.AppendOwnNone
import Derived.Maps.AppendAt
import Derived.Deep.RegionHeldLaw
import Derived.ChangeOld
namespace Go.Proofs.YthhggjakenalpaaGreatDoor
set_option maxRecDepth 100000
open Go.RowKit

/-- A type of slices, its elements' type and their cells. -/
structure ElemT (t e : TypeId) (sz : Nat) : Prop where
  und : Tryz.prog.underlying t = some (.slice e)
  inf : ∃ i z bytes, Tryz.prog.info? e = some i ∧ i.zero = some z ∧ i.size = sz ∧ i.bytes = bytes ∧ z.cells.size = sz ∧ bytes ≤ 1000
  pos : 0 < sz

/-- What is appended: nothing, or cells that lie somewhere. -/
def SrcV (w : World) (sz : Nat) (v : Value) (m : Nat) (ys : List Value) : Prop :=
  (v = .slice none 0 0 ∧ m = 0 ∧ ys = []) ∨ ∃ ad c, v = .slice (some ad) m c ∧ ys.length = m * sz ∧ ∀ j u, ys[j]? = some u → w.cell? (ad.add j) = some u

theorem src_own {w : World} {e : TypeId} {sz n : Nat} {v : Value} {xs : List Value} (h : w.ownsRow 0 e sz v n xs) : SrcV w sz v n xs := by
  have h0 := h
  rcases h.2 with ⟨rfl, rfl⟩ | ⟨g, cap, cur, rfl, _⟩
  · refine .inl ⟨rfl, rfl, ?_⟩
    have := h.1
    exact List.eq_nil_of_length_eq_zero (by simpa using this)
  · refine .inr ⟨_, _, rfl, h.1, fun j u hu => ?_⟩
    have hj := (List.getElem?_eq_some_iff.1 hu).1
    rw [WideShapes.add_plain, Nat.zero_add, h0.cellAt j (by rw [← h.1]; exact hj)]
    exact hu

theorem src_block {w : World} {g sz m c : Nat} {t : TypeId} {fr : Nat × Nat} {ys : List Value} (h : w.heap[g]? = some (.cells ys.toArray t fr)) (hl : ys.length = m * sz) : SrcV w sz (.slice (some ⟨g, 0, none⟩) m c) m ys :=
  .inr ⟨_, _, rfl, hl, fun j u hu => by
    rw [WideShapes.add_plain, Nat.zero_add, cell_of_row _ _ _ _ _ _ h]
    simpa using hu⟩

theorem run_append_row {w : World} {t e ty : TypeId} {sz : Nat} (T : ElemT t e sz) {v : Value} {n : Nat} {xs : List Value} (hown : w.ownsRow 0 e sz v n xs)
    {u : Value} {m : Nat} {ys : List Value} (hr : SrcV w sz u m ys) (h1 : ∀ z ∈ ys, z.oneCell' = true) (hb : n + m ≤ 100000) :
    ∃ v' w', (Builtin.append_ #[t, t] ty #[v, u]).run Tryz.prog w = .ok v' w' ∧ w'.ownsRow 0 e sz v' (n + m) (xs ++ ys) ∧ w.grownBy w' v.ownBlock ∧ (v'.ownBlock = v.ownBlock ∨ v'.ownBlock = some w.heap.size) := by
  obtain ⟨i, z, bytes, hi, hz0, hz1, hz2, hz3, hz4⟩ := T.inf
  rcases hr with ⟨rfl, rfl, rfl⟩ | ⟨ad, c, rfl, hl, hn⟩
  · exact ⟨v, w, run_append_owned_none (P := Tryz.prog) (w := w) 0 t ty e i sz T.und hi v n xs hown, by simpa using hown, ⟨rfl, rfl, rfl, Nat.le_refl _, fun _ _ _ => rfl⟩, .inl rfl⟩
  · have hm : (n + m) * bytes ≤ 100000 * 1000 := Nat.mul_le_mul hb hz4
    obtain ⟨v', w', hrr, h2, h3, _, h5⟩ := run_append_own_at (P := Tryz.prog) w 0 t ty e i z sz bytes T.und hi hz0 hz1 hz2 hz3 T.pos v n xs hown ad m c ys hl hn h1 (by unfold maxLen; omega) (by omega) (Nat.zero_le _)
    exact ⟨v', w', hrr, h2, h3, h5⟩

theorem append_row {w : World} {ops : Array Oper} {rest : List Oper} {o : Oper} {a : Act} {Q : Exit → Act → World → Prop} (hgd : o.guard = none) (s x : Operand) {t e : TypeId} {sz : Nat} (T : ElemT t e sz)
    (ho : o.op = .call { callee := .builtin .append, args := #[s, x], argTypes := #[t, t] })
    (v : Value) (n : Nat) (xs : List Value) (hs : a.eval s = v) (hown : w.ownsRow 0 e sz v n xs)
    (u : Value) (m : Nat) (ys : List Value) (hx : a.eval x = u) (hr : SrcV w sz u m ys) (h1 : ∀ z ∈ ys, z.oneCell' = true) (hb : n + m ≤ 100000)
    (h : ∀ v' w', w'.ownsRow 0 e sz v' (n + m) (xs ++ ys) → w.grownBy w' v.ownBlock → (v'.ownBlock = v.ownBlock ∨ v'.ownBlock = some w.heap.size) → wpList Tryz.prog ops Q rest (a.put o.dst v') w') :
    wpList Tryz.prog ops Q (o :: rest) a w := by
  refine wpList_plain hgd fun K hK => ?_
  obtain ⟨v', w', hrr, h2, h3, h5⟩ := run_append_row (ty := o.type) T hown hr h1 hb
  unfold Oper.wp execOp
  simp only [ho, resolve, invoke, builtin, Sem.run_bind, Sem.run_pure, Result.andThen_ok, List.map_toArray, List.map_cons, List.map_nil, hs, hx, hrr]
  exact hK _ _ (h v' w' h2 h3 h5)

theorem step_append_row {w : World} {ops : Array Oper} {o : Oper} {a : Act} {K : Act → World → Prop} {Q : Exit → Act → World → Prop} {E : Prop} (hgd : o.guard = none) (s x : Operand) {t e : TypeId} {sz : Nat} (T : ElemT t e sz)
    (ho : o.op = .call { callee := .builtin .append, args := #[s, x], argTypes := #[t, t] })
    (v : Value) (n : Nat) (xs : List Value) (hs : a.eval s = v) (hown : w.ownsRow 0 e sz v n xs)
    (u : Value) (m : Nat) (ys : List Value) (hx : a.eval x = u) (hr : SrcV w sz u m ys) (h1 : ∀ z ∈ ys, z.oneCell' = true) (hb : n + m ≤ 100000)
    (h : ∀ v' w', w'.ownsRow 0 e sz v' (n + m) (xs ++ ys) → w.grownBy w' v.ownBlock → (v'.ownBlock = v.ownBlock ∨ v'.ownBlock = some w.heap.size) → K (a.put o.dst v') w') :
    if Region.wanted o (yielded ops a.tmps) = true then Oper.wp Tryz.prog o a w K Q else E := by
  have hw : Region.wanted o (yielded ops a.tmps) = true := by simp [Region.wanted, hgd]
  rw [if_pos hw]
  obtain ⟨v', w', hrr, h2, h3, h5⟩ := run_append_row (ty := o.type) T hown hr h1 hb
  unfold Oper.wp execOp
  simp only [ho, resolve, invoke, builtin, Sem.run_bind, Sem.run_pure, Result.andThen_ok, List.map_toArray, List.map_cons, List.map_nil, hs, hx, hrr]
  exact h v' w' h2 h3 h5

theorem own_emptyR {W : World} {k : Nat} {e : TypeId} {sz : Nat} (h : W.heap[k]? = some (.cells #[] e (0, 0))) : W.ownsRow 0 e sz (.slice (some ⟨k, 0, none⟩) 0 0) 0 [] :=
  ⟨by simp, .inr ⟨k, 0, #[], rfl, Nat.zero_le _, h, Nat.le_refl _, Nat.zero_le _, by simp, by simp⟩⟩

theorem own_noneR (W : World) (e : TypeId) (sz : Nat) : W.ownsRow 0 e sz (.slice none 0 0) 0 [] := ⟨by simp, .inl ⟨rfl, rfl⟩⟩

theorem bel_allocR {H : Nat} {a W : World} (h : Below H a W) (hH : H ≤ a.heap.size) (o : Obj) : Below H a (W.alloc o) := h.alloc (Nat.le_trans hH h.size) o

theorem alloc_atR {W : World} {o : Obj} {k : Nat} (h : k = W.heap.size) : (W.alloc o).heap[k]? = some o := by rw [h]; exact heap_alloc_new W o

theorem alloc_farR {W : World} {o v : Obj} {k : Nat} (h : W.heap[k]? = some v) : (W.alloc o).heap[k]? = some v := (Below.heap_alloc W o k (Array.getElem?_eq_some_iff.1 h).1).trans h

theorem alloc_keepR {W : World} {o : Obj} {k : Nat} (h : k < W.heap.size) : (W.alloc o).heap[k]? = W.heap[k]? := Below.heap_alloc W o k h

/-- What an append leaves as it was. -/
theorem grownR {w w1 w2 : World} {v v' : Value} {B : Nat} (hgrow : w1.grownBy w2 v.ownBlock) (hat : v'.ownBlock = v.ownBlock ∨ v'.ownBlock = some w1.heap.size) (hB : Below B w w1) (hBw : B ≤ w.heap.size) (hv : ∀ k, v.ownBlock = some k → B ≤ k) :
    Below B w w2 ∧ ∀ k, v'.ownBlock = some k → B ≤ k := by
  have hs := hB.size
  refine ⟨hB.grown hgrow (by omega) hv, fun k hk => ?_⟩
  rcases hat with h | h
  · exact hv k (by rw [← h]; exact hk)
  · rw [hk] at h
    have e : k = w1.heap.size := by simpa using h
    omega

/-- Behind the first append, onto a new empty row. -/
structure ApF (e : TypeId) (sz H : Nat) (w0 : World) (n : Nat) (xs : List Value) (W wa : World) (va : Value) : Prop where
  own : wa.ownsRow 0 e sz va n xs
  below : Below H w0 wa
  ge : ∀ k, va.ownBlock = some k → H ≤ k
  keep : ∀ (k : Nat) (o : Obj), W.heap[k]? = some o → o ≠ .cells #[] e (0, 0) → wa.heap[k]? = some o

theorem apF {e : TypeId} {sz H : Nat} {w0 W wa : World} {n : Nat} {xs : List Value} {k0 : Nat} {va : Value} (hE : W.heap[k0]? = some (.cells #[] e (0, 0))) (he : H ≤ k0) (hB : Below H w0 W) (hH : H ≤ w0.heap.size)
    (hown : wa.ownsRow 0 e sz va (0 + n) ([] ++ xs)) (hgrow : W.grownBy wa (some k0)) (hat : va.ownBlock = some k0 ∨ va.ownBlock = some W.heap.size) : ApF e sz H w0 n xs W wa va := by
  have hs := hB.size
  refine ⟨by rw [Nat.zero_add, List.nil_append] at hown; exact hown, ⟨hgrow.os.trans hB.os, hgrow.tape.trans hB.tape, hgrow.output.trans hB.output, Nat.le_trans hs hgrow.size, fun k hk => (hgrow.block k (by omega) (fun q => by cases q; omega)).trans (hB.block k hk)⟩, fun k hk => ?_, fun k o ho hn => ?_⟩
  · rcases hat with q | q
    · rw [q] at hk; cases hk; exact he
    · rw [q] at hk; cases hk; omega
  · have hk := (Array.getElem?_eq_some_iff.1 ho).1
    have hne : k ≠ k0 := fun q => by subst q; rw [hE] at ho; cases ho; exact hn rfl
    exact (hgrow.block k hk (fun q => hne (by cases q; rfl))).trans ho

/-- A row of one's own in new memory. -/
structure NewR (e : TypeId) (sz H : Nat) (w0 : World) (n : Nat) (xs : List Value) (wb : World) (vb : Value) : Prop where
  own : wb.ownsRow 0 e sz vb n xs
  below : Below H w0 wb
  ge : ∀ k, vb.ownBlock = some k → H ≤ k

theorem newR {e : TypeId} {sz H : Nat} {w0 W2 wb : World} {n : Nat} {xs : List Value} {va vb : Value} (ge : ∀ k, va.ownBlock = some k → H ≤ k) (hB : Below H w0 W2) (hH : H ≤ w0.heap.size)
    (hown : wb.ownsRow 0 e sz vb n xs) (hgrow : W2.grownBy wb va.ownBlock) (hat : vb.ownBlock = va.ownBlock ∨ vb.ownBlock = some W2.heap.size) : NewR e sz H w0 n xs wb vb := by
  obtain ⟨g1, g2⟩ := grownR hgrow hat hB hH ge
  exact ⟨hown, g1, g2⟩

end Go.Proofs.YthhggjakenalpaaGreatDoor
