/- Numbers appended to a row of numbers of one's own, in a region that draws its order: whatever numbers, none too. -/
import Derived.Test.YthfmgdhhjnngaaaNumL
import Derived.Laws.AppendOwnNone
import Derived.Maps.AppendAt
import Derived.Deep.RegionHeldLaw
import Derived.ChangeOld
namespace Go.Proofs.Ythfmgdhhjnngaaa
open Go.RowKit
open Bt

abbrev Nv (n : Int) : Value := .int .i64 n

theorem info_intN : (Try.prog.info? 3).map (fun i => (i.zero, i.size, i.bytes)) = some (some (.int .i64 0), 1, 8) := by kernel_rfl

theorem news_nums {R : Nat → Prop} {w : World} {ad : Addr} {m c : Nat} {ms : List Int} (h : NumsAt R w (.slice (some ad) m c) ms) : ∀ j u, (ms.map Nv)[j]? = some u → w.cell? (ad.add j) = some u := by
  intro j u hu
  have hj := (List.getElem?_eq_some_iff.1 hu).1
  rw [List.length_map] at hj
  obtain ⟨ao, cap, e, hp⟩ := h
  simp only [Value.slice.injEq] at e
  obtain ⟨rfl, _, _⟩ := e
  obtain ⟨pb, off, ha, _, hc⟩ := hp (by omega)
  simp only [Option.some.injEq] at ha
  subst ha
  rw [WideShapes.add_plain, hc j hj]
  simpa [hj] using hu

theorem nv_one (ms : List Int) : ∀ u ∈ ms.map Nv, u.oneCell' = true := fun u hu => by
  obtain ⟨n, _, rfl⟩ := List.mem_map.1 hu
  rfl

theorem step_append_nums {w : World} {ops : Array Oper} {o : Oper} {a : Act} {K : Act → World → Prop} {Q : Exit → Act → World → Prop} {E : Prop} (hgd : o.guard = none) (s x : Operand)
    (ho : o.op = .call { callee := .builtin .append, args := #[s, x], argTypes := #[31, 31] })
    (v : Value) (n : Nat) (l : List Int) (hs : a.eval s = v) (hown : w.ownsRow 0 3 1 v n (l.map Nv))
    (R : Nat → Prop) (ao : Option Addr) (m c : Nat) (ms : List Int) (hm : m = ms.length) (hx : a.eval x = .slice ao m c) (hr : NumsAt R w (.slice ao m c) ms) (h0 : ao = none → c = 0)
    (hb : n + m ≤ 100000)
    (h : ∀ v' w', w'.ownsRow 0 3 1 v' (n + m) ((l ++ ms).map Nv) → w.grownBy w' v.ownBlock → (v'.ownBlock = v.ownBlock ∨ v'.ownBlock = some w.heap.size) → K (a.put o.dst v') w') :
    if Region.wanted o (yielded ops a.tmps) = true then Oper.wp Try.prog o a w K Q else E := by
  have hw : Region.wanted o (yielded ops a.tmps) = true := by simp [Region.wanted, hgd]
  rw [if_pos hw]
  obtain ⟨i, hi, hz0, hz1, hz2⟩ := info_parts info_intN
  match ao, hx, hr, h0 with
  | none, hx, hr, h0 =>
    have hl0 : ms.length = 0 := by
      rcases Nat.eq_zero_or_pos ms.length with h | h
      · exact h
      · obtain ⟨ao', cap, e, hp⟩ := hr
        simp only [Value.slice.injEq] at e
        obtain ⟨rfl, _, _⟩ := e
        obtain ⟨pb, off, e2, _⟩ := hp h
        cases e2
    obtain rfl : ms = [] := List.eq_nil_of_length_eq_zero hl0
    subst hm
    rw [h0 rfl] at hx
    have hrun := run_append_owned_none (P := Try.prog) (w := w) 0 31 o.type 3 i 1 Try.underlying31 hi v n (l.map Nv) hown
    unfold Oper.wp
    simp [execOp, ho, resolve, invoke, builtin, hs, hx, hrun, Result.andThen]
    exact h v w (by simpa using hown) ⟨rfl, rfl, rfl, Nat.le_refl _, fun _ _ _ => rfl⟩ (.inl rfl)
  | some ad, hx, hr, _ =>
    obtain ⟨v', w', hrr, h2, h3, _, h5⟩ := run_append_own_at (P := Try.prog) w 0 31 o.type 3 i (.int .i64 0) 1 8 Try.underlying31 hi hz0 hz1 hz2 rfl (by decide) v n (l.map Nv) hown ad m c (ms.map Nv) (by rw [List.length_map, hm]; omega) (news_nums hr) (nv_one ms) (by unfold maxLen; omega) (by omega) (Nat.zero_le _)
    unfold Oper.wp execOp
    simp only [ho, resolve, invoke, builtin, Sem.run_bind, Sem.run_pure, Result.andThen_ok, List.map_toArray, List.map_cons, List.map_nil, hs, hx, hrr]
    exact h v' w' (by rw [List.map_append]; exact h2) h3 h5

theorem own_emptyI {W : World} {e : Nat} (h : W.heap[e]? = some (.cells #[] 3 (0, 0))) : W.ownsRow 0 3 1 (.slice (some ⟨e, 0, none⟩) 0 0) 0 (([] : List Int).map Nv) :=
  ⟨rfl, .inr ⟨e, 0, #[], rfl, Nat.zero_le _, h, Nat.le_refl _, Nat.zero_le _, rfl, rfl⟩⟩

theorem bel_allocI {H : Nat} {a W : World} (h : Below H a W) (hH : H ≤ a.heap.size) (o : Obj) : Below H a (W.alloc o) := h.alloc (Nat.le_trans hH h.size) o

theorem alloc_atI {W : World} {o : Obj} {k : Nat} (h : k = W.heap.size) : (W.alloc o).heap[k]? = some o := by rw [h]; exact heap_alloc_new W o

theorem alloc_farI {W : World} {o v : Obj} {k : Nat} (h : W.heap[k]? = some v) : (W.alloc o).heap[k]? = some v := (Below.heap_alloc W o k (Array.getElem?_eq_some_iff.1 h).1).trans h

/-- What an append leaves as it was. -/
theorem grownI {w w1 w2 : World} {v v' : Value} {B : Nat} (hgrow : w1.grownBy w2 v.ownBlock) (hat : v'.ownBlock = v.ownBlock ∨ v'.ownBlock = some w1.heap.size) (hB : Below B w w1) (hBw : B ≤ w.heap.size) (hv : ∀ k, v.ownBlock = some k → B ≤ k) :
    Below B w w2 ∧ ∀ k, v'.ownBlock = some k → B ≤ k := by
  have hs := hB.size
  refine ⟨hB.grown hgrow (by omega) hv, fun k hk => ?_⟩
  rcases hat with h | h
  · exact hv k (by rw [← h]; exact hk)
  · rw [hk] at h
    have e : k = w1.heap.size := by simpa using h
    omega

/-- Behind the first append. -/
structure AppFI (H : Nat) (w0 : World) (L : Nat) (l : List Int) (W wa : World) (va : Value) : Prop where
  own : wa.ownsRow 0 3 1 va L (l.map Nv)
  below : Below H w0 wa
  ge : ∀ k, va.ownBlock = some k → H ≤ k
  keep : ∀ (k : Nat) (o : Obj), W.heap[k]? = some o → o ≠ .cells #[] 3 (0, 0) → wa.heap[k]? = some o

theorem appFI {H : Nat} {w0 W wa : World} {L : Nat} {l : List Int} {e : Nat} {va : Value} (hE : W.heap[e]? = some (.cells #[] 3 (0, 0))) (he : H ≤ e) (hB : Below H w0 W) (hH : H ≤ w0.heap.size)
    (hown : wa.ownsRow 0 3 1 va (0 + L) (([] ++ l).map Nv)) (hgrow : W.grownBy wa (some e)) (hat : va.ownBlock = some e ∨ va.ownBlock = some W.heap.size) : AppFI H w0 L l W wa va := by
  have hs := hB.size
  refine ⟨by rw [Nat.zero_add, List.nil_append] at hown; exact hown, ⟨hgrow.os.trans hB.os, hgrow.tape.trans hB.tape, hgrow.output.trans hB.output, Nat.le_trans hs hgrow.size, fun k hk => (hgrow.block k (by omega) (fun q => by cases q; omega)).trans (hB.block k hk)⟩, fun k hk => ?_, fun k o ho hn => ?_⟩
  · rcases hat with q | q
    · rw [q] at hk; cases hk; exact he
    · rw [q] at hk; cases hk; omega
  · have hk := (Array.getElem?_eq_some_iff.1 ho).1
    have hne : k ≠ e := fun q => by subst q; rw [hE] at ho; cases ho; exact hn rfl
    exact (hgrow.block k hk (fun q => hne (by cases q; rfl))).trans ho

/-- Behind a further one. -/
structure AppGI (H : Nat) (w0 : World) (L : Nat) (l : List Int) (wb : World) (vb : Value) : Prop where
  own : wb.ownsRow 0 3 1 vb L (l.map Nv)
  below : Below H w0 wb
  ge : ∀ k, vb.ownBlock = some k → H ≤ k

theorem appGI {H : Nat} {w0 W2 wb : World} {L : Nat} {l : List Int} {va vb : Value} (ge : ∀ k, va.ownBlock = some k → H ≤ k) (hB : Below H w0 W2) (hH : H ≤ w0.heap.size)
    (hown : wb.ownsRow 0 3 1 vb L (l.map Nv)) (hgrow : W2.grownBy wb va.ownBlock) (hat : vb.ownBlock = va.ownBlock ∨ vb.ownBlock = some W2.heap.size) : AppGI H w0 L l wb vb := by
  obtain ⟨g1, g2⟩ := grownI hgrow hat hB hH ge
  exact ⟨hown, g1, g2⟩

/-- A part of a row of numbers. -/
theorem nums_part {w : World} {g n c : Nat} {l : List Int} (own : w.ownsRow 0 3 1 (.slice (some ⟨g, 0, none⟩) n c) n (l.map Nv)) (i m c' : Nat) (him : i + m ≤ n) (ad : Addr) (had : 0 < m → ad = ⟨g, i, none⟩) : NumsAt (fun _ => True) w (.slice (some ad) m c') ((l.drop i).take m) := by
  have hl : l.length = n := by have := own.1; simpa using this
  have hlen : ((l.drop i).take m).length = m := by rw [List.length_take, List.length_drop]; omega
  refine ⟨some ad, c', by rw [hlen], fun h0 => ⟨g, i, by rw [had (by omega)], trivial, fun t ht => ?_⟩⟩
  rw [own.cellAt (i + t) (by omega)]
  have : i + t < l.length := by omega
  simp [this]

theorem nums_cell {w : World} {k : Nat} {n : Int} (h : w.heap[k]? = some (.cells #[.int .i64 n] 3 (0, 0))) (c : Nat) : NumsAt (fun _ => True) w (.slice (some ⟨k, 0, none⟩) 1 c) [n] :=
  ⟨some ⟨k, 0, none⟩, c, rfl, fun _ => ⟨k, 0, rfl, trivial, fun t ht => by
    obtain rfl : t = 0 := by (simpa using ht)
    rw [cell_of_row w k _ _ _ _ h]; rfl⟩⟩

theorem nums_nilI (w : World) : NumsAt (fun _ => True) w (.slice none 0 0) [] := ⟨none, 0, rfl, fun h => absurd h (by simp)⟩

end Go.Proofs.Ythfmgdhhjnngaaa
