/- A limit, and a list of acts of layer 14, among a law's arguments. -/
import Derived.Test.YtcloneccfbcclaaCellsArg
import Derived.Test.YtcloneccfbcclaaLmVal
import Derived.Lib.SmallJoins
namespace Go.Proofs.Ytcloneccfbcclaa
open Go.ChangeShapes Go.WideShapes Go.ChangeAt Go.RowKit Go.Joins Go.Deep
open Bt

theorem array5 {α : Type} {cs : Array α} (h : cs.size = 5) : ∃ c0 c1 c2 c3 c4, cs = #[c0, c1, c2, c3, c4] := by
  obtain ⟨l⟩ := cs
  match l, h with
  | [c0, c1, c2, c3, c4], _ => exact ⟨c0, c1, c2, c3, c4, rfl⟩

/-- A limit's numbers are numbers of 64 bits. -/
structure LmW (l : Lm) : Prop where
  bed : (Lit.int .i64 l.bed).wf = true
  kind : (Lit.int .i64 l.kind).wf = true
  lo : (Lit.int .i64 l.lo).wf = true
  hi : (Lit.int .i64 l.hi).wf = true
  cnt : (Lit.int .i64 l.cnt).wf = true

set_option maxRecDepth 100000 in
theorem open_limit {H : Type} {enc : TypeId × Value → H} {w : World} {r : Reach} {b0 base : Nat} {held : Bool} {v : Value} {d : DataW H} {p : List MemPlace}
    (hv : Value.okWide Try.prog w r b0 30 v) (h : DataW.Trod enc Try.prog w base (fun _ => true) held 30 v d p) :
    ∃ (l : Lm), v = Lv l ∧ LmW l := by
  obtain ⟨cs, rfl, hsz⟩ := okWide_struct Try.underlying30 hv
  obtain ⟨c0, c1, c2, c3, c4, rfl⟩ := array5 (hsz.trans (by kernel_rfl))
  obtain ⟨fuel, hf⟩ := h
  obtain ⟨xs, n, _, _, _, hlen, hg⟩ := DataW.trod_struct Try.underlying30 hf
  have g0 := hg 0 _ rfl
  have g1 := hg 1 _ rfl
  have g2 := hg 2 _ rfl
  have g3 := hg 3 _ rfl
  have g4 := hg 4 _ rfl
  clear hg
  have z1 : Try.prog.cellsOf 3 = 1 := by kernel_rfl
  match xs, hlen with
  | [y0, y1, y2, y3, y4], _ =>
    simp [z1, Value.cells] at g0 g1 g2 g3 g4
    obtain ⟨x0, e0, _, w0⟩ := DataW.trod_int Try.underlying3 g0
    obtain ⟨x1, e1, _, w1⟩ := DataW.trod_int Try.underlying3 g1
    obtain ⟨x2, e2, _, w2⟩ := DataW.trod_int Try.underlying3 g2
    obtain ⟨x3, e3, _, w3⟩ := DataW.trod_int Try.underlying3 g3
    obtain ⟨x4, e4, _, w4⟩ := DataW.trod_int Try.underlying3 g4
    simp only [List.cons.injEq, and_true] at e0 e1 e2 e3 e4
    subst e0 e1 e2 e3 e4
    exact ⟨⟨x0, x1, x2, x3, x4⟩, rfl, w0, w1, w2, w3, w4⟩

theorem choose_ltL {α : Type} [Inhabited α] {n : Nat} {p : Nat → α → Prop} (h : ∀ i, i < n → ∃ x, p i x) : ∃ f : Nat → α, ∀ i, i < n → p i (f i) := by
  have h' : ∀ i, ∃ x, i < n → p i x := fun i => by
    by_cases q : i < n
    · obtain ⟨x, hx⟩ := h i q; exact ⟨x, fun _ => hx⟩
    · exact ⟨default, fun k => absurd k q⟩
  exact ⟨fun i => (h' i).choose, fun i => (h' i).choose_spec⟩

/-- An act: its kind, its value, its limit. -/
structure Act14 where
  kind : Int
  val : Int
  lm : Lm

/-- One act's cells; its limit's numbers are numbers of 64 bits. -/
def ActAt14 (w : World) (b o : Nat) (x : Act14) : Prop := w.cell? ⟨b, o, none⟩ = some (.int .i64 x.kind) ∧ w.cell? ⟨b, o + 1, none⟩ = some (.int .i64 x.val) ∧ w.cell? ⟨b, o + 2, none⟩ = some (.int .i64 x.lm.bed) ∧ w.cell? ⟨b, o + 3, none⟩ = some (.int .i64 x.lm.kind) ∧ w.cell? ⟨b, o + 4, none⟩ = some (.int .i64 x.lm.lo) ∧ w.cell? ⟨b, o + 5, none⟩ = some (.int .i64 x.lm.hi) ∧ w.cell? ⟨b, o + 6, none⟩ = some (.int .i64 x.lm.cnt)

theorem ActAt14.chg {S : Nat → Prop} {w w' : World} {b o : Nat} {x : Act14} (h : ActAt14 w b o x) (hc : Chg S w w') (hS : ¬ S b) : ActAt14 w' b o x := by
  obtain ⟨c0, c1, c2, c3, c4, c5, c6⟩ := h
  exact ⟨cell_chg hc c0 hS, cell_chg hc c1 hS, cell_chg hc c2 hS, cell_chg hc c3 hS, cell_chg hc c4 hS, cell_chg hc c5 hS, cell_chg hc c6 hS⟩

theorem ActAt14.below {w w' : World} {b o : Nat} {x : Act14} (h : ActAt14 w b o x) (hb : Below w.heap.size w w') : ActAt14 w' b o x := h.chg (below_chg hb) id

def ActsAt14 (w : World) (ao : Option Addr) (l : List Act14) : Prop := 0 < l.length → ∃ b off, ao = some ⟨b, off, none⟩ ∧ b < w.heap.size ∧ ∀ i, (hi : i < l.length) → ActAt14 w b (off + i * 7) l[i]

set_option maxRecDepth 100000 in
theorem act14_cells {H : Type} {enc : TypeId × Value → H} {w : World} {base n : Nat} {held : Bool} {b o : Nat} {cs : List Value} {y : DataW H × List MemPlace} (hl : cs.length = 7) (hc : ∀ j, j < 7 → w.cell? ⟨b, o + j, none⟩ = cs[j]?)
    (h : DataW.trod enc Try.prog w base (fun _ => true) held n 41 cs = some y) : ∃ q : Act14, ActAt14 w b o q ∧ LmW q.lm := by
  match cs, hl with
  | [v0, v1, v2, v3, v4, v5, v6], _ =>
    obtain ⟨xs, m, _, _, _, hlen, hg⟩ := DataW.trod_struct Try.underlying41 h
    have g0 := hg 0 _ rfl
    have g1 := hg 1 _ rfl
    have g2 := hg 2 _ rfl
    clear hg
    have z1 : Try.prog.cellsOf 3 = 1 := by kernel_rfl
    have z5 : Try.prog.cellsOf 30 = 5 := by kernel_rfl
    match xs, hlen with
    | [y0, y1, y2], _ =>
      simp [z1, z5] at g0 g1 g2
      obtain ⟨k, q0, _, _⟩ := DataW.trod_int Try.underlying3 g0
      obtain ⟨nn, q1, _, _⟩ := DataW.trod_int Try.underlying3 g1
      simp only [List.cons.injEq, and_true] at q0 q1
      obtain ⟨xs2, m2, _, _, _, hlen2, hg2⟩ := DataW.trod_struct Try.underlying30 g2
      have f0 := hg2 0 _ rfl
      have f1 := hg2 1 _ rfl
      have f2 := hg2 2 _ rfl
      have f3 := hg2 3 _ rfl
      have f4 := hg2 4 _ rfl
      clear hg2
      match xs2, hlen2 with
      | [u0, u1, u2, u3, u4], _ =>
        simp [z1] at f0 f1 f2 f3 f4
        obtain ⟨x0, e0, _, w0⟩ := DataW.trod_int Try.underlying3 f0
        obtain ⟨x1, e1, _, w1⟩ := DataW.trod_int Try.underlying3 f1
        obtain ⟨x2, e2, _, w2⟩ := DataW.trod_int Try.underlying3 f2
        obtain ⟨x3, e3, _, w3⟩ := DataW.trod_int Try.underlying3 f3
        obtain ⟨x4, e4, _, w4⟩ := DataW.trod_int Try.underlying3 f4
        simp only [List.cons.injEq, and_true] at e0 e1 e2 e3 e4
        subst q0 q1 e0 e1 e2 e3 e4
        exact ⟨⟨k, nn, ⟨x0, x1, x2, x3, x4⟩⟩, ⟨hc 0 (by omega), hc 1 (by omega), hc 2 (by omega), hc 3 (by omega), hc 4 (by omega), hc 5 (by omega), hc 6 (by omega)⟩, w0, w1, w2, w3, w4⟩

set_option maxRecDepth 100000 in
theorem open_acts {H : Type} {enc : TypeId × Value → H} {w : World} {base : Nat} {held : Bool} {a : Option Addr} {len cap : Nat} {d : DataW H} {p : List MemPlace}
    (h : DataW.Trod enc Try.prog w base (fun _ => true) held 22 (.slice a len cap) d p) :
    ∃ (l : List Act14), l.length = len ∧ (∀ x ∈ l, LmW x.lm) ∧ ActsAt14 w a l ∧ len ≤ maxLen := by
  obtain ⟨fuel, hf⟩ := h
  obtain ⟨h1, h2, h3, h4⟩ := open_cells Try.underlying22 (C := 7) (by kernel_rfl) (by decide) hf
  by_cases h0 : 0 < len
  · obtain ⟨b, off, n, rfl, hc⟩ := h4 h0
    have each : ∀ i, i < len → ∃ q : Act14, ActAt14 w b (off + i * 7) q ∧ LmW q.lm := fun i hi => by
      obtain ⟨cs, y, hl, hcell, ht⟩ := hc i hi
      exact act14_cells hl (fun j hj => by rw [Nat.add_assoc]; exact hcell j hj) ht
    haveI : Inhabited Act14 := ⟨⟨0, 0, ⟨0, 0, 0, 0, 0⟩⟩⟩
    obtain ⟨q, hq⟩ := choose_ltL each
    refine ⟨(List.range len).map q, by simp, fun x hx => ?_, fun _ => ⟨b, off, rfl, cell_lt (hq 0 h0).1.1, fun i hi => ?_⟩, by omega⟩
    · obtain ⟨i, hi, rfl⟩ := List.mem_map.1 hx
      exact (hq i (by simpa using hi)).2
    · have hi' : i < len := by simpa using hi
      simp only [List.getElem_map, List.getElem_range]
      exact (hq i hi').1
  · exact ⟨[], (by simp; omega), (fun x hx => by cases hx), (fun hp => absurd hp (by simp)), by omega⟩

end Go.Proofs.Ytcloneccfbcclaa
