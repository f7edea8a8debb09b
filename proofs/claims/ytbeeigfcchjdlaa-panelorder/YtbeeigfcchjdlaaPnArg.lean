/- A list of acts of layer 16 among a law's arguments. -/
import Derived.Test.YtbeeigfcchjdlaaCellsArg
import Derived.Lib.SmallJoins
namespace Go.Proofs.Ytbeeigfcchjdlaa
open Go.ChangeShapes Go.WideShapes Go.ChangeAt Go.RowKit Go.Joins Go.Deep

theorem choose_ltP {α : Type} [Inhabited α] {n : Nat} {p : Nat → α → Prop} (h : ∀ i, i < n → ∃ x, p i x) : ∃ f : Nat → α, ∀ i, i < n → p i (f i) := by
  have h' : ∀ i, ∃ x, i < n → p i x := fun i => by
    by_cases q : i < n
    · obtain ⟨x, hx⟩ := h i q; exact ⟨x, fun _ => hx⟩
    · exact ⟨default, fun k => absurd k q⟩
  exact ⟨fun i => (h' i).choose, fun i => (h' i).choose_spec⟩

/-- An act: its kind, its bed, what kind of alarm, its time. -/
structure Act16 where
  kind : Int
  bed : Int
  what : Int
  now : Int

/-- One act's cells. -/
def ActAt16 (w : World) (b o : Nat) (x : Act16) : Prop := w.cell? ⟨b, o, none⟩ = some (.int .i64 x.kind) ∧ w.cell? ⟨b, o + 1, none⟩ = some (.int .i64 x.bed) ∧ w.cell? ⟨b, o + 2, none⟩ = some (.int .i64 x.what) ∧ w.cell? ⟨b, o + 3, none⟩ = some (.int .i64 x.now)

theorem ActAt16.chg {S : Nat → Prop} {w w' : World} {b o : Nat} {x : Act16} (h : ActAt16 w b o x) (hc : Chg S w w') (hS : ¬ S b) : ActAt16 w' b o x := ⟨cell_chg hc h.1 hS, cell_chg hc h.2.1 hS, cell_chg hc h.2.2.1 hS, cell_chg hc h.2.2.2 hS⟩

theorem ActAt16.below {w w' : World} {b o : Nat} {x : Act16} (h : ActAt16 w b o x) (hb : Below w.heap.size w w') : ActAt16 w' b o x := h.chg (below_chg hb) id

def ActsAt16 (w : World) (ao : Option Addr) (l : List Act16) : Prop := 0 < l.length → ∃ b off, ao = some ⟨b, off, none⟩ ∧ ∀ i, (hi : i < l.length) → ActAt16 w b (off + i * 4) l[i]

set_option maxRecDepth 100000 in
theorem act16_cells {H : Type} {enc : TypeId × Value → H} {w : World} {base n : Nat} {held : Bool} {b o : Nat} {cs : List Value} {y : DataW H × List MemPlace} (hl : cs.length = 4) (hc : ∀ j, j < 4 → w.cell? ⟨b, o + j, none⟩ = cs[j]?)
    (h : DataW.trod enc Try.prog w base (fun _ => true) held n 36 cs = some y) : ∃ q : Act16, ActAt16 w b o q := by
  match cs, hl with
  | [v0, v1, v2, v3], _ =>
    obtain ⟨xs, m, _, _, _, hlen, hg⟩ := DataW.trod_struct Try.underlying36 h
    have g0 := hg 0 _ rfl
    have g1 := hg 1 _ rfl
    have g2 := hg 2 _ rfl
    have g3 := hg 3 _ rfl
    clear hg
    have z1 : Try.prog.cellsOf 3 = 1 := by kernel_rfl
    match xs, hlen with
    | [y0, y1, y2, y3], _ =>
      simp [z1] at g0 g1 g2 g3
      obtain ⟨k, q0, _, _⟩ := DataW.trod_int Try.underlying3 g0
      obtain ⟨nn, q1, _, _⟩ := DataW.trod_int Try.underlying3 g1
      obtain ⟨pp, q2, _, _⟩ := DataW.trod_int Try.underlying3 g2
      obtain ⟨nw, q3, _, _⟩ := DataW.trod_int Try.underlying3 g3
      simp only [List.cons.injEq, and_true] at q0 q1 q2 q3
      subst q0 q1 q2 q3
      exact ⟨⟨k, nn, pp, nw⟩, hc 0 (by omega), hc 1 (by omega), hc 2 (by omega), hc 3 (by omega)⟩

set_option maxRecDepth 100000 in
theorem open_acts {H : Type} {enc : TypeId × Value → H} {w : World} {base : Nat} {held : Bool} {a : Option Addr} {len cap : Nat} {d : DataW H} {p : List MemPlace}
    (h : DataW.Trod enc Try.prog w base (fun _ => true) held 22 (.slice a len cap) d p) :
    ∃ (l : List Act16), l.length = len ∧ ActsAt16 w a l ∧ len ≤ maxLen := by
  obtain ⟨fuel, hf⟩ := h
  obtain ⟨h1, h2, h3, h4⟩ := open_cells Try.underlying22 (C := 4) (by kernel_rfl) (by decide) hf
  by_cases h0 : 0 < len
  · obtain ⟨b, off, n, rfl, hc⟩ := h4 h0
    have each : ∀ i, i < len → ∃ q : Act16, ActAt16 w b (off + i * 4) q := fun i hi => by
      obtain ⟨cs, y, hl, hcell, ht⟩ := hc i hi
      exact act16_cells hl (fun j hj => by rw [Nat.add_assoc]; exact hcell j hj) ht
    haveI : Inhabited Act16 := ⟨⟨0, 0, 0, 0⟩⟩
    obtain ⟨q, hq⟩ := choose_ltP each
    refine ⟨(List.range len).map q, by simp, fun _ => ⟨b, off, rfl, fun i hi => ?_⟩, by omega⟩
    have hi' : i < len := by simpa using hi
    simp only [List.getElem_map, List.getElem_range]
    exact hq i hi'
  · exact ⟨[], (by simp; omega), (fun hp => absurd hp (by simp)), by omega⟩

end Go.Proofs.Ytbeeigfcchjdlaa
