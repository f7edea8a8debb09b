/- A bed, and a list of beds, among a law's arguments. -/
import Derived.Test.YthofgajchejdfaaAgg6
import Derived.Test.YthofgajchejdfaaStructsArg
import Derived.Test.YthofgajchejdfaaLdVal
import Derived.Lib.SmallJoins
namespace Go.Proofs.Ythofgajchejdfaa
open Go.ChangeShapes Go.WideShapes Go.ChangeAt Go.RowKit Go.Joins Go.Deep
open Bt

set_option maxRecDepth 100000 in
theorem open_bed {H : Type} {enc : TypeId × Value → H} {w : World} {r : Reach} {b0 base : Nat} {held : Bool} {v : Value} {d : DataW H} {p : List MemPlace}
    (hv : Value.okWide Try.prog w r b0 27 v) (h : DataW.Trod enc Try.prog w base (fun _ => true) held 27 v d p) :
    ∃ (b : Bdd), v = Bv b ∧ (((Lit.int .i64 b.bid).wf = true) ∧ ((Lit.int .i64 b.tx).wf = true) ∧ ((Lit.int .i64 b.period).wf = true) ∧ ((Lit.int .i64 b.cost).wf = true) ∧ ((Lit.int .i64 b.watch).wf = true) ∧ ((Lit.int .i64 b.prio).wf = true)) := by
  obtain ⟨v0, v1, v2, v3, v4, v5, n, y0, y1, y2, y3, y4, y5, rfl, h0, h1, h2, h3, h4, h5⟩ := open_agg6 Try.underlying27 (by kernel_rfl) (by kernel_rfl) hv h
  obtain ⟨x0, e0, _, w0⟩ := DataW.trod_int Try.underlying3 h0
  obtain ⟨x1, e1, _, w1⟩ := DataW.trod_int Try.underlying3 h1
  obtain ⟨x2, e2, _, w2⟩ := DataW.trod_int Try.underlying3 h2
  obtain ⟨x3, e3, _, w3⟩ := DataW.trod_int Try.underlying3 h3
  obtain ⟨x4, e4, _, w4⟩ := DataW.trod_int Try.underlying3 h4
  obtain ⟨x5, e5, _, w5⟩ := DataW.trod_int Try.underlying3 h5
  simp only [List.cons.injEq, and_true] at e0 e1 e2 e3 e4 e5
  subst e0 e1 e2 e3 e4 e5
  exact ⟨⟨x0, x1, x2, x3, x4, x5⟩, rfl, w0, w1, w2, w3, w4, w5⟩

set_option maxRecDepth 100000 in
/-- A list of beds that came in. -/
theorem open_beds {H : Type} {enc : TypeId × Value → H} {w : World} {base : Nat} {held : Bool} {a : Option Addr} {len cap : Nat} {d : DataW H} {p : List MemPlace}
    (h : DataW.Trod enc Try.prog w base (fun _ => true) held 22 (.slice a len cap) d p) :
    ∃ (l : List Bdd), l.length = len ∧ BdsAt (fun _ => True) w (.slice a len cap) l ∧ len ≤ cap ∧ cap ≤ maxLen ∧ (a = none → cap = 0) := by
  obtain ⟨fuel, hf⟩ := h
  obtain ⟨h1, h2, h3, h4⟩ := open_structs Try.underlying22 Try.underlying27 (hone_of (by kernel_rfl)) (by kernel_rfl) (by decide) hf
  by_cases h0 : 0 < len
  · obtain ⟨b, off, n, rfl, hc⟩ := h4 h0
    have each : ∀ i, i < len → ∃ q : Int × Int × Int × Int × Int × Int, w.cell? ⟨b, off + i * 6, none⟩ = some (.int .i64 q.1) ∧ w.cell? ⟨b, off + i * 6 + 1, none⟩ = some (.int .i64 q.2.1) ∧ w.cell? ⟨b, off + i * 6 + 2, none⟩ = some (.int .i64 q.2.2.1) ∧ w.cell? ⟨b, off + i * 6 + 3, none⟩ = some (.int .i64 q.2.2.2.1) ∧ w.cell? ⟨b, off + i * 6 + 4, none⟩ = some (.int .i64 q.2.2.2.2.1) ∧ w.cell? ⟨b, off + i * 6 + 5, none⟩ = some (.int .i64 q.2.2.2.2.2) := fun i hi => by
      obtain ⟨v0, y0, c0, t0⟩ := hc i hi 0 _ rfl
      obtain ⟨v1, y1, c1, t1⟩ := hc i hi 1 _ rfl
      obtain ⟨v2, y2, c2, t2⟩ := hc i hi 2 _ rfl
      obtain ⟨v3, y3, c3, t3⟩ := hc i hi 3 _ rfl
      obtain ⟨v4, y4, c4, t4⟩ := hc i hi 4 _ rfl
      obtain ⟨v5, y5, c5, t5⟩ := hc i hi 5 _ rfl
      obtain ⟨x0, e0, _, _⟩ := DataW.trod_int Try.underlying3 t0
      obtain ⟨x1, e1, _, _⟩ := DataW.trod_int Try.underlying3 t1
      obtain ⟨x2, e2, _, _⟩ := DataW.trod_int Try.underlying3 t2
      obtain ⟨x3, e3, _, _⟩ := DataW.trod_int Try.underlying3 t3
      obtain ⟨x4, e4, _, _⟩ := DataW.trod_int Try.underlying3 t4
      obtain ⟨x5, e5, _, _⟩ := DataW.trod_int Try.underlying3 t5
      simp only [List.cons.injEq, and_true] at e0 e1 e2 e3 e4 e5
      subst e0 e1 e2 e3 e4 e5
      exact ⟨(x0, x1, x2, x3, x4, x5), c0, c1, c2, c3, c4, c5⟩
    obtain ⟨q, hq⟩ := choose_lt each
    refine ⟨(List.range len).map (fun i => ⟨(q i).1, (q i).2.1, (q i).2.2.1, (q i).2.2.2.1, (q i).2.2.2.2.1, (q i).2.2.2.2.2⟩), by simp, ⟨some ⟨b, off, none⟩, cap, by simp, fun _ => ⟨b, off, rfl, trivial, fun i hi => ?_⟩⟩, h1, h2, h3⟩
    have hi' : i < len := by simpa using hi
    simp only [List.getElem_map, List.getElem_range]
    exact hq i hi'
  · obtain rfl : len = 0 := by omega
    exact ⟨[], rfl, ⟨a, cap, rfl, fun hp => absurd hp (by simp)⟩, h1, h2, h3⟩

end Go.Proofs.Ythofgajchejdfaa
