/- A sample, and a list of samples, among a law's arguments. -/
import Derived.Test.YthhggjakenalpaaGreatDoorArgs
import Derived.Test.YthhggjakenalpaaGreatDoorStructArg
import Derived.Test.YthhggjakenalpaaGreatDoorRcVal
import Derived.Lib.SmallJoins
namespace Go.Proofs.YthhggjakenalpaaGreatDoor
set_option maxRecDepth 100000
open Go.ChangeShapes Go.WideShapes Go.ChangeAt Go.RowKit Go.Joins Go.Deep
open Bt

set_option maxRecDepth 100000 in
theorem open_sample {H : Type} {enc : TypeId × Value → H} {w : World} {r : Reach} {b0 base : Nat} {held : Bool} {v : Value} {d : DataW H} {p : List MemPlace}
    (hv : Value.okWide Tryz.prog w r b0 35 v) (h : DataW.Trod enc Tryz.prog w base (fun _ => true) held 35 v d p) :
    ∃ (k n s : Int), v = .agg #[.int .i64 k, .int .i64 n, .int .i64 s] ∧ ((Lit.int .i64 k).wf = true ∧ (Lit.int .i64 n).wf = true ∧ (Lit.int .i64 s).wf = true) := by
  obtain ⟨v0, v1, v2, y0, y1, y2, n, rfl, _, _, h0, h1, h2⟩ := open_agg3 Tryz.underlying35 (by kernel_rfl) (by kernel_rfl) hv h
  obtain ⟨k, e0, _, w0⟩ := DataW.trod_int Tryz.underlying3 h0
  obtain ⟨m, e1, _, w1⟩ := DataW.trod_int Tryz.underlying3 h1
  obtain ⟨s, e2, _, w2⟩ := DataW.trod_int Tryz.underlying3 h2
  simp only [List.cons.injEq, and_true] at e0 e1 e2
  subst e0 e1 e2
  exact ⟨k, m, s, rfl, w0, w1, w2⟩

set_option maxRecDepth 100000 in
/-- A list of samples that came in. -/
theorem open_samples {H : Type} {enc : TypeId × Value → H} {w : World} {base : Nat} {held : Bool} {a : Option Addr} {len cap : Nat} {d : DataW H} {p : List MemPlace}
    (h : DataW.Trod enc Tryz.prog w base (fun _ => true) held 50 (.slice a len cap) d p) :
    ∃ (l : List Smp), l.length = len ∧ SmsAt (fun _ => True) w (.slice a len cap) l ∧ len ≤ cap ∧ cap ≤ maxLen ∧ (a = none → cap = 0) := by
  obtain ⟨fuel, hf⟩ := h
  obtain ⟨h1, h2, h3, h4⟩ := open_structs Tryz.underlying50 Tryz.underlying35 (hone_of (by kernel_rfl)) (by kernel_rfl) (by decide) hf
  by_cases h0 : 0 < len
  · obtain ⟨b, off, n, rfl, hc⟩ := h4 h0
    have each : ∀ i, i < len → ∃ q : Smp, w.cell? ⟨b, off + i * 3, none⟩ = some (.int .i64 q.kind) ∧ w.cell? ⟨b, off + i * 3 + 1, none⟩ = some (.int .i64 q.tick) ∧ w.cell? ⟨b, off + i * 3 + 2, none⟩ = some (.int .i64 q.value) := fun i hi => by
      obtain ⟨v0, y0, c0, t0⟩ := hc i hi 0 _ rfl
      obtain ⟨v1, y1, c1, t1⟩ := hc i hi 1 _ rfl
      obtain ⟨v2, y2, c2, t2⟩ := hc i hi 2 _ rfl
      obtain ⟨k, e0, _, _⟩ := DataW.trod_int Tryz.underlying3 t0
      obtain ⟨g, e1, _, _⟩ := DataW.trod_int Tryz.underlying3 t1
      obtain ⟨pl, e2, _, _⟩ := DataW.trod_int Tryz.underlying3 t2
      simp only [List.cons.injEq, and_true] at e0 e1 e2
      subst e0 e1 e2
      exact ⟨⟨k, g, pl⟩, c0, c1, c2⟩
    have each' : ∀ i, i < len → ∃ q : Int × Int × Int, w.cell? ⟨b, off + i * 3, none⟩ = some (.int .i64 q.1) ∧ w.cell? ⟨b, off + i * 3 + 1, none⟩ = some (.int .i64 q.2.1) ∧ w.cell? ⟨b, off + i * 3 + 2, none⟩ = some (.int .i64 q.2.2) := fun i hi => by
      obtain ⟨q, r⟩ := each i hi
      exact ⟨(q.kind, q.tick, q.value), r⟩
    obtain ⟨q, hq⟩ := choose_lt each'
    refine ⟨(List.range len).map (fun i => ⟨(q i).1, (q i).2.1, (q i).2.2⟩), by simp, ⟨some ⟨b, off, none⟩, cap, by simp, fun _ => ⟨b, off, rfl, trivial, fun i hi => ?_⟩⟩, h1, h2, h3⟩
    have hi' : i < len := by simpa using hi
    simp only [List.getElem_map, List.getElem_range]
    exact hq i hi'
  · obtain rfl : len = 0 := by omega
    exact ⟨[], rfl, ⟨a, cap, rfl, fun hp => absurd hp (by simp)⟩, h1, h2, h3⟩

end Go.Proofs.YthhggjakenalpaaGreatDoor
