/- A list of acts of layer 7 among a law's arguments. -/
import Derived.Test.YtceekoifljeddaaStructArg
import Derived.Test.YtceekoifljeddaaRsVal
namespace Go.Proofs.Ytceekoifljeddaa
open Go.ChangeShapes Go.WideShapes Go.ChangeAt Go.RowKit Go.Deep
open Bt

/-- An act: its kind, its group, its place, its bytes. -/
structure Act7 where
  kind : Int
  group : Int
  place : Int
  bs : List Nat

instance : Inhabited Act7 := ⟨⟨0, 0, 0, []⟩⟩

/-- What is known of an act that came in. -/
def Act7.Wf (x : Act7) : Prop := Byt x.bs ∧ (-9223372036854775808 ≤ x.place ∧ x.place ≤ 9223372036854775807) ∧ (-9223372036854775808 ≤ x.group ∧ x.group ≤ 9223372036854775807)

theorem place_range {p : Int} (h : (Lit.int .i64 p).wf = true) : -9223372036854775808 ≤ p ∧ p ≤ 9223372036854775807 := by
  simpa [Lit.wf, IntKind.min, IntKind.max, IntKind.signed, IntKind.bits] using h

/-- A slice that begins at ao reads as acts. -/
def ActsAt (w : World) (ao : Option Addr) (l : List Act7) : Prop :=
  0 < l.length → ∃ b off, ao = some ⟨b, off, none⟩ ∧ ∀ i, (hi : i < l.length) → ∃ a c, w.cell? ⟨b, off + i * 4, none⟩ = some (.int .i64 l[i].kind) ∧ w.cell? ⟨b, off + i * 4 + 1, none⟩ = some (.int .i64 l[i].group) ∧ w.cell? ⟨b, off + i * 4 + 2, none⟩ = some (.int .i64 l[i].place) ∧
    w.cell? ⟨b, off + i * 4 + 3, none⟩ = some (.slice a l[i].bs.length c) ∧ Reads w a l[i].bs ∧ Room a c l[i].bs.length

set_option maxRecDepth 100000 in
/-- A list of acts that came in. -/
theorem open_acts {H : Type} {enc : TypeId × Value → H} {w : World} {base : Nat} {held : Bool} {a : Option Addr} {len cap : Nat} {d : DataW H} {p : List MemPlace}
    (h : DataW.Trod enc Try.prog w base (fun _ => true) held 24 (.slice a len cap) d p) :
    ∃ (l : List Act7), l.length = len ∧ (∀ x ∈ l, x.Wf) ∧ ActsAt w a l ∧ len ≤ maxLen := by
  obtain ⟨fuel, hf⟩ := h
  obtain ⟨h1, h2, h3, h4⟩ := open_structs Try.underlying24 Try.underlying41 (hone_of (by kernel_rfl)) (by kernel_rfl) (by decide) hf
  by_cases h0 : 0 < len
  · obtain ⟨b, off, n, rfl, hc⟩ := h4 h0
    have each : ∀ i, i < len → ∃ q : Act7 × Option Addr × Nat, w.cell? ⟨b, off + i * 4, none⟩ = some (.int .i64 q.1.kind) ∧ w.cell? ⟨b, off + i * 4 + 1, none⟩ = some (.int .i64 q.1.group) ∧ w.cell? ⟨b, off + i * 4 + 2, none⟩ = some (.int .i64 q.1.place) ∧
        w.cell? ⟨b, off + i * 4 + 3, none⟩ = some (.slice q.2.1 q.1.bs.length q.2.2) ∧ Reads w q.2.1 q.1.bs ∧ Room q.2.1 q.2.2 q.1.bs.length ∧ q.1.Wf := fun i hi => by
      obtain ⟨v0, y0, c0, t0⟩ := hc i hi 0 _ rfl
      obtain ⟨v1, y1, c1, t1⟩ := hc i hi 1 _ rfl
      obtain ⟨v2, y2, c2, t2⟩ := hc i hi 2 _ rfl
      obtain ⟨v3, y3, c3, t3⟩ := hc i hi 3 _ rfl
      obtain ⟨k, e0, _, _⟩ := DataW.trod_int Try.underlying3 t0
      obtain ⟨g, e1, _, wf1⟩ := DataW.trod_int Try.underlying3 t1
      obtain ⟨pl, e2, _, wf2⟩ := DataW.trod_int Try.underlying3 t2
      obtain ⟨ao, l, c, zs, rfl, hz⟩ := open_bytes_cell t3
      simp only [List.cons.injEq, and_true] at e0 e1 e2
      subst e0 e1 e2
      obtain ⟨bs, rfl, hb, hr⟩ := hz.bytes
      exact ⟨(⟨k, g, pl, bs⟩, ao, c), c0, c1, c2, c3, hr, ⟨hz.none_cap, hz.le_cap⟩, hb, place_range wf2, place_range wf1⟩
    obtain ⟨q, hq⟩ := choose_lt each
    refine ⟨(List.range len).map (fun i => (q i).1), by simp, fun x hx => ?_, fun _ => ⟨b, off, rfl, fun i hi => ?_⟩, by omega⟩
    · obtain ⟨i, hi, rfl⟩ := List.mem_map.1 hx
      exact (hq i (List.mem_range.1 hi)).2.2.2.2.2.2
    · have hi' : i < len := by simpa using hi
      obtain ⟨c0, c1, c2, c3, r, m, _⟩ := hq i hi'
      simp only [List.getElem_map, List.getElem_range]
      exact ⟨_, _, c0, c1, c2, c3, r, m⟩
  · exact ⟨[], (by simp; omega), (fun x hx => by cases hx), (fun hp => absurd hp (by simp)), by omega⟩

end Go.Proofs.Ytceekoifljeddaa
