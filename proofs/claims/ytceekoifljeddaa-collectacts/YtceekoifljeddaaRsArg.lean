/- How a code, and a list of rows of bytes, among a law's arguments read. -/
import Derived.Test.YtceekoifljeddaaArgs
import Derived.Test.YtceekoifljeddaaRsVal
import Derived.Lib.SmallJoins
import Derived.Deep.Matrix
namespace Go.Proofs.Ytceekoifljeddaa
open Go.ChangeShapes Go.WideShapes Go.ChangeAt Go.RowKit Go.Joins Go.Deep
open Bt

theorem IsRow.room {k : IntKind} {w : World} {a : Option Addr} {len cap : Nat} {zs : List Int} (h : IsRow k w a len cap zs) : Room a cap len := ⟨h.none_cap, h.le_cap⟩

set_option maxRecDepth 100000 in
/-- A code that came in: its value, its numbers. -/
theorem open_code {H : Type} {enc : TypeId × Value → H} {w : World} {r : Reach} {b0 base : Nat} {held : Bool} {v : Value} {d : DataW H} {p : List MemPlace}
    (hv : Value.okWide Try.prog w r b0 23 v) (h : DataW.Trod enc Try.prog w base (fun _ => true) held 23 v d p) :
    ∃ (k n s : Int), v = .agg #[.int .i64 k, .int .i64 n, .int .i64 s] ∧ ((Lit.int .i64 k).wf = true ∧ (Lit.int .i64 n).wf = true ∧ (Lit.int .i64 s).wf = true) := by
  obtain ⟨v0, v1, v2, y0, y1, y2, n, rfl, _, _, h0, h1, h2⟩ := open_agg3 Try.underlying23 (by kernel_rfl) (by kernel_rfl) hv h
  obtain ⟨k, e0, _, w0⟩ := DataW.trod_int Try.underlying3 h0
  obtain ⟨m, e1, _, w1⟩ := DataW.trod_int Try.underlying3 h1
  obtain ⟨s, e2, _, w2⟩ := DataW.trod_int Try.underlying3 h2
  simp only [List.cons.injEq, and_true] at e0 e1 e2
  subst e0 e1 e2
  exact ⟨k, m, s, rfl, w0, w1, w2⟩

set_option maxRecDepth 100000 in
/-- A list of rows that came in. -/
theorem open_lists {H : Type} {enc : TypeId × Value → H} {w : World} {base : Nat} {held : Bool} {a : Option Addr} {len cap : Nat} {d : DataW H} {p : List MemPlace}
    (h : DataW.Trod enc Try.prog w base (fun _ => true) held 48 (.slice a len cap) d p) :
    ∃ (L : List (List Nat)), L.length = len ∧ BytL L ∧ ReadsL w a L ∧ len ≤ maxLen := by
  obtain ⟨fuel, hf⟩ := h
  rcases open_int_rows Try.underlying48 Try.underlying39 Try.underlying5 (by kernel_rfl) (by kernel_rfl) hf with ⟨hcs, _⟩ | ⟨x, l, c, A, Ln, C, Z, hcs, _, hl, hm, _, hr⟩
  · simp [Value.cells] at hcs
    obtain ⟨rfl, rfl, rfl⟩ := hcs
    exact ⟨[], rfl, (fun _ hx => by cases hx), (fun h0 => absurd h0 (by simp)), Nat.zero_le _⟩
  · simp [Value.cells] at hcs
    obtain ⟨rfl, rfl, rfl⟩ := hcs
    have hz : ∀ r, r < cap → ∀ n ∈ Z r, 0 ≤ n ∧ n ≤ 255 := fun r h n hn => bounds_u8 ((hr r h).2.2.2.2.1 n hn)
    have hg : ∀ r, r < len → ((List.range len).map fun r => ((Z r).take (Ln r)).map Int.toNat).getD r [] = ((Z r).take (Ln r)).map Int.toNat := fun r h => by
      rw [← List.getElem_eq_getD (h := by simpa using h) []]; simp
    have hk : ∀ r, r < len → (((Z r).take (Ln r)).map Int.toNat).length = Ln r := fun r h => by
      obtain ⟨_, h1, _, h2, _⟩ := hr r (by omega)
      simp; omega
    refine ⟨(List.range len).map fun r => ((Z r).take (Ln r)).map Int.toNat, by simp, ?_, ?_, by omega⟩
    · intro row hrow y hy
      obtain ⟨r, h1, rfl⟩ := List.mem_map.1 hrow
      obtain ⟨n, hn, rfl⟩ := List.mem_map.1 hy
      have := hz r (by have := List.mem_range.1 h1; omega) n (List.mem_of_mem_take hn)
      omega
    · intro h0
      have h0' : 0 < len := by simpa using h0
      obtain ⟨b, off, spot⟩ := x
      have c0 := (hr 0 (by omega)).1
      have hs : spot = none := by simpa [Addr.add] using World.cell?_spot c0
      subst hs
      refine ⟨b, off, rfl, fun r hrl => ?_⟩
      have hrl' : r < len := by simpa using hrl
      obtain ⟨g1, g2, g3, g4, g5, g6, g7⟩ := hr r (by omega)
      refine ⟨A r, C r, ?_, ?_, g6⟩
      · rw [hg r hrl', hk r hrl']
        by_cases e : r = 0
        · subst e; simpa [Addr.add] using g1
        · simpa [Addr.add, e] using g1
      · rw [hg r hrl']
        intro hp
        rw [hk r hrl'] at hp
        cases ea : A r with
        | none => have := g6 ea; omega
        | some ad =>
          refine ⟨ad, rfl, fun j u hu => ?_⟩
          obtain ⟨hj, hu⟩ := List.getElem?_eq_some_iff.1 hu
          have hj' : j < Ln r := by rw [List.length_map, hk r hrl'] at hj; exact hj
          have hjz : j < (Z r).length := by omega
          have hb := hz r (by omega) (Z r)[j] (List.getElem_mem hjz)
          rw [(g7 ad ea).2 j (by omega), List.getD_eq_getElem?_getD, List.getElem?_eq_getElem hjz, ← hu]
          simp only [List.getElem_map, List.getElem_take, Option.getD_some, U]
          rw [Int.toNat_of_nonneg hb.1]

end Go.Proofs.Ytceekoifljeddaa
