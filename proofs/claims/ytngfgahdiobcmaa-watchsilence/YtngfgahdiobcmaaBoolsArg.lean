/- A list of yes and no among a law's arguments. -/
import Derived.Test.YtngfgahdiobcmaaCellsArg
import Derived.Lib.SmallJoins
namespace Go.Proofs.Ytngfgahdiobcmaa
open Go.ChangeShapes Go.WideShapes Go.ChangeAt Go.RowKit Go.Joins Go.Deep
open Bt

def BoolsAt (w : World) (ao : Option Addr) (l : List Bool) : Prop := 0 < l.length → ∃ b off, ao = some ⟨b, off, none⟩ ∧ ∀ i, (hi : i < l.length) → w.cell? ⟨b, off + i, none⟩ = some (.bool l[i])

set_option maxRecDepth 100000 in
theorem open_bools {H : Type} {enc : TypeId × Value → H} {w : World} {base : Nat} {held : Bool} {a : Option Addr} {len cap : Nat} {d : DataW H} {p : List MemPlace}
    (h : DataW.Trod enc Try.prog w base (fun _ => true) held 44 (.slice a len cap) d p) :
    ∃ (l : List Bool), l.length = len ∧ BoolsAt w a l ∧ len ≤ maxLen := by
  obtain ⟨fuel, hf⟩ := h
  obtain ⟨h1, h2, h3, h4⟩ := open_cells Try.underlying44 (C := 1) (by kernel_rfl) (by decide) hf
  by_cases h0 : 0 < len
  · obtain ⟨b, off, n, rfl, hc⟩ := h4 h0
    have each : ∀ i, ∃ q : Bool, i < len → w.cell? ⟨b, off + i, none⟩ = some (.bool q) := fun i => by
      by_cases hi : i < len
      · obtain ⟨cs, y, hl, hcell, ht⟩ := hc i hi
        obtain ⟨q, e, _⟩ := DataW.trod_bool Try.underlying4 ht
        refine ⟨q, fun _ => ?_⟩
        have := hcell 0 (by decide)
        rw [Nat.mul_one, Nat.add_zero, e] at this
        exact this
      · exact ⟨false, fun q => absurd q hi⟩
    refine ⟨(List.range len).map (fun i => (each i).choose), by simp, fun _ => ⟨b, off, rfl, fun i hi => ?_⟩, by omega⟩
    have hi' : i < len := by simpa using hi
    simp only [List.getElem_map, List.getElem_range]
    exact (each i).choose_spec hi'
  · exact ⟨[], (by simp; omega), (fun hp => absurd hp (by simp)), by omega⟩

end Go.Proofs.Ytngfgahdiobcmaa
