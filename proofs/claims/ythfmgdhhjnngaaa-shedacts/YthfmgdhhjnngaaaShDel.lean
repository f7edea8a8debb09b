/- slices.Delete of one pointer out of a list of one's own. -/
import Derived.Test.YthfmgdhhjnngaaaShInsB
import Derived.Deep.RegionLaw
namespace Go.Proofs.Ythfmgdhhjnngaaa
open Go.RowKit Go.Lib Go.Shelf
open Bt

/-- The first ones of a row alone. -/
theorem owns_cutP {w : World} {g c n i : Nat} {xs : List Value} (h : w.ownsRow 0 TE 1 (.slice (some ⟨g, 0, none⟩) n c) n xs) (hi : i ≤ n) : w.ownsRow 0 TE 1 (.slice (some ⟨g, 0, none⟩) i c) i (xs.take i) := by
  refine ⟨by have := h.1; rw [List.length_take]; omega, ?_⟩
  rcases h.2 with ⟨hv, _⟩ | ⟨g', cap, cur, hv, hb, hg, hn, hm, hs, ht⟩
  · cases hv
  · cases hv
    refine .inr ⟨g, c, cur, rfl, hb, hg, by omega, hm, hs, ?_⟩
    rw [← ht, List.take_take, Nat.min_eq_left (by omega)]
    rw [Nat.mul_one]

theorem run_clear_ptr (w : World) (g o c : Nat) (ty : TypeId) (hc : (w.cell? ⟨g, o, none⟩).isSome = true) (hf : w.frozen? ⟨g, o, none⟩ = false) :
    (Builtin.clear_ #[TP] ty #[.slice (some ⟨g, o, none⟩) 1 c]).run Try.prog w = .ok (.tuple #[]) (w.setCells g o [.pointer none]) := by
  obtain ⟨i0, hi0, hz0, hzs, hzb⟩ := info_parts info_ptr
  have hst := run_storeCells_cells (P := Try.prog) g o [.pointer none] 0 w (fun j hj => by simp at hj; subst hj; exact hc) (fun j hj => by simp at hj; subst hj; exact hf) (fun v hv => by simp at hv; subst hv; rfl)
  simp only [Nat.add_zero] at hst
  simp [Builtin.clear_, run_underlying Try.underlying50, Value.cells, Builtin.zeroCells, zeroValue, typeInfo, hi0, hz0] at hst ⊢
  simp [hst]

end Go.Proofs.Ythfmgdhhjnngaaa
