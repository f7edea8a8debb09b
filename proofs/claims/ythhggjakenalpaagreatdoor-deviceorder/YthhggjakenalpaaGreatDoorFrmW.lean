/- Package frame: the table of widths, as it is laid. -/
import Derived.Test.YthhggjakenalpaaGreatDoorFrmBase
namespace Go.Proofs.YthhggjakenalpaaGreatDoor
set_option maxRecDepth 100000
open Go.RowKit
open Bt

/-- The table of widths, as it is laid. -/
def Wid (w : World) : Prop := ∃ t fr, w.heap[0]? = some (.cells #[.int .i64 8, .int .i64 12, .int .i64 3, .int .i64 7, .int .i64 2, .int .i64 8] t fr)

theorem Wid.below {w w' : World} (h : Wid w) (hb : Below w.heap.size w w') : Wid w' := by
  obtain ⟨t, fr, h⟩ := h
  exact ⟨t, fr, (hb.block 0 (lt_of_heap h)).trans h⟩

def wAt (k : Nat) : Nat := [8, 12, 3, 7, 2, 8].getD k 0

theorem Wid.cell {w : World} (h : Wid w) (k : Nat) (hk : k < 6) : w.cell? ⟨0, k, none⟩ = some (.int .i64 (wAt k : Int)) := by
  obtain ⟨t, fr, h⟩ := h
  rw [cell_of_row _ _ _ _ _ _ h]
  match k, hk with
  | 0, _ => rfl
  | 1, _ => rfl
  | 2, _ => rfl
  | 3, _ => rfl
  | 4, _ => rfl
  | 5, _ => rfl

end Go.Proofs.YthhggjakenalpaaGreatDoor
