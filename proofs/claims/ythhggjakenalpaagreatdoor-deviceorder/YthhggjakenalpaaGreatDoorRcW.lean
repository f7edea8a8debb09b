/- Package record: the table of widths, as it is laid. -/
import Derived.Test.YthhggjakenalpaaGreatDoorRcVal
namespace Go.Proofs.YthhggjakenalpaaGreatDoor
set_option maxRecDepth 100000
open Go.RowKit
open Bt

/-- The table of widths, as it is laid. -/
def WidR (w : World) : Prop := ∃ t fr, w.heap[1]? = some (.cells #[.int .i64 3, .int .i64 8, .int .i64 10, .int .i64 3] t fr)

theorem WidR.below {w w' : World} (h : WidR w) (hb : Below w.heap.size w w') : WidR w' := by
  obtain ⟨t, fr, h⟩ := h
  exact ⟨t, fr, (hb.block _ (lt_of_heap h)).trans h⟩

def wR (k : Nat) : Nat := [3, 8, 10, 3].getD k 0

theorem WidR.cell {w : World} (h : WidR w) (k : Nat) (hk : k < 4) : w.cell? ⟨1, k, none⟩ = some (.int .i64 (wR k : Int)) := by
  obtain ⟨t, fr, h⟩ := h
  rw [cell_of_row _ _ _ _ _ _ h]
  match k, hk with
  | 0, _ => rfl
  | 1, _ => rfl
  | 2, _ => rfl
  | 3, _ => rfl

/-- Where a field begins. -/
def sR : Nat → Nat
  | 0 => 0
  | k + 1 => sR k + wR k

theorem wR_le (k : Nat) (hk : k < 4) : 1 ≤ wR k ∧ wR k ≤ 32 := by
  match k, hk with
  | 0, _ => decide
  | 1, _ => decide
  | 2, _ => decide
  | 3, _ => decide

theorem sR_le (k : Nat) (hk : k < 4) : sR k + wR k ≤ 24 := by
  match k, hk with
  | 0, _ => decide
  | 1, _ => decide
  | 2, _ => decide
  | 3, _ => decide

theorem widR_index (k : Nat) (hk : k < 4) (w : World) :
    (Instr.index 148 (.agg #[.int .i64 3, .int .i64 8, .int .i64 10, .int .i64 3]) (.int .i64 (k : Int))).run Tryz.prog w = .ok (.int .i64 (wR k : Int)) w := by
  have i0 : (Instr.index 148 (.agg #[.int .i64 3, .int .i64 8, .int .i64 10, .int .i64 3]) (.int .i64 0)).run Tryz.prog w = .ok (.int .i64 3) w := by kernel_rfl
  have i1 : (Instr.index 148 (.agg #[.int .i64 3, .int .i64 8, .int .i64 10, .int .i64 3]) (.int .i64 1)).run Tryz.prog w = .ok (.int .i64 8) w := by kernel_rfl
  have i2 : (Instr.index 148 (.agg #[.int .i64 3, .int .i64 8, .int .i64 10, .int .i64 3]) (.int .i64 2)).run Tryz.prog w = .ok (.int .i64 10) w := by kernel_rfl
  have i3 : (Instr.index 148 (.agg #[.int .i64 3, .int .i64 8, .int .i64 10, .int .i64 3]) (.int .i64 3)).run Tryz.prog w = .ok (.int .i64 3) w := by kernel_rfl
  match k, hk with
  | 0, _ => exact i0
  | 1, _ => exact i1
  | 2, _ => exact i2
  | 3, _ => exact i3

end Go.Proofs.YthhggjakenalpaaGreatDoor
