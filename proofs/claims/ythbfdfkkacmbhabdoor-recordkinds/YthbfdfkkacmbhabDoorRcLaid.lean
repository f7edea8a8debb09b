/- The listed variable of layer 10's rows: the table of widths. -/
import Derived.Test.YthbfdfkkacmbhabDoorRcW
import Derived.Test.YthbfdfkkacmbhabDoorArgs
import Derived.Test.YthbfdfkkacmbhabDoorCards
import Derived.Test.YthbfdfkkacmbhabDoorTie
import Derived.LaidMore
import Derived.SevenTiedAt
import Derived.Stop.Joined
import Derived.Lib.LaidTab
namespace Go.Proofs.YthbfdfkkacmbhabDoor
open Go.ChangeShapes Go.WideShapes Go.ChangeAt Go.RowKit

/-- What the rows list. -/
abbrev LW : List (String × DataW Unit) := [("gurney/record.widths", Rows.laid_gurney_record_widths)]

theorem gW : Tryd.prog.globalNamed "gurney/record.widths" = some 0 := by kernel_rfl
theorem tW : (Tryd.prog.globals[0]?).map (·.type) = some 56 := by kernel_rfl

/-- The door's own heap meets the condition. -/
theorem door_met (os : Os) (args : Array Value) : laidMetH Tryd.prog LW ((World.doorLaid Tryd.prog 400 os).forCall (fun _ _ => 0) ⟨#[], args, []⟩).memory :=
  laidMetH_of_parts3 (fuel := 8) (laidMet_of_run' 8 (by kernel_rfl) (by kernel_rfl)) (by kernel_rfl) (by kernel_rfl)

/-- What the condition gives the walks. -/
theorem laid_fact {W : World} (h : laidMetH Tryd.prog LW W) : WidR W := by
  rw [MakeChecks.laidMetH_plain _ _ _ (by kernel_rfl)] at h
  have hT := Lib.tabIs_of_head (zs := [3, 8, 10, 3]) gW tW Tryd.underlying56 Tryd.underlying3 (by kernel_rfl) (by kernel_rfl) h
  unfold Lib.TabIs World.var? at hT
  rw [gW] at hT
  simp only [Option.bind_some] at hT
  split at hT
  · rename_i cs t fr hh
    cases hT
    exact ⟨t, fr, hh⟩
  · cases hT

end Go.Proofs.YthbfdfkkacmbhabDoor
