/- The listed variables of layer 18's rows: both tables of widths. -/
import Derived.Test.YthhggjakenalpaaGreatDoorMDvA
import Derived.Test.YthhggjakenalpaaGreatDoorArgs
import Derived.Test.YthhggjakenalpaaGreatDoorCards
import Derived.Test.YthhggjakenalpaaGreatDoorTie
import Derived.LaidMore
import Derived.SevenTiedAt
import Derived.Stop.Joined
import Derived.Stop.LaidErr
import Derived.Lib.LaidTab
namespace Go.Proofs.YthhggjakenalpaaGreatDoor
set_option maxRecDepth 100000
open Go.ChangeShapes Go.WideShapes Go.ChangeAt Go.RowKit

/-- What the rows list. -/
abbrev LW : List (String × DataW Unit) := [("gurney/record.widths", Rows.laid_gurney_record_widths), ("gurney/frame.widths", Rows.laid_gurney_frame_widths)]

theorem gWf : Tryz.prog.globalNamed "gurney/frame.widths" = some 0 := by kernel_rfl
theorem tWf : (Tryz.prog.globals[0]?).map (·.type) = some 142 := by kernel_rfl
theorem gWr : Tryz.prog.globalNamed "gurney/record.widths" = some 1 := by kernel_rfl
theorem tWr : (Tryz.prog.globals[1]?).map (·.type) = some 148 := by kernel_rfl

/-- The door's own heap meets the condition. -/
theorem door_met (os : Os) (args : Array Value) : laidMetH Tryz.prog LW ((World.doorLaid Tryz.prog 400 os).forCall (fun _ _ => 0) ⟨#[], args, []⟩).memory :=
  laidMetH_of_parts3 (fuel := 8) (laidMet_of_run' 8 (by kernel_rfl) (by kernel_rfl)) (by kernel_rfl) (by kernel_rfl)

/-- What the condition gives the walks. -/
theorem laid_fact {W : World} (h : laidMetH Tryz.prog LW W) : Wd W := by
  rw [MakeChecks.laidMetH_plain _ _ _ (by kernel_rfl)] at h
  have hR := Lib.tabIs_of_head (zs := [3, 8, 10, 3]) gWr tWr Tryz.underlying148 Tryz.underlying3 (by kernel_rfl) (by kernel_rfl) h
  have hF := Lib.tabIs_of_head (zs := [8, 12, 3, 7, 2, 8]) gWf tWf Tryz.underlying142 Tryz.underlying3 (by kernel_rfl) (by kernel_rfl) (laidMet.tail h)
  unfold Lib.TabIs World.var? at hR hF
  rw [gWr] at hR
  rw [gWf] at hF
  simp only [Option.bind_some] at hR hF
  constructor
  · split at hF
    · rename_i cs t fr hh
      cases hF
      exact ⟨t, fr, hh⟩
    · cases hF
  · split at hR
    · rename_i cs t fr hh
      cases hR
      exact ⟨t, fr, hh⟩
    · cases hR

end Go.Proofs.YthhggjakenalpaaGreatDoor
