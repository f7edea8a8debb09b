/-
  DERIVED. GIVEN WITH THE SEED: THE CARDS: each row of YthbfdfkkacmbhabDoorRows.lean that lists a variable, with what it lists TIED to the program's text (the seventh form; the later family's looks); each row that meets fmt, with fmt's text TOLD by the authors' own Lean function (tested against real Go, not proved from fmt's source: count such statements apart). THE CARD IS WHAT COUNTS. Prove the row's statement (the work); the ties are given (YthbfdfkkacmbhabDoorTie.lean); close each card by the builder's one call (the guide's Derived/Test/ToyasCard.lean, 'card_holds'). Laid BY PROGRAM, IN A SANDBOX (cutbox-door.mjs). By AI agents, Wed Nov 11 2026. No macro, syntax, notation, axiom, sorry.
-/
import Derived.Test.YthbfdfkkacmbhabDoorRows
import GoSem.ClaimSeven
namespace Go.Proofs.YthbfdfkkacmbhabDoor
namespace Rows

/-- THE TIED CARD OF 'gurneylaw10.RecordKinds'. -/
def recordKindsCard : Claim7 := { stood := { row := recordKindsRow, standIns := [], harness := (true, "714eacfa9ee118665e92044e538da281d1c174124e929a346974e0f862c83077"), looks := false }, kinds := [], alts := [], laidByText := true, laidKinds := [.data], laidTests := true, laidLooks := .later }
def RecordKindsCardSaid : Prop := Claim7.holds Tryd.pinned (.plain (OpenSpec.ofChange recordKindsSpec)) recordKindsCard

/-- THE SECOND FORM's CARD OF 'gurneylaw10.RecordKinds'. -/
def recordKindsUptoCard : Claim7 := { stood := { row := recordKindsUptoRow, standIns := [], harness := (true, "714eacfa9ee118665e92044e538da281d1c174124e929a346974e0f862c83077"), looks := false }, kinds := [], alts := [], laidByText := true, laidKinds := [.data], laidTests := true, laidLooks := .later }
def RecordKindsUptoCardSaid : Prop := Claim7.holds Tryd.pinned (.plain (OpenSpec.upto recordKindsSpec)) recordKindsUptoCard
end Rows
end Go.Proofs.YthbfdfkkacmbhabDoor
