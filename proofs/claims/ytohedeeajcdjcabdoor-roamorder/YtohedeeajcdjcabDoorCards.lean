/-
  DERIVED. GIVEN WITH THE SEED: THE CARDS: each row of YtohedeeajcdjcabDoorRows.lean that lists a variable, with what it lists TIED to the program's text (the seventh form; the later family's looks); each row that meets fmt, with fmt's text TOLD by the authors' own Lean function (tested against real Go, not proved from fmt's source: count such statements apart). THE CARD IS WHAT COUNTS. Prove the row's statement (the work); the ties are given (YtohedeeajcdjcabDoorTie.lean); close each card by the builder's one call (the guide's Derived/Test/ToyasCard.lean, 'card_holds'). Laid BY PROGRAM, IN A SANDBOX (cutbox-door.mjs). By AI agents, Wed Nov 11 2026. No macro, syntax, notation, axiom, sorry.
-/
import Derived.Test.YtohedeeajcdjcabDoorRows
import GoSem.ClaimSeven
namespace Go.Proofs.YtohedeeajcdjcabDoor
namespace Rows

/-- THE TIED CARD OF 'gurneylaw09.RoamOrder'. -/
def roamOrderCard : Claim7 := { stood := { row := roamOrderRow, standIns := [], harness := (true, "3d0c2578b7f721072d89b9a138493fab741f53e96393a9aecc7e94d6d33851b5"), looks := false }, kinds := [], alts := [], laidByText := true, laidKinds := [.data], laidTests := true, laidLooks := .later }
def RoamOrderCardSaid : Prop := Claim7.holds Tryd.pinned (.plain (OpenSpec.ofChange roamOrderSpec)) roamOrderCard

/-- THE SECOND FORM's CARD OF 'gurneylaw09.RoamOrder'. -/
def roamOrderUptoCard : Claim7 := { stood := { row := roamOrderUptoRow, standIns := [], harness := (true, "3d0c2578b7f721072d89b9a138493fab741f53e96393a9aecc7e94d6d33851b5"), looks := false }, kinds := [], alts := [], laidByText := true, laidKinds := [.data], laidTests := true, laidLooks := .later }
def RoamOrderUptoCardSaid : Prop := Claim7.holds Tryd.pinned (.plain (OpenSpec.upto roamOrderSpec)) roamOrderUptoCard
end Rows
end Go.Proofs.YtohedeeajcdjcabDoor
