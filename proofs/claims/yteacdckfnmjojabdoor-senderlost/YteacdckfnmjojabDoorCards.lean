/-
  DERIVED. GIVEN WITH THE SEED: THE CARDS: each row of YteacdckfnmjojabDoorRows.lean that lists a variable, with what it lists TIED to the program's text (the seventh form; the later family's looks); each row that meets fmt, with fmt's text TOLD by the authors' own Lean function (tested against real Go, not proved from fmt's source: count such statements apart). THE CARD IS WHAT COUNTS. Prove the row's statement (the work); the ties are given (YteacdckfnmjojabDoorTie.lean); close each card by the builder's one call (the guide's Derived/Test/ToyasCard.lean, 'card_holds'). Laid BY PROGRAM, IN A SANDBOX (cutbox-door.mjs). By AI agents, Wed Nov 11 2026. No macro, syntax, notation, axiom, sorry.
-/
import Derived.Test.YteacdckfnmjojabDoorRows
import GoSem.ClaimSeven
namespace Go.Proofs.YteacdckfnmjojabDoor
namespace Rows

/-- THE TIED CARD OF 'gurneylaw08.SenderLost'. -/
def senderLostCard : Claim7 := { stood := { row := senderLostRow, standIns := [], harness := (true, "d9292534e13c473cddc1c13f6e435d01530fcec4a866b5f93d0c520fa61b4331"), looks := false }, kinds := [], alts := [], laidByText := true, laidKinds := [.data], laidTests := true, laidLooks := .later }
def SenderLostCardSaid : Prop := Claim7.holds Tryd.pinned (.plain (OpenSpec.ofChange senderLostSpec)) senderLostCard

/-- THE SECOND FORM's CARD OF 'gurneylaw08.SenderLost'. -/
def senderLostUptoCard : Claim7 := { stood := { row := senderLostUptoRow, standIns := [], harness := (true, "d9292534e13c473cddc1c13f6e435d01530fcec4a866b5f93d0c520fa61b4331"), looks := false }, kinds := [], alts := [], laidByText := true, laidKinds := [.data], laidTests := true, laidLooks := .later }
def SenderLostUptoCardSaid : Prop := Claim7.holds Tryd.pinned (.plain (OpenSpec.upto senderLostSpec)) senderLostUptoCard
end Rows
end Go.Proofs.YteacdckfnmjojabDoor
