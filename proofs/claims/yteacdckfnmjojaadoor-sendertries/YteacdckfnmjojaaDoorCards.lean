/-
  DERIVED. GIVEN WITH THE SEED: THE CARDS: each row of YteacdckfnmjojaaDoorRows.lean that lists a variable, with what it lists TIED to the program's text (the seventh form; the later family's looks); each row that meets fmt, with fmt's text TOLD by the authors' own Lean function (tested against real Go, not proved from fmt's source: count such statements apart). THE CARD IS WHAT COUNTS. Prove the row's statement (the work); the ties are given (YteacdckfnmjojaaDoorTie.lean); close each card by the builder's one call (the guide's Derived/Test/ToyasCard.lean, 'card_holds'). Laid BY PROGRAM, IN A SANDBOX (cutbox-door.mjs). By AI agents, Wed Nov 11 2026. No macro, syntax, notation, axiom, sorry.
-/
import Derived.Test.YteacdckfnmjojaaDoorRows
import GoSem.ClaimSeven
namespace Go.Proofs.YteacdckfnmjojaaDoor
namespace Rows

/-- THE TIED CARD OF 'gurneylaw08.SenderActs'. -/
def senderActsCard : Claim7 := { stood := { row := senderActsRow, standIns := [], harness := (true, "9b5cfb4e48c1552a5b4377346394cfbd12191835c5e1507131bd829a00487da3"), looks := false }, kinds := [], alts := [], laidByText := true, laidKinds := [.data], laidTests := true, laidLooks := .later }
def SenderActsCardSaid : Prop := Claim7.holds Tryd.pinned (.plain (OpenSpec.ofChange senderActsSpec)) senderActsCard

/-- THE TIED CARD OF 'gurneylaw08.SenderRight'. -/
def senderRightCard : Claim7 := { stood := { row := senderRightRow, standIns := [], harness := (true, "9b5cfb4e48c1552a5b4377346394cfbd12191835c5e1507131bd829a00487da3"), looks := false }, kinds := [], alts := [], laidByText := true, laidKinds := [.data], laidTests := true, laidLooks := .later }
def SenderRightCardSaid : Prop := Claim7.holds Tryd.pinned (.plain (OpenSpec.ofChange senderRightSpec)) senderRightCard

/-- THE TIED CARD OF 'gurneylaw08.SenderTries'. -/
def senderTriesCard : Claim7 := { stood := { row := senderTriesRow, standIns := [], harness := (true, "9b5cfb4e48c1552a5b4377346394cfbd12191835c5e1507131bd829a00487da3"), looks := false }, kinds := [], alts := [], laidByText := true, laidKinds := [.data], laidTests := true, laidLooks := .later }
def SenderTriesCardSaid : Prop := Claim7.holds Tryd.pinned (.plain (OpenSpec.ofChange senderTriesSpec)) senderTriesCard

/-- THE TIED CARD OF 'gurneylaw08.SenderRoom'. -/
def senderRoomCard : Claim7 := { stood := { row := senderRoomRow, standIns := [], harness := (true, "9b5cfb4e48c1552a5b4377346394cfbd12191835c5e1507131bd829a00487da3"), looks := false }, kinds := [], alts := [], laidByText := true, laidKinds := [.data], laidTests := true, laidLooks := .later }
def SenderRoomCardSaid : Prop := Claim7.holds Tryd.pinned (.plain (OpenSpec.ofChange senderRoomSpec)) senderRoomCard

/-- THE TIED CARD OF 'gurneylaw08.SenderDeaf'. -/
def senderDeafCard : Claim7 := { stood := { row := senderDeafRow, standIns := [], harness := (true, "9b5cfb4e48c1552a5b4377346394cfbd12191835c5e1507131bd829a00487da3"), looks := false }, kinds := [], alts := [], laidByText := true, laidKinds := [.data], laidTests := true, laidLooks := .later }
def SenderDeafCardSaid : Prop := Claim7.holds Tryd.pinned (.plain (OpenSpec.ofChange senderDeafSpec)) senderDeafCard

/-- THE TIED CARD OF 'gurneylaw08.SenderThere'. -/
def senderThereCard : Claim7 := { stood := { row := senderThereRow, standIns := [], harness := (true, "9b5cfb4e48c1552a5b4377346394cfbd12191835c5e1507131bd829a00487da3"), looks := false }, kinds := [], alts := [], laidByText := true, laidKinds := [.data], laidTests := true, laidLooks := .later }
def SenderThereCardSaid : Prop := Claim7.holds Tryd.pinned (.plain (OpenSpec.ofChange senderThereSpec)) senderThereCard

/-- THE SECOND FORM's CARD OF 'gurneylaw08.SenderActs'. -/
def senderActsUptoCard : Claim7 := { stood := { row := senderActsUptoRow, standIns := [], harness := (true, "9b5cfb4e48c1552a5b4377346394cfbd12191835c5e1507131bd829a00487da3"), looks := false }, kinds := [], alts := [], laidByText := true, laidKinds := [.data], laidTests := true, laidLooks := .later }
def SenderActsUptoCardSaid : Prop := Claim7.holds Tryd.pinned (.plain (OpenSpec.upto senderActsSpec)) senderActsUptoCard

/-- THE SECOND FORM's CARD OF 'gurneylaw08.SenderRight'. -/
def senderRightUptoCard : Claim7 := { stood := { row := senderRightUptoRow, standIns := [], harness := (true, "9b5cfb4e48c1552a5b4377346394cfbd12191835c5e1507131bd829a00487da3"), looks := false }, kinds := [], alts := [], laidByText := true, laidKinds := [.data], laidTests := true, laidLooks := .later }
def SenderRightUptoCardSaid : Prop := Claim7.holds Tryd.pinned (.plain (OpenSpec.upto senderRightSpec)) senderRightUptoCard

/-- THE SECOND FORM's CARD OF 'gurneylaw08.SenderTries'. -/
def senderTriesUptoCard : Claim7 := { stood := { row := senderTriesUptoRow, standIns := [], harness := (true, "9b5cfb4e48c1552a5b4377346394cfbd12191835c5e1507131bd829a00487da3"), looks := false }, kinds := [], alts := [], laidByText := true, laidKinds := [.data], laidTests := true, laidLooks := .later }
def SenderTriesUptoCardSaid : Prop := Claim7.holds Tryd.pinned (.plain (OpenSpec.upto senderTriesSpec)) senderTriesUptoCard

/-- THE SECOND FORM's CARD OF 'gurneylaw08.SenderRoom'. -/
def senderRoomUptoCard : Claim7 := { stood := { row := senderRoomUptoRow, standIns := [], harness := (true, "9b5cfb4e48c1552a5b4377346394cfbd12191835c5e1507131bd829a00487da3"), looks := false }, kinds := [], alts := [], laidByText := true, laidKinds := [.data], laidTests := true, laidLooks := .later }
def SenderRoomUptoCardSaid : Prop := Claim7.holds Tryd.pinned (.plain (OpenSpec.upto senderRoomSpec)) senderRoomUptoCard

/-- THE SECOND FORM's CARD OF 'gurneylaw08.SenderDeaf'. -/
def senderDeafUptoCard : Claim7 := { stood := { row := senderDeafUptoRow, standIns := [], harness := (true, "9b5cfb4e48c1552a5b4377346394cfbd12191835c5e1507131bd829a00487da3"), looks := false }, kinds := [], alts := [], laidByText := true, laidKinds := [.data], laidTests := true, laidLooks := .later }
def SenderDeafUptoCardSaid : Prop := Claim7.holds Tryd.pinned (.plain (OpenSpec.upto senderDeafSpec)) senderDeafUptoCard

/-- THE SECOND FORM's CARD OF 'gurneylaw08.SenderThere'. -/
def senderThereUptoCard : Claim7 := { stood := { row := senderThereUptoRow, standIns := [], harness := (true, "9b5cfb4e48c1552a5b4377346394cfbd12191835c5e1507131bd829a00487da3"), looks := false }, kinds := [], alts := [], laidByText := true, laidKinds := [.data], laidTests := true, laidLooks := .later }
def SenderThereUptoCardSaid : Prop := Claim7.holds Tryd.pinned (.plain (OpenSpec.upto senderThereSpec)) senderThereUptoCard
end Rows
end Go.Proofs.YteacdckfnmjojaaDoor
