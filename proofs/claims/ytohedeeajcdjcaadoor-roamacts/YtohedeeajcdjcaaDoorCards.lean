/-
  DERIVED. GIVEN WITH THE SEED: THE CARDS: each row of YtohedeeajcdjcaaDoorRows.lean that lists a variable, with what it lists TIED to the program's text (the seventh form; the later family's looks); each row that meets fmt, with fmt's text TOLD by the authors' own Lean function (tested against real Go, not proved from fmt's source: count such statements apart). THE CARD IS WHAT COUNTS. Prove the row's statement (the work); the ties are given (YtohedeeajcdjcaaDoorTie.lean); close each card by the builder's one call (the guide's Derived/Test/ToyasCard.lean, 'card_holds'). Laid BY PROGRAM, IN A SANDBOX (cutbox-door.mjs). By AI agents, Wed Nov 11 2026. No macro, syntax, notation, axiom, sorry.
-/
import Derived.Test.YtohedeeajcdjcaaDoorRows
import GoSem.ClaimSeven
namespace Go.Proofs.YtohedeeajcdjcaaDoor
namespace Rows

/-- THE TIED CARD OF 'gurneylaw09.RoamActs'. -/
def roamActsCard : Claim7 := { stood := { row := roamActsRow, standIns := [], harness := (true, "25c53ae29fda08d9d042b4c4856af7eab08bb405629bf16a006be57b24e6dc14"), looks := false }, kinds := [], alts := [], laidByText := true, laidKinds := [.data], laidTests := true, laidLooks := .later }
def RoamActsCardSaid : Prop := Claim7.holds Tryd.pinned (.plain (OpenSpec.ofChange roamActsSpec)) roamActsCard

/-- THE TIED CARD OF 'gurneylaw09.RoamOnce'. -/
def roamOnceCard : Claim7 := { stood := { row := roamOnceRow, standIns := [], harness := (true, "25c53ae29fda08d9d042b4c4856af7eab08bb405629bf16a006be57b24e6dc14"), looks := false }, kinds := [], alts := [], laidByText := true, laidKinds := [.data], laidTests := true, laidLooks := .later }
def RoamOnceCardSaid : Prop := Claim7.holds Tryd.pinned (.plain (OpenSpec.ofChange roamOnceSpec)) roamOnceCard

/-- THE TIED CARD OF 'gurneylaw09.RoamHome'. -/
def roamHomeCard : Claim7 := { stood := { row := roamHomeRow, standIns := [], harness := (true, "25c53ae29fda08d9d042b4c4856af7eab08bb405629bf16a006be57b24e6dc14"), looks := false }, kinds := [], alts := [], laidByText := true, laidKinds := [.data], laidTests := true, laidLooks := .later }
def RoamHomeCardSaid : Prop := Claim7.holds Tryd.pinned (.plain (OpenSpec.ofChange roamHomeSpec)) roamHomeCard

/-- THE TIED CARD OF 'gurneylaw09.RoamRefuses'. -/
def roamRefusesCard : Claim7 := { stood := { row := roamRefusesRow, standIns := [], harness := (true, "25c53ae29fda08d9d042b4c4856af7eab08bb405629bf16a006be57b24e6dc14"), looks := false }, kinds := [], alts := [], laidByText := true, laidKinds := [.data], laidTests := true, laidLooks := .later }
def RoamRefusesCardSaid : Prop := Claim7.holds Tryd.pinned (.plain (OpenSpec.ofChange roamRefusesSpec)) roamRefusesCard

/-- THE TIED CARD OF 'gurneylaw09.RoamMoves'. -/
def roamMovesCard : Claim7 := { stood := { row := roamMovesRow, standIns := [], harness := (true, "25c53ae29fda08d9d042b4c4856af7eab08bb405629bf16a006be57b24e6dc14"), looks := false }, kinds := [], alts := [], laidByText := true, laidKinds := [.data], laidTests := true, laidLooks := .later }
def RoamMovesCardSaid : Prop := Claim7.holds Tryd.pinned (.plain (OpenSpec.ofChange roamMovesSpec)) roamMovesCard

/-- THE TIED CARD OF 'gurneylaw09.RoamForgets'. -/
def roamForgetsCard : Claim7 := { stood := { row := roamForgetsRow, standIns := [], harness := (true, "25c53ae29fda08d9d042b4c4856af7eab08bb405629bf16a006be57b24e6dc14"), looks := false }, kinds := [], alts := [], laidByText := true, laidKinds := [.data], laidTests := true, laidLooks := .later }
def RoamForgetsCardSaid : Prop := Claim7.holds Tryd.pinned (.plain (OpenSpec.ofChange roamForgetsSpec)) roamForgetsCard

/-- THE SECOND FORM's CARD OF 'gurneylaw09.RoamActs'. -/
def roamActsUptoCard : Claim7 := { stood := { row := roamActsUptoRow, standIns := [], harness := (true, "25c53ae29fda08d9d042b4c4856af7eab08bb405629bf16a006be57b24e6dc14"), looks := false }, kinds := [], alts := [], laidByText := true, laidKinds := [.data], laidTests := true, laidLooks := .later }
def RoamActsUptoCardSaid : Prop := Claim7.holds Tryd.pinned (.plain (OpenSpec.upto roamActsSpec)) roamActsUptoCard

/-- THE SECOND FORM's CARD OF 'gurneylaw09.RoamOnce'. -/
def roamOnceUptoCard : Claim7 := { stood := { row := roamOnceUptoRow, standIns := [], harness := (true, "25c53ae29fda08d9d042b4c4856af7eab08bb405629bf16a006be57b24e6dc14"), looks := false }, kinds := [], alts := [], laidByText := true, laidKinds := [.data], laidTests := true, laidLooks := .later }
def RoamOnceUptoCardSaid : Prop := Claim7.holds Tryd.pinned (.plain (OpenSpec.upto roamOnceSpec)) roamOnceUptoCard

/-- THE SECOND FORM's CARD OF 'gurneylaw09.RoamHome'. -/
def roamHomeUptoCard : Claim7 := { stood := { row := roamHomeUptoRow, standIns := [], harness := (true, "25c53ae29fda08d9d042b4c4856af7eab08bb405629bf16a006be57b24e6dc14"), looks := false }, kinds := [], alts := [], laidByText := true, laidKinds := [.data], laidTests := true, laidLooks := .later }
def RoamHomeUptoCardSaid : Prop := Claim7.holds Tryd.pinned (.plain (OpenSpec.upto roamHomeSpec)) roamHomeUptoCard

/-- THE SECOND FORM's CARD OF 'gurneylaw09.RoamRefuses'. -/
def roamRefusesUptoCard : Claim7 := { stood := { row := roamRefusesUptoRow, standIns := [], harness := (true, "25c53ae29fda08d9d042b4c4856af7eab08bb405629bf16a006be57b24e6dc14"), looks := false }, kinds := [], alts := [], laidByText := true, laidKinds := [.data], laidTests := true, laidLooks := .later }
def RoamRefusesUptoCardSaid : Prop := Claim7.holds Tryd.pinned (.plain (OpenSpec.upto roamRefusesSpec)) roamRefusesUptoCard

/-- THE SECOND FORM's CARD OF 'gurneylaw09.RoamMoves'. -/
def roamMovesUptoCard : Claim7 := { stood := { row := roamMovesUptoRow, standIns := [], harness := (true, "25c53ae29fda08d9d042b4c4856af7eab08bb405629bf16a006be57b24e6dc14"), looks := false }, kinds := [], alts := [], laidByText := true, laidKinds := [.data], laidTests := true, laidLooks := .later }
def RoamMovesUptoCardSaid : Prop := Claim7.holds Tryd.pinned (.plain (OpenSpec.upto roamMovesSpec)) roamMovesUptoCard

/-- THE SECOND FORM's CARD OF 'gurneylaw09.RoamForgets'. -/
def roamForgetsUptoCard : Claim7 := { stood := { row := roamForgetsUptoRow, standIns := [], harness := (true, "25c53ae29fda08d9d042b4c4856af7eab08bb405629bf16a006be57b24e6dc14"), looks := false }, kinds := [], alts := [], laidByText := true, laidKinds := [.data], laidTests := true, laidLooks := .later }
def RoamForgetsUptoCardSaid : Prop := Claim7.holds Tryd.pinned (.plain (OpenSpec.upto roamForgetsSpec)) roamForgetsUptoCard
end Rows
end Go.Proofs.YtohedeeajcdjcaaDoor
