/-
  DERIVED. GIVEN WITH THE SEED: THE CARDS: each row of YthhggjakenalpaaGreatDoorRows.lean that lists a variable, with what it lists TIED to the program's text (the seventh form; the later family's looks); each row that meets fmt, with fmt's text TOLD by the authors' own Lean function (tested against real Go, not proved from fmt's source: count such statements apart). THE CARD IS WHAT COUNTS. Prove the row's statement (the work); the ties are given (YthhggjakenalpaaGreatDoorTie.lean); close each card by the builder's one call (the guide's Derived/Test/ToyasCard.lean, 'card_holds'). Laid BY PROGRAM, IN A SANDBOX (cutbox-door.mjs). By AI agents, Wed Nov 11 2026. No macro, syntax, notation, axiom, sorry.
-/
import Derived.Test.YthhggjakenalpaaGreatDoorRows
import GoSem.ClaimSeven
namespace Go.Proofs.YthhggjakenalpaaGreatDoor
namespace Rows

/-- THE TIED CARD OF 'gurneylaw18.DeviceActs'. -/
def deviceActsCard : Claim7 := { stood := { row := deviceActsRow, standIns := [], harness := (true, "671a4a5651a09961722f6897a23331ce75446318de0b513f6ea364801e92ed89"), looks := false }, kinds := [], alts := [], laidByText := true, laidKinds := [.data, .data], laidTests := true, laidLooks := .later }
def DeviceActsCardSaid : Prop := Claim7.holds Tryz.pinned (.plain (OpenSpec.ofChange deviceActsSpec)) deviceActsCard

/-- THE TIED CARD OF 'gurneylaw18.DeviceFrames'. -/
def deviceFramesCard : Claim7 := { stood := { row := deviceFramesRow, standIns := [], harness := (true, "671a4a5651a09961722f6897a23331ce75446318de0b513f6ea364801e92ed89"), looks := false }, kinds := [], alts := [], laidByText := true, laidKinds := [.data, .data], laidTests := true, laidLooks := .later }
def DeviceFramesCardSaid : Prop := Claim7.holds Tryz.pinned (.plain (OpenSpec.ofChange deviceFramesSpec)) deviceFramesCard

/-- THE TIED CARD OF 'gurneylaw18.DeviceOrder'. -/
def deviceOrderCard : Claim7 := { stood := { row := deviceOrderRow, standIns := [], harness := (true, "671a4a5651a09961722f6897a23331ce75446318de0b513f6ea364801e92ed89"), looks := false }, kinds := [], alts := [], laidByText := true, laidKinds := [.data, .data], laidTests := true, laidLooks := .later }
def DeviceOrderCardSaid : Prop := Claim7.holds Tryz.pinned (.plain (OpenSpec.ofChange deviceOrderSpec)) deviceOrderCard

/-- THE TIED CARD OF 'gurneylaw18.DeviceKeeps'. -/
def deviceKeepsCard : Claim7 := { stood := { row := deviceKeepsRow, standIns := [], harness := (true, "671a4a5651a09961722f6897a23331ce75446318de0b513f6ea364801e92ed89"), looks := false }, kinds := [], alts := [], laidByText := true, laidKinds := [.data, .data], laidTests := true, laidLooks := .later }
def DeviceKeepsCardSaid : Prop := Claim7.holds Tryz.pinned (.plain (OpenSpec.ofChange deviceKeepsSpec)) deviceKeepsCard

/-- THE TIED CARD OF 'gurneylaw18.DeviceGreets'. -/
def deviceGreetsCard : Claim7 := { stood := { row := deviceGreetsRow, standIns := [], harness := (true, "671a4a5651a09961722f6897a23331ce75446318de0b513f6ea364801e92ed89"), looks := false }, kinds := [], alts := [], laidByText := true, laidKinds := [.data, .data], laidTests := true, laidLooks := .later }
def DeviceGreetsCardSaid : Prop := Claim7.holds Tryz.pinned (.plain (OpenSpec.ofChange deviceGreetsSpec)) deviceGreetsCard

/-- THE TIED CARD OF 'gurneylaw18.DeviceAnew'. -/
def deviceAnewCard : Claim7 := { stood := { row := deviceAnewRow, standIns := [], harness := (true, "671a4a5651a09961722f6897a23331ce75446318de0b513f6ea364801e92ed89"), looks := false }, kinds := [], alts := [], laidByText := true, laidKinds := [.data, .data], laidTests := true, laidLooks := .later }
def DeviceAnewCardSaid : Prop := Claim7.holds Tryz.pinned (.plain (OpenSpec.ofChange deviceAnewSpec)) deviceAnewCard

/-- THE SECOND FORM's CARD OF 'gurneylaw18.DeviceActs'. -/
def deviceActsUptoCard : Claim7 := { stood := { row := deviceActsUptoRow, standIns := [], harness := (true, "671a4a5651a09961722f6897a23331ce75446318de0b513f6ea364801e92ed89"), looks := false }, kinds := [], alts := [], laidByText := true, laidKinds := [.data, .data], laidTests := true, laidLooks := .later }
def DeviceActsUptoCardSaid : Prop := Claim7.holds Tryz.pinned (.plain (OpenSpec.upto deviceActsSpec)) deviceActsUptoCard

/-- THE SECOND FORM's CARD OF 'gurneylaw18.DeviceFrames'. -/
def deviceFramesUptoCard : Claim7 := { stood := { row := deviceFramesUptoRow, standIns := [], harness := (true, "671a4a5651a09961722f6897a23331ce75446318de0b513f6ea364801e92ed89"), looks := false }, kinds := [], alts := [], laidByText := true, laidKinds := [.data, .data], laidTests := true, laidLooks := .later }
def DeviceFramesUptoCardSaid : Prop := Claim7.holds Tryz.pinned (.plain (OpenSpec.upto deviceFramesSpec)) deviceFramesUptoCard

/-- THE SECOND FORM's CARD OF 'gurneylaw18.DeviceOrder'. -/
def deviceOrderUptoCard : Claim7 := { stood := { row := deviceOrderUptoRow, standIns := [], harness := (true, "671a4a5651a09961722f6897a23331ce75446318de0b513f6ea364801e92ed89"), looks := false }, kinds := [], alts := [], laidByText := true, laidKinds := [.data, .data], laidTests := true, laidLooks := .later }
def DeviceOrderUptoCardSaid : Prop := Claim7.holds Tryz.pinned (.plain (OpenSpec.upto deviceOrderSpec)) deviceOrderUptoCard

/-- THE SECOND FORM's CARD OF 'gurneylaw18.DeviceKeeps'. -/
def deviceKeepsUptoCard : Claim7 := { stood := { row := deviceKeepsUptoRow, standIns := [], harness := (true, "671a4a5651a09961722f6897a23331ce75446318de0b513f6ea364801e92ed89"), looks := false }, kinds := [], alts := [], laidByText := true, laidKinds := [.data, .data], laidTests := true, laidLooks := .later }
def DeviceKeepsUptoCardSaid : Prop := Claim7.holds Tryz.pinned (.plain (OpenSpec.upto deviceKeepsSpec)) deviceKeepsUptoCard

/-- THE SECOND FORM's CARD OF 'gurneylaw18.DeviceGreets'. -/
def deviceGreetsUptoCard : Claim7 := { stood := { row := deviceGreetsUptoRow, standIns := [], harness := (true, "671a4a5651a09961722f6897a23331ce75446318de0b513f6ea364801e92ed89"), looks := false }, kinds := [], alts := [], laidByText := true, laidKinds := [.data, .data], laidTests := true, laidLooks := .later }
def DeviceGreetsUptoCardSaid : Prop := Claim7.holds Tryz.pinned (.plain (OpenSpec.upto deviceGreetsSpec)) deviceGreetsUptoCard

/-- THE SECOND FORM's CARD OF 'gurneylaw18.DeviceAnew'. -/
def deviceAnewUptoCard : Claim7 := { stood := { row := deviceAnewUptoRow, standIns := [], harness := (true, "671a4a5651a09961722f6897a23331ce75446318de0b513f6ea364801e92ed89"), looks := false }, kinds := [], alts := [], laidByText := true, laidKinds := [.data, .data], laidTests := true, laidLooks := .later }
def DeviceAnewUptoCardSaid : Prop := Claim7.holds Tryz.pinned (.plain (OpenSpec.upto deviceAnewSpec)) deviceAnewUptoCard
end Rows
end Go.Proofs.YthhggjakenalpaaGreatDoor
