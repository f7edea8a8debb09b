/-
  DERIVED. GIVEN WITH THE SEED: THE CARDS: each row of YtaieohnppeapfaaDoorRows.lean that lists a variable, with what it lists TIED to the program's text (the seventh form; the later family's looks); each row that meets fmt, with fmt's text TOLD by the authors' own Lean function (tested against real Go, not proved from fmt's source: count such statements apart). THE CARD IS WHAT COUNTS. Prove the row's statement (the work); the ties are given (YtaieohnppeapfaaDoorTie.lean); close each card by the builder's one call (the guide's Derived/Test/ToyasCard.lean, 'card_holds'). Laid BY PROGRAM, IN A SANDBOX (cutbox-door.mjs). By AI agents, Wed Nov 11 2026. No macro, syntax, notation, axiom, sorry.
-/
import Derived.Test.YtaieohnppeapfaaDoorRows
import GoSem.ClaimSeven
namespace Go.Proofs.YtaieohnppeapfaaDoor
namespace Rows

/-- THE TIED CARD OF 'gurneylaw03.FramePuts'. -/
def framePutsCard : Claim7 := { stood := { row := framePutsRow, standIns := [], harness := (true, "6bd1dd96be7cf56c0ac1baf81702624cde209933069c32281b4d364c2e018b08"), looks := false }, kinds := [], alts := [], laidByText := true, laidKinds := [.data], laidTests := true, laidLooks := .later }
def FramePutsCardSaid : Prop := Claim7.holds Tryd.pinned (.plain (OpenSpec.ofChange framePutsSpec)) framePutsCard

/-- THE TIED CARD OF 'gurneylaw03.FrameParses'. -/
def frameParsesCard : Claim7 := { stood := { row := frameParsesRow, standIns := [], harness := (true, "6bd1dd96be7cf56c0ac1baf81702624cde209933069c32281b4d364c2e018b08"), looks := false }, kinds := [], alts := [], laidByText := true, laidKinds := [.data], laidTests := true, laidLooks := .later }
def FrameParsesCardSaid : Prop := Claim7.holds Tryd.pinned (.plain (OpenSpec.ofChange frameParsesSpec)) frameParsesCard

/-- THE TIED CARD OF 'gurneylaw03.FrameBack'. -/
def frameBackCard : Claim7 := { stood := { row := frameBackRow, standIns := [], harness := (true, "6bd1dd96be7cf56c0ac1baf81702624cde209933069c32281b4d364c2e018b08"), looks := false }, kinds := [], alts := [], laidByText := true, laidKinds := [.data], laidTests := true, laidLooks := .later }
def FrameBackCardSaid : Prop := Claim7.holds Tryd.pinned (.plain (OpenSpec.ofChange frameBackSpec)) frameBackCard

/-- THE TIED CARD OF 'gurneylaw03.FrameTurned'. -/
def frameTurnedCard : Claim7 := { stood := { row := frameTurnedRow, standIns := [], harness := (true, "6bd1dd96be7cf56c0ac1baf81702624cde209933069c32281b4d364c2e018b08"), looks := false }, kinds := [], alts := [], laidByText := true, laidKinds := [.data], laidTests := true, laidLooks := .later }
def FrameTurnedCardSaid : Prop := Claim7.holds Tryd.pinned (.plain (OpenSpec.ofChange frameTurnedSpec)) frameTurnedCard

/-- THE TIED CARD OF 'gurneylaw03.FrameHead'. -/
def frameHeadCard : Claim7 := { stood := { row := frameHeadRow, standIns := [], harness := (true, "6bd1dd96be7cf56c0ac1baf81702624cde209933069c32281b4d364c2e018b08"), looks := false }, kinds := [], alts := [], laidByText := true, laidKinds := [.data], laidTests := true, laidLooks := .later }
def FrameHeadCardSaid : Prop := Claim7.holds Tryd.pinned (.plain (OpenSpec.ofChange frameHeadSpec)) frameHeadCard

/-- THE TIED CARD OF 'gurneylaw03.FrameHears'. -/
def frameHearsCard : Claim7 := { stood := { row := frameHearsRow, standIns := [], harness := (true, "6bd1dd96be7cf56c0ac1baf81702624cde209933069c32281b4d364c2e018b08"), looks := false }, kinds := [], alts := [], laidByText := true, laidKinds := [.data], laidTests := true, laidLooks := .later }
def FrameHearsCardSaid : Prop := Claim7.holds Tryd.pinned (.plain (OpenSpec.ofChange frameHearsSpec)) frameHearsCard

/-- THE SECOND FORM's CARD OF 'gurneylaw03.FramePuts'. -/
def framePutsUptoCard : Claim7 := { stood := { row := framePutsUptoRow, standIns := [], harness := (true, "6bd1dd96be7cf56c0ac1baf81702624cde209933069c32281b4d364c2e018b08"), looks := false }, kinds := [], alts := [], laidByText := true, laidKinds := [.data], laidTests := true, laidLooks := .later }
def FramePutsUptoCardSaid : Prop := Claim7.holds Tryd.pinned (.plain (OpenSpec.upto framePutsSpec)) framePutsUptoCard

/-- THE SECOND FORM's CARD OF 'gurneylaw03.FrameParses'. -/
def frameParsesUptoCard : Claim7 := { stood := { row := frameParsesUptoRow, standIns := [], harness := (true, "6bd1dd96be7cf56c0ac1baf81702624cde209933069c32281b4d364c2e018b08"), looks := false }, kinds := [], alts := [], laidByText := true, laidKinds := [.data], laidTests := true, laidLooks := .later }
def FrameParsesUptoCardSaid : Prop := Claim7.holds Tryd.pinned (.plain (OpenSpec.upto frameParsesSpec)) frameParsesUptoCard

/-- THE SECOND FORM's CARD OF 'gurneylaw03.FrameBack'. -/
def frameBackUptoCard : Claim7 := { stood := { row := frameBackUptoRow, standIns := [], harness := (true, "6bd1dd96be7cf56c0ac1baf81702624cde209933069c32281b4d364c2e018b08"), looks := false }, kinds := [], alts := [], laidByText := true, laidKinds := [.data], laidTests := true, laidLooks := .later }
def FrameBackUptoCardSaid : Prop := Claim7.holds Tryd.pinned (.plain (OpenSpec.upto frameBackSpec)) frameBackUptoCard

/-- THE SECOND FORM's CARD OF 'gurneylaw03.FrameTurned'. -/
def frameTurnedUptoCard : Claim7 := { stood := { row := frameTurnedUptoRow, standIns := [], harness := (true, "6bd1dd96be7cf56c0ac1baf81702624cde209933069c32281b4d364c2e018b08"), looks := false }, kinds := [], alts := [], laidByText := true, laidKinds := [.data], laidTests := true, laidLooks := .later }
def FrameTurnedUptoCardSaid : Prop := Claim7.holds Tryd.pinned (.plain (OpenSpec.upto frameTurnedSpec)) frameTurnedUptoCard

/-- THE SECOND FORM's CARD OF 'gurneylaw03.FrameHead'. -/
def frameHeadUptoCard : Claim7 := { stood := { row := frameHeadUptoRow, standIns := [], harness := (true, "6bd1dd96be7cf56c0ac1baf81702624cde209933069c32281b4d364c2e018b08"), looks := false }, kinds := [], alts := [], laidByText := true, laidKinds := [.data], laidTests := true, laidLooks := .later }
def FrameHeadUptoCardSaid : Prop := Claim7.holds Tryd.pinned (.plain (OpenSpec.upto frameHeadSpec)) frameHeadUptoCard

/-- THE SECOND FORM's CARD OF 'gurneylaw03.FrameHears'. -/
def frameHearsUptoCard : Claim7 := { stood := { row := frameHearsUptoRow, standIns := [], harness := (true, "6bd1dd96be7cf56c0ac1baf81702624cde209933069c32281b4d364c2e018b08"), looks := false }, kinds := [], alts := [], laidByText := true, laidKinds := [.data], laidTests := true, laidLooks := .later }
def FrameHearsUptoCardSaid : Prop := Claim7.holds Tryd.pinned (.plain (OpenSpec.upto frameHearsSpec)) frameHearsUptoCard
end Rows
end Go.Proofs.YtaieohnppeapfaaDoor
