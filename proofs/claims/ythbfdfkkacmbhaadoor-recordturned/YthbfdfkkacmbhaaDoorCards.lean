/-
  DERIVED. GIVEN WITH THE SEED: THE CARDS: each row of YthbfdfkkacmbhaaDoorRows.lean that lists a variable, with what it lists TIED to the program's text (the seventh form; the later family's looks); each row that meets fmt, with fmt's text TOLD by the authors' own Lean function (tested against real Go, not proved from fmt's source: count such statements apart). THE CARD IS WHAT COUNTS. Prove the row's statement (the work); the ties are given (YthbfdfkkacmbhaaDoorTie.lean); close each card by the builder's one call (the guide's Derived/Test/ToyasCard.lean, 'card_holds'). Laid BY PROGRAM, IN A SANDBOX (cutbox-door.mjs). By AI agents, Wed Nov 11 2026. No macro, syntax, notation, axiom, sorry.
-/
import Derived.Test.YthbfdfkkacmbhaaDoorRows
import GoSem.ClaimSeven
namespace Go.Proofs.YthbfdfkkacmbhaaDoor
namespace Rows

/-- THE TIED CARD OF 'gurneylaw10.RecordPacks'. -/
def recordPacksCard : Claim7 := { stood := { row := recordPacksRow, standIns := [], harness := (true, "48083bb0b2812a16015da9da29e02053fb694e0cc01e6d6a71d1c29f219818cd"), looks := false }, kinds := [], alts := [], laidByText := true, laidKinds := [.data], laidTests := true, laidLooks := .later }
def RecordPacksCardSaid : Prop := Claim7.holds Tryd.pinned (.plain (OpenSpec.ofChange recordPacksSpec)) recordPacksCard

/-- THE TIED CARD OF 'gurneylaw10.RecordParses'. -/
def recordParsesCard : Claim7 := { stood := { row := recordParsesRow, standIns := [], harness := (true, "48083bb0b2812a16015da9da29e02053fb694e0cc01e6d6a71d1c29f219818cd"), looks := false }, kinds := [], alts := [], laidByText := true, laidKinds := [.data], laidTests := true, laidLooks := .later }
def RecordParsesCardSaid : Prop := Claim7.holds Tryd.pinned (.plain (OpenSpec.ofChange recordParsesSpec)) recordParsesCard

/-- THE TIED CARD OF 'gurneylaw10.RecordBack'. -/
def recordBackCard : Claim7 := { stood := { row := recordBackRow, standIns := [], harness := (true, "48083bb0b2812a16015da9da29e02053fb694e0cc01e6d6a71d1c29f219818cd"), looks := false }, kinds := [], alts := [], laidByText := true, laidKinds := [.data], laidTests := true, laidLooks := .later }
def RecordBackCardSaid : Prop := Claim7.holds Tryd.pinned (.plain (OpenSpec.ofChange recordBackSpec)) recordBackCard

/-- THE TIED CARD OF 'gurneylaw10.RecordMany'. -/
def recordManyCard : Claim7 := { stood := { row := recordManyRow, standIns := [], harness := (true, "48083bb0b2812a16015da9da29e02053fb694e0cc01e6d6a71d1c29f219818cd"), looks := false }, kinds := [], alts := [], laidByText := true, laidKinds := [.data], laidTests := true, laidLooks := .later }
def RecordManyCardSaid : Prop := Claim7.holds Tryd.pinned (.plain (OpenSpec.ofChange recordManySpec)) recordManyCard

/-- THE TIED CARD OF 'gurneylaw10.RecordFirst'. -/
def recordFirstCard : Claim7 := { stood := { row := recordFirstRow, standIns := [], harness := (true, "48083bb0b2812a16015da9da29e02053fb694e0cc01e6d6a71d1c29f219818cd"), looks := false }, kinds := [], alts := [], laidByText := true, laidKinds := [.data], laidTests := true, laidLooks := .later }
def RecordFirstCardSaid : Prop := Claim7.holds Tryd.pinned (.plain (OpenSpec.ofChange recordFirstSpec)) recordFirstCard

/-- THE TIED CARD OF 'gurneylaw10.RecordTurned'. -/
def recordTurnedCard : Claim7 := { stood := { row := recordTurnedRow, standIns := [], harness := (true, "48083bb0b2812a16015da9da29e02053fb694e0cc01e6d6a71d1c29f219818cd"), looks := false }, kinds := [], alts := [], laidByText := true, laidKinds := [.data], laidTests := true, laidLooks := .later }
def RecordTurnedCardSaid : Prop := Claim7.holds Tryd.pinned (.plain (OpenSpec.ofChange recordTurnedSpec)) recordTurnedCard

/-- THE SECOND FORM's CARD OF 'gurneylaw10.RecordPacks'. -/
def recordPacksUptoCard : Claim7 := { stood := { row := recordPacksUptoRow, standIns := [], harness := (true, "48083bb0b2812a16015da9da29e02053fb694e0cc01e6d6a71d1c29f219818cd"), looks := false }, kinds := [], alts := [], laidByText := true, laidKinds := [.data], laidTests := true, laidLooks := .later }
def RecordPacksUptoCardSaid : Prop := Claim7.holds Tryd.pinned (.plain (OpenSpec.upto recordPacksSpec)) recordPacksUptoCard

/-- THE SECOND FORM's CARD OF 'gurneylaw10.RecordParses'. -/
def recordParsesUptoCard : Claim7 := { stood := { row := recordParsesUptoRow, standIns := [], harness := (true, "48083bb0b2812a16015da9da29e02053fb694e0cc01e6d6a71d1c29f219818cd"), looks := false }, kinds := [], alts := [], laidByText := true, laidKinds := [.data], laidTests := true, laidLooks := .later }
def RecordParsesUptoCardSaid : Prop := Claim7.holds Tryd.pinned (.plain (OpenSpec.upto recordParsesSpec)) recordParsesUptoCard

/-- THE SECOND FORM's CARD OF 'gurneylaw10.RecordBack'. -/
def recordBackUptoCard : Claim7 := { stood := { row := recordBackUptoRow, standIns := [], harness := (true, "48083bb0b2812a16015da9da29e02053fb694e0cc01e6d6a71d1c29f219818cd"), looks := false }, kinds := [], alts := [], laidByText := true, laidKinds := [.data], laidTests := true, laidLooks := .later }
def RecordBackUptoCardSaid : Prop := Claim7.holds Tryd.pinned (.plain (OpenSpec.upto recordBackSpec)) recordBackUptoCard

/-- THE SECOND FORM's CARD OF 'gurneylaw10.RecordMany'. -/
def recordManyUptoCard : Claim7 := { stood := { row := recordManyUptoRow, standIns := [], harness := (true, "48083bb0b2812a16015da9da29e02053fb694e0cc01e6d6a71d1c29f219818cd"), looks := false }, kinds := [], alts := [], laidByText := true, laidKinds := [.data], laidTests := true, laidLooks := .later }
def RecordManyUptoCardSaid : Prop := Claim7.holds Tryd.pinned (.plain (OpenSpec.upto recordManySpec)) recordManyUptoCard

/-- THE SECOND FORM's CARD OF 'gurneylaw10.RecordFirst'. -/
def recordFirstUptoCard : Claim7 := { stood := { row := recordFirstUptoRow, standIns := [], harness := (true, "48083bb0b2812a16015da9da29e02053fb694e0cc01e6d6a71d1c29f219818cd"), looks := false }, kinds := [], alts := [], laidByText := true, laidKinds := [.data], laidTests := true, laidLooks := .later }
def RecordFirstUptoCardSaid : Prop := Claim7.holds Tryd.pinned (.plain (OpenSpec.upto recordFirstSpec)) recordFirstUptoCard

/-- THE SECOND FORM's CARD OF 'gurneylaw10.RecordTurned'. -/
def recordTurnedUptoCard : Claim7 := { stood := { row := recordTurnedUptoRow, standIns := [], harness := (true, "48083bb0b2812a16015da9da29e02053fb694e0cc01e6d6a71d1c29f219818cd"), looks := false }, kinds := [], alts := [], laidByText := true, laidKinds := [.data], laidTests := true, laidLooks := .later }
def RecordTurnedUptoCardSaid : Prop := Claim7.holds Tryd.pinned (.plain (OpenSpec.upto recordTurnedSpec)) recordTurnedUptoCard
end Rows
end Go.Proofs.YthbfdfkkacmbhaaDoor
