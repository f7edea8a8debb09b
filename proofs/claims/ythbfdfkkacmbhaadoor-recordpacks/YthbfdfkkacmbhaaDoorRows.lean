/-
  NARROWER THAN 'FOR EVERY INPUT', by the rows' own cells (each row's printed sentence says how): RecordPacks: laid · RecordParses: laid · RecordBack: laid · RecordMany: laid · RecordFirst: laid · RecordTurned: laid.
  DERIVED. THE GIVEN ROWS OF THIS SEAT. 6 by the template 'for every input the law returns true; each argument reads behind the call as it read before'; 0 by the template 'total and deterministic' (their statements: YthbfdfkkacmbhaaDoorTotals.lean).
  GIVEN WITH THE SEED: the statements are not yours to turn. If you find one false, say at which input.
  Laid BY PROGRAM, IN A SANDBOX (cutbox-rows.mjs): the forced cells as the released guide's own fill.sh prints them over the translation 23be93ea8876703c… (all of the seat's roots in one cut). By AI agents, Wed Nov 11 2026. No macro, syntax, notation, axiom, sorry.
-/
import Derived.Test.YthbfdfkkacmbhaaDoorChecked
import GoSem.Claim
import GoSem.ClaimJoined
import GoSem.ClaimMapViews
import Derived.JoinedTies
import Derived.KernelRfl
namespace Go.Proofs.YthbfdfkkacmbhaaDoor
/- THE CELL 'sum', in the pinned program and in every row, IS THE sha256 OF THE DUMP (.gsa) THAT YthbfdfkkacmbhaaDoorProg.lean LOADS. Nothing in Lean hashes anything: it is a label: what it is worth is what the hold of that sum in a sandbox is worth. -/
noncomputable def Tryd.pinned : Pinned := { name := "ythbfdfkkacmbhaadoor", sum := "23be93ea8876703c03e2cdb4586d27f55decce9de42ecb9996d36ca6a90fe363", checked := Tryd.checked }
namespace Rows
def none {H : Type} : Left H := { results := [], args := [] }

/- WHAT THE LISTED PACKAGE-LEVEL VARIABLES READ AS WHEN THE CALL BEGINS. Each datum BY PROGRAM (the guide's laid-datum.mjs) off the statement by which the dump's own 'gosem.cut.vars' lays the variable. In a bare row this is a premise. The card (YthbfdfkkacmbhaaDoorCards.lean) ties it to the program's text. -/
def laid_gurney_record_widths {H : Type} : DataW H := .agg [.lit (.int .i64 3), .lit (.int .i64 8), .lit (.int .i64 10), .lit (.int .i64 3)]

/-- 'gurneylaw10.RecordPacks': WHATEVER THE INPUT: true; the input reads as it did. -/
def recordPacksSpec : ChangeSpec := { name := "recordPacks", fn := fun _ => fun
  | [d1, d2, d3] => { results := [.lit (.bool true)], args := [d1, d2, d3] }
  | _ => none }
def recordPacksRow : OpenClaim := { program := "ythbfdfkkacmbhaadoor", sum := "23be93ea8876703c03e2cdb4586d27f55decce9de42ecb9996d36ca6a90fe363", func := "gurney/gurneylaw10.RecordPacks", spec := "recordPacks", unfollowed := true, recurses := true, named := ["gurney/record.widths"], apart := false, laid := [("gurney/record.widths", laid_gurney_record_widths)] }
def RecordPacksSaid : Prop := recordPacksRow.holds Tryd.pinned (OpenSpec.ofChange recordPacksSpec)

/-- ITS FALSE NEIGHBOUR: 'it returns false'. Refute it at one input. -/
def recordPacksWrong : ChangeSpec := { name := "recordPacks", fn := fun _ => fun
  | [d1, d2, d3] => { results := [.lit (.bool false)], args := [d1, d2, d3] }
  | _ => none }
def RecordPacksWrongFalsely : Prop := recordPacksRow.holds Tryd.pinned (OpenSpec.ofChange recordPacksWrong)

/-- 'gurneylaw10.RecordParses': WHATEVER THE INPUT: true; the input reads as it did. -/
def recordParsesSpec : ChangeSpec := { name := "recordParses", fn := fun _ => fun
  | [d] => { results := [.lit (.bool true)], args := [d] }
  | _ => none }
def recordParsesRow : OpenClaim := { program := "ythbfdfkkacmbhaadoor", sum := "23be93ea8876703c03e2cdb4586d27f55decce9de42ecb9996d36ca6a90fe363", func := "gurney/gurneylaw10.RecordParses", spec := "recordParses", unfollowed := true, recurses := true, named := ["gurney/record.widths"], apart := false, laid := [("gurney/record.widths", laid_gurney_record_widths)] }
def RecordParsesSaid : Prop := recordParsesRow.holds Tryd.pinned (OpenSpec.ofChange recordParsesSpec)

/-- ITS FALSE NEIGHBOUR: 'it returns false'. Refute it at one input. -/
def recordParsesWrong : ChangeSpec := { name := "recordParses", fn := fun _ => fun
  | [d] => { results := [.lit (.bool false)], args := [d] }
  | _ => none }
def RecordParsesWrongFalsely : Prop := recordParsesRow.holds Tryd.pinned (OpenSpec.ofChange recordParsesWrong)

/-- 'gurneylaw10.RecordBack': WHATEVER THE INPUT: true; the input reads as it did. -/
def recordBackSpec : ChangeSpec := { name := "recordBack", fn := fun _ => fun
  | [d1, d2, d3] => { results := [.lit (.bool true)], args := [d1, d2, d3] }
  | _ => none }
def recordBackRow : OpenClaim := { program := "ythbfdfkkacmbhaadoor", sum := "23be93ea8876703c03e2cdb4586d27f55decce9de42ecb9996d36ca6a90fe363", func := "gurney/gurneylaw10.RecordBack", spec := "recordBack", unfollowed := true, recurses := true, named := ["gurney/record.widths"], apart := false, laid := [("gurney/record.widths", laid_gurney_record_widths)] }
def RecordBackSaid : Prop := recordBackRow.holds Tryd.pinned (OpenSpec.ofChange recordBackSpec)

/-- ITS FALSE NEIGHBOUR: 'it returns false'. Refute it at one input. -/
def recordBackWrong : ChangeSpec := { name := "recordBack", fn := fun _ => fun
  | [d1, d2, d3] => { results := [.lit (.bool false)], args := [d1, d2, d3] }
  | _ => none }
def RecordBackWrongFalsely : Prop := recordBackRow.holds Tryd.pinned (OpenSpec.ofChange recordBackWrong)

/-- 'gurneylaw10.RecordMany': WHATEVER THE INPUT: true; the input reads as it did. -/
def recordManySpec : ChangeSpec := { name := "recordMany", fn := fun _ => fun
  | [d1, d2] => { results := [.lit (.bool true)], args := [d1, d2] }
  | _ => none }
def recordManyRow : OpenClaim := { program := "ythbfdfkkacmbhaadoor", sum := "23be93ea8876703c03e2cdb4586d27f55decce9de42ecb9996d36ca6a90fe363", func := "gurney/gurneylaw10.RecordMany", spec := "recordMany", unfollowed := true, recurses := true, named := ["gurney/record.widths"], apart := false, laid := [("gurney/record.widths", laid_gurney_record_widths)] }
def RecordManySaid : Prop := recordManyRow.holds Tryd.pinned (OpenSpec.ofChange recordManySpec)

/-- ITS FALSE NEIGHBOUR: 'it returns false'. Refute it at one input. -/
def recordManyWrong : ChangeSpec := { name := "recordMany", fn := fun _ => fun
  | [d1, d2] => { results := [.lit (.bool false)], args := [d1, d2] }
  | _ => none }
def RecordManyWrongFalsely : Prop := recordManyRow.holds Tryd.pinned (OpenSpec.ofChange recordManyWrong)

/-- 'gurneylaw10.RecordFirst': WHATEVER THE INPUT: true; the input reads as it did. -/
def recordFirstSpec : ChangeSpec := { name := "recordFirst", fn := fun _ => fun
  | [d1, d2, d3] => { results := [.lit (.bool true)], args := [d1, d2, d3] }
  | _ => none }
def recordFirstRow : OpenClaim := { program := "ythbfdfkkacmbhaadoor", sum := "23be93ea8876703c03e2cdb4586d27f55decce9de42ecb9996d36ca6a90fe363", func := "gurney/gurneylaw10.RecordFirst", spec := "recordFirst", unfollowed := true, recurses := true, named := ["gurney/record.widths"], apart := false, laid := [("gurney/record.widths", laid_gurney_record_widths)] }
def RecordFirstSaid : Prop := recordFirstRow.holds Tryd.pinned (OpenSpec.ofChange recordFirstSpec)

/-- ITS FALSE NEIGHBOUR: 'it returns false'. Refute it at one input. -/
def recordFirstWrong : ChangeSpec := { name := "recordFirst", fn := fun _ => fun
  | [d1, d2, d3] => { results := [.lit (.bool false)], args := [d1, d2, d3] }
  | _ => none }
def RecordFirstWrongFalsely : Prop := recordFirstRow.holds Tryd.pinned (OpenSpec.ofChange recordFirstWrong)

/-- 'gurneylaw10.RecordTurned': WHATEVER THE INPUT: true; the input reads as it did. -/
def recordTurnedSpec : ChangeSpec := { name := "recordTurned", fn := fun _ => fun
  | [d1, d2, d3] => { results := [.lit (.bool true)], args := [d1, d2, d3] }
  | _ => none }
def recordTurnedRow : OpenClaim := { program := "ythbfdfkkacmbhaadoor", sum := "23be93ea8876703c03e2cdb4586d27f55decce9de42ecb9996d36ca6a90fe363", func := "gurney/gurneylaw10.RecordTurned", spec := "recordTurned", unfollowed := true, recurses := true, named := ["gurney/record.widths"], apart := false, laid := [("gurney/record.widths", laid_gurney_record_widths)] }
def RecordTurnedSaid : Prop := recordTurnedRow.holds Tryd.pinned (OpenSpec.ofChange recordTurnedSpec)

/-- ITS FALSE NEIGHBOUR: 'it returns false'. Refute it at one input. -/
def recordTurnedWrong : ChangeSpec := { name := "recordTurned", fn := fun _ => fun
  | [d1, d2, d3] => { results := [.lit (.bool false)], args := [d1, d2, d3] }
  | _ => none }
def RecordTurnedWrongFalsely : Prop := recordTurnedRow.holds Tryd.pinned (OpenSpec.ofChange recordTurnedWrong)

/- THE SECOND FORM. 'bulk': how many values and letters a reading holds, each counted each time it is reached (what is shared counts as often as it is met; a slice's spare places count too). A statement '..UptoSaid' is the law's where the arguments, and the package variables that the reading takes, are together of bulk at most 1048576: NARROWER than '..Said'. Prove '..Said' where nothing that the law and all that it calls make is longer than what came in: it says more and counts as full. Else prove '..UptoSaid'. A law counts once. -/
mutual
def uptoBulk {H : Type} : DataW H → Nat
  | .lit (.string bytes) => bytes.length + 1
  | .lit _ => 1
  | .nil => 1
  | .ptr d => uptoBulk d + 1
  | .slice elems spare => uptoBulkAll elems + uptoBulkAll spare + 1
  | .agg parts => uptoBulkAll parts + 1
  | .iface _ d => uptoBulk d + 1
  | .map entries => uptoBulkEntries entries + 1
  | .held _ => 1
def uptoBulkAll {H : Type} : List (DataW H) → Nat
  | [] => 0
  | d :: r => uptoBulk d + uptoBulkAll r
def uptoBulkEntries {H : Type} : List (Lit × DataW H) → Nat
  | [] => 0
  | x :: r => uptoBulkEntry x + uptoBulkEntries r
def uptoBulkEntry {H : Type} : Lit × DataW H → Nat
  | (.string bytes, d) => bytes.length + uptoBulk d + 1
  | (_, d) => uptoBulk d + 1
 end
def uptoSmall : (H : Type) → List (DataW H) → Bool := fun _ ds => decide (uptoBulkAll ds ≤ 1048576)
def OpenSpec.upto (s : _root_.Go.ChangeSpec) : _root_.Go.OpenSpec := { _root_.Go.OpenSpec.ofChange s with cond := some uptoSmall }

/-- 'gurneylaw10.RecordPacks', WHERE WHAT IT READS IS OF BULK AT MOST 1048576: true; the input reads as it did. -/
def recordPacksUptoRow : OpenClaim := { program := "ythbfdfkkacmbhaadoor", sum := "23be93ea8876703c03e2cdb4586d27f55decce9de42ecb9996d36ca6a90fe363", func := "gurney/gurneylaw10.RecordPacks", spec := "recordPacks", unfollowed := true, recurses := true, named := ["gurney/record.widths"], apart := false, laid := [("gurney/record.widths", laid_gurney_record_widths)], narrowed := true }
def RecordPacksUptoSaid : Prop := recordPacksUptoRow.holds Tryd.pinned (OpenSpec.upto recordPacksSpec)

/-- 'gurneylaw10.RecordParses', WHERE WHAT IT READS IS OF BULK AT MOST 1048576: true; the input reads as it did. -/
def recordParsesUptoRow : OpenClaim := { program := "ythbfdfkkacmbhaadoor", sum := "23be93ea8876703c03e2cdb4586d27f55decce9de42ecb9996d36ca6a90fe363", func := "gurney/gurneylaw10.RecordParses", spec := "recordParses", unfollowed := true, recurses := true, named := ["gurney/record.widths"], apart := false, laid := [("gurney/record.widths", laid_gurney_record_widths)], narrowed := true }
def RecordParsesUptoSaid : Prop := recordParsesUptoRow.holds Tryd.pinned (OpenSpec.upto recordParsesSpec)

/-- 'gurneylaw10.RecordBack', WHERE WHAT IT READS IS OF BULK AT MOST 1048576: true; the input reads as it did. -/
def recordBackUptoRow : OpenClaim := { program := "ythbfdfkkacmbhaadoor", sum := "23be93ea8876703c03e2cdb4586d27f55decce9de42ecb9996d36ca6a90fe363", func := "gurney/gurneylaw10.RecordBack", spec := "recordBack", unfollowed := true, recurses := true, named := ["gurney/record.widths"], apart := false, laid := [("gurney/record.widths", laid_gurney_record_widths)], narrowed := true }
def RecordBackUptoSaid : Prop := recordBackUptoRow.holds Tryd.pinned (OpenSpec.upto recordBackSpec)

/-- 'gurneylaw10.RecordMany', WHERE WHAT IT READS IS OF BULK AT MOST 1048576: true; the input reads as it did. -/
def recordManyUptoRow : OpenClaim := { program := "ythbfdfkkacmbhaadoor", sum := "23be93ea8876703c03e2cdb4586d27f55decce9de42ecb9996d36ca6a90fe363", func := "gurney/gurneylaw10.RecordMany", spec := "recordMany", unfollowed := true, recurses := true, named := ["gurney/record.widths"], apart := false, laid := [("gurney/record.widths", laid_gurney_record_widths)], narrowed := true }
def RecordManyUptoSaid : Prop := recordManyUptoRow.holds Tryd.pinned (OpenSpec.upto recordManySpec)

/-- 'gurneylaw10.RecordFirst', WHERE WHAT IT READS IS OF BULK AT MOST 1048576: true; the input reads as it did. -/
def recordFirstUptoRow : OpenClaim := { program := "ythbfdfkkacmbhaadoor", sum := "23be93ea8876703c03e2cdb4586d27f55decce9de42ecb9996d36ca6a90fe363", func := "gurney/gurneylaw10.RecordFirst", spec := "recordFirst", unfollowed := true, recurses := true, named := ["gurney/record.widths"], apart := false, laid := [("gurney/record.widths", laid_gurney_record_widths)], narrowed := true }
def RecordFirstUptoSaid : Prop := recordFirstUptoRow.holds Tryd.pinned (OpenSpec.upto recordFirstSpec)

/-- 'gurneylaw10.RecordTurned', WHERE WHAT IT READS IS OF BULK AT MOST 1048576: true; the input reads as it did. -/
def recordTurnedUptoRow : OpenClaim := { program := "ythbfdfkkacmbhaadoor", sum := "23be93ea8876703c03e2cdb4586d27f55decce9de42ecb9996d36ca6a90fe363", func := "gurney/gurneylaw10.RecordTurned", spec := "recordTurned", unfollowed := true, recurses := true, named := ["gurney/record.widths"], apart := false, laid := [("gurney/record.widths", laid_gurney_record_widths)], narrowed := true }
def RecordTurnedUptoSaid : Prop := recordTurnedUptoRow.holds Tryd.pinned (OpenSpec.upto recordTurnedSpec)

end Rows
end Go.Proofs.YthbfdfkkacmbhaaDoor
