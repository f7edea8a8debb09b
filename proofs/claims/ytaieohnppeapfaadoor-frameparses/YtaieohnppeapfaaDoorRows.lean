/-
  NARROWER THAN 'FOR EVERY INPUT', by the rows' own cells (each row's printed sentence says how): FramePuts: laid · FrameParses: laid · FrameBack: laid · FrameTurned: laid · FrameHead: laid · FrameHears: laid.
  DERIVED. THE GIVEN ROWS OF THIS SEAT. 6 by the template 'for every input the law returns true; each argument reads behind the call as it read before'; 0 by the template 'total and deterministic' (their statements: YtaieohnppeapfaaDoorTotals.lean).
  GIVEN WITH THE SEED: the statements are not yours to turn. If you find one false, say at which input.
  Laid BY PROGRAM, IN A SANDBOX (cutbox-rows.mjs): the forced cells as the released guide's own fill.sh prints them over the translation e635cd2820b8d3b8… (all of the seat's roots in one cut). By AI agents, Wed Nov 11 2026. No macro, syntax, notation, axiom, sorry.
-/
import Derived.Test.YtaieohnppeapfaaDoorChecked
import GoSem.Claim
import GoSem.ClaimJoined
import GoSem.ClaimMapViews
import Derived.JoinedTies
import Derived.KernelRfl
namespace Go.Proofs.YtaieohnppeapfaaDoor
/- THE CELL 'sum', in the pinned program and in every row, IS THE sha256 OF THE DUMP (.gsa) THAT YtaieohnppeapfaaDoorProg.lean LOADS. Nothing in Lean hashes anything: it is a label: what it is worth is what the hold of that sum in a sandbox is worth. -/
noncomputable def Tryd.pinned : Pinned := { name := "ytaieohnppeapfaadoor", sum := "e635cd2820b8d3b819babf56e9d9ef0d38586a218372a60287b7aadd533a2ba7", checked := Tryd.checked }
namespace Rows
def none {H : Type} : Left H := { results := [], args := [] }

/- WHAT THE LISTED PACKAGE-LEVEL VARIABLES READ AS WHEN THE CALL BEGINS. Each datum BY PROGRAM (the guide's laid-datum.mjs) off the statement by which the dump's own 'gosem.cut.vars' lays the variable. In a bare row this is a premise. The card (YtaieohnppeapfaaDoorCards.lean) ties it to the program's text. -/
def laid_gurney_frame_widths {H : Type} : DataW H := .agg [.lit (.int .i64 8), .lit (.int .i64 12), .lit (.int .i64 3), .lit (.int .i64 7), .lit (.int .i64 2), .lit (.int .i64 8)]

/-- 'gurneylaw03.FramePuts': WHATEVER THE INPUT: true; the input reads as it did. -/
def framePutsSpec : ChangeSpec := { name := "framePuts", fn := fun _ => fun
  | [d1, d2] => { results := [.lit (.bool true)], args := [d1, d2] }
  | _ => none }
def framePutsRow : OpenClaim := { program := "ytaieohnppeapfaadoor", sum := "e635cd2820b8d3b819babf56e9d9ef0d38586a218372a60287b7aadd533a2ba7", func := "gurney/gurneylaw03.FramePuts", spec := "framePuts", unfollowed := true, recurses := true, named := ["gurney/frame.widths"], apart := false, laid := [("gurney/frame.widths", laid_gurney_frame_widths)] }
def FramePutsSaid : Prop := framePutsRow.holds Tryd.pinned (OpenSpec.ofChange framePutsSpec)

/-- ITS FALSE NEIGHBOUR: 'it returns false'. Refute it at one input. -/
def framePutsWrong : ChangeSpec := { name := "framePuts", fn := fun _ => fun
  | [d1, d2] => { results := [.lit (.bool false)], args := [d1, d2] }
  | _ => none }
def FramePutsWrongFalsely : Prop := framePutsRow.holds Tryd.pinned (OpenSpec.ofChange framePutsWrong)

/-- 'gurneylaw03.FrameParses': WHATEVER THE INPUT: true; the input reads as it did. -/
def frameParsesSpec : ChangeSpec := { name := "frameParses", fn := fun _ => fun
  | [d1, d2, d3] => { results := [.lit (.bool true)], args := [d1, d2, d3] }
  | _ => none }
def frameParsesRow : OpenClaim := { program := "ytaieohnppeapfaadoor", sum := "e635cd2820b8d3b819babf56e9d9ef0d38586a218372a60287b7aadd533a2ba7", func := "gurney/gurneylaw03.FrameParses", spec := "frameParses", unfollowed := true, recurses := true, named := ["gurney/frame.widths"], apart := false, laid := [("gurney/frame.widths", laid_gurney_frame_widths)] }
def FrameParsesSaid : Prop := frameParsesRow.holds Tryd.pinned (OpenSpec.ofChange frameParsesSpec)

/-- ITS FALSE NEIGHBOUR: 'it returns false'. Refute it at one input. -/
def frameParsesWrong : ChangeSpec := { name := "frameParses", fn := fun _ => fun
  | [d1, d2, d3] => { results := [.lit (.bool false)], args := [d1, d2, d3] }
  | _ => none }
def FrameParsesWrongFalsely : Prop := frameParsesRow.holds Tryd.pinned (OpenSpec.ofChange frameParsesWrong)

/-- 'gurneylaw03.FrameBack': WHATEVER THE INPUT: true; the input reads as it did. -/
def frameBackSpec : ChangeSpec := { name := "frameBack", fn := fun _ => fun
  | [d1, d2] => { results := [.lit (.bool true)], args := [d1, d2] }
  | _ => none }
def frameBackRow : OpenClaim := { program := "ytaieohnppeapfaadoor", sum := "e635cd2820b8d3b819babf56e9d9ef0d38586a218372a60287b7aadd533a2ba7", func := "gurney/gurneylaw03.FrameBack", spec := "frameBack", unfollowed := true, recurses := true, named := ["gurney/frame.widths"], apart := false, laid := [("gurney/frame.widths", laid_gurney_frame_widths)] }
def FrameBackSaid : Prop := frameBackRow.holds Tryd.pinned (OpenSpec.ofChange frameBackSpec)

/-- ITS FALSE NEIGHBOUR: 'it returns false'. Refute it at one input. -/
def frameBackWrong : ChangeSpec := { name := "frameBack", fn := fun _ => fun
  | [d1, d2] => { results := [.lit (.bool false)], args := [d1, d2] }
  | _ => none }
def FrameBackWrongFalsely : Prop := frameBackRow.holds Tryd.pinned (OpenSpec.ofChange frameBackWrong)

/-- 'gurneylaw03.FrameTurned': WHATEVER THE INPUT: true; the input reads as it did. -/
def frameTurnedSpec : ChangeSpec := { name := "frameTurned", fn := fun _ => fun
  | [d1, d2, d3] => { results := [.lit (.bool true)], args := [d1, d2, d3] }
  | _ => none }
def frameTurnedRow : OpenClaim := { program := "ytaieohnppeapfaadoor", sum := "e635cd2820b8d3b819babf56e9d9ef0d38586a218372a60287b7aadd533a2ba7", func := "gurney/gurneylaw03.FrameTurned", spec := "frameTurned", unfollowed := true, recurses := true, named := ["gurney/frame.widths"], apart := false, laid := [("gurney/frame.widths", laid_gurney_frame_widths)] }
def FrameTurnedSaid : Prop := frameTurnedRow.holds Tryd.pinned (OpenSpec.ofChange frameTurnedSpec)

/-- ITS FALSE NEIGHBOUR: 'it returns false'. Refute it at one input. -/
def frameTurnedWrong : ChangeSpec := { name := "frameTurned", fn := fun _ => fun
  | [d1, d2, d3] => { results := [.lit (.bool false)], args := [d1, d2, d3] }
  | _ => none }
def FrameTurnedWrongFalsely : Prop := frameTurnedRow.holds Tryd.pinned (OpenSpec.ofChange frameTurnedWrong)

/-- 'gurneylaw03.FrameHead': WHATEVER THE INPUT: true; the input reads as it did. -/
def frameHeadSpec : ChangeSpec := { name := "frameHead", fn := fun _ => fun
  | [d] => { results := [.lit (.bool true)], args := [d] }
  | _ => none }
def frameHeadRow : OpenClaim := { program := "ytaieohnppeapfaadoor", sum := "e635cd2820b8d3b819babf56e9d9ef0d38586a218372a60287b7aadd533a2ba7", func := "gurney/gurneylaw03.FrameHead", spec := "frameHead", unfollowed := true, recurses := true, named := ["gurney/frame.widths"], apart := false, laid := [("gurney/frame.widths", laid_gurney_frame_widths)] }
def FrameHeadSaid : Prop := frameHeadRow.holds Tryd.pinned (OpenSpec.ofChange frameHeadSpec)

/-- ITS FALSE NEIGHBOUR: 'it returns false'. Refute it at one input. -/
def frameHeadWrong : ChangeSpec := { name := "frameHead", fn := fun _ => fun
  | [d] => { results := [.lit (.bool false)], args := [d] }
  | _ => none }
def FrameHeadWrongFalsely : Prop := frameHeadRow.holds Tryd.pinned (OpenSpec.ofChange frameHeadWrong)

/-- 'gurneylaw03.FrameHears': WHATEVER THE INPUT: true; the input reads as it did. -/
def frameHearsSpec : ChangeSpec := { name := "frameHears", fn := fun _ => fun
  | [d1, d2, d3] => { results := [.lit (.bool true)], args := [d1, d2, d3] }
  | _ => none }
def frameHearsRow : OpenClaim := { program := "ytaieohnppeapfaadoor", sum := "e635cd2820b8d3b819babf56e9d9ef0d38586a218372a60287b7aadd533a2ba7", func := "gurney/gurneylaw03.FrameHears", spec := "frameHears", unfollowed := true, recurses := true, named := ["gurney/frame.widths"], apart := false, laid := [("gurney/frame.widths", laid_gurney_frame_widths)] }
def FrameHearsSaid : Prop := frameHearsRow.holds Tryd.pinned (OpenSpec.ofChange frameHearsSpec)

/-- ITS FALSE NEIGHBOUR: 'it returns false'. Refute it at one input. -/
def frameHearsWrong : ChangeSpec := { name := "frameHears", fn := fun _ => fun
  | [d1, d2, d3] => { results := [.lit (.bool false)], args := [d1, d2, d3] }
  | _ => none }
def FrameHearsWrongFalsely : Prop := frameHearsRow.holds Tryd.pinned (OpenSpec.ofChange frameHearsWrong)

/- THE SECOND FORM. 'bulk': how many values and letters a reading holds, each counted each time it is reached (what is shared counts as often as it is met; a slice's spare places count too). A statement '..UptoSaid' is the law's where the arguments, and the package variables that the reading takes, are together of bulk at most 1048576: NARROWER than '..Said'. Prove '..Said' where nothing that the law and all that it calls make is longer than what came in: it says more and counts as full. Else prove '..UptoSaid'. A law counts once. -/
mutual
def uptoBulk {H : Type} : DataW H → Nat
  | .lit (.string bytes) => bytes.length + 1
  | .lit _ => 1
  | .nil => 1
  | .ptr d => uptoBulk d + 1
  | .slice elems spare => uptoBulkAll elems + uptoBulkAll spare + 1
  | .agg parts => uptoBulkAll parts + 1
  | .iface _ d => uptoBulk d + 1
  | .map entries => uptoBulkEntries entries + 1
  | .held _ => 1
def uptoBulkAll {H : Type} : List (DataW H) → Nat
  | [] => 0
  | d :: r => uptoBulk d + uptoBulkAll r
def uptoBulkEntries {H : Type} : List (Lit × DataW H) → Nat
  | [] => 0
  | x :: r => uptoBulkEntry x + uptoBulkEntries r
def uptoBulkEntry {H : Type} : Lit × DataW H → Nat
  | (.string bytes, d) => bytes.length + uptoBulk d + 1
  | (_, d) => uptoBulk d + 1
 end
def uptoSmall : (H : Type) → List (DataW H) → Bool := fun _ ds => decide (uptoBulkAll ds ≤ 1048576)
def OpenSpec.upto (s : _root_.Go.ChangeSpec) : _root_.Go.OpenSpec := { _root_.Go.OpenSpec.ofChange s with cond := some uptoSmall }

/-- 'gurneylaw03.FramePuts', WHERE WHAT IT READS IS OF BULK AT MOST 1048576: true; the input reads as it did. -/
def framePutsUptoRow : OpenClaim := { program := "ytaieohnppeapfaadoor", sum := "e635cd2820b8d3b819babf56e9d9ef0d38586a218372a60287b7aadd533a2ba7", func := "gurney/gurneylaw03.FramePuts", spec := "framePuts", unfollowed := true, recurses := true, named := ["gurney/frame.widths"], apart := false, laid := [("gurney/frame.widths", laid_gurney_frame_widths)], narrowed := true }
def FramePutsUptoSaid : Prop := framePutsUptoRow.holds Tryd.pinned (OpenSpec.upto framePutsSpec)

/-- 'gurneylaw03.FrameParses', WHERE WHAT IT READS IS OF BULK AT MOST 1048576: true; the input reads as it did. -/
def frameParsesUptoRow : OpenClaim := { program := "ytaieohnppeapfaadoor", sum := "e635cd2820b8d3b819babf56e9d9ef0d38586a218372a60287b7aadd533a2ba7", func := "gurney/gurneylaw03.FrameParses", spec := "frameParses", unfollowed := true, recurses := true, named := ["gurney/frame.widths"], apart := false, laid := [("gurney/frame.widths", laid_gurney_frame_widths)], narrowed := true }
def FrameParsesUptoSaid : Prop := frameParsesUptoRow.holds Tryd.pinned (OpenSpec.upto frameParsesSpec)

/-- 'gurneylaw03.FrameBack', WHERE WHAT IT READS IS OF BULK AT MOST 1048576: true; the input reads as it did. -/
def frameBackUptoRow : OpenClaim := { program := "ytaieohnppeapfaadoor", sum := "e635cd2820b8d3b819babf56e9d9ef0d38586a218372a60287b7aadd533a2ba7", func := "gurney/gurneylaw03.FrameBack", spec := "frameBack", unfollowed := true, recurses := true, named := ["gurney/frame.widths"], apart := false, laid := [("gurney/frame.widths", laid_gurney_frame_widths)], narrowed := true }
def FrameBackUptoSaid : Prop := frameBackUptoRow.holds Tryd.pinned (OpenSpec.upto frameBackSpec)

/-- 'gurneylaw03.FrameTurned', WHERE WHAT IT READS IS OF BULK AT MOST 1048576: true; the input reads as it did. -/
def frameTurnedUptoRow : OpenClaim := { program := "ytaieohnppeapfaadoor", sum := "e635cd2820b8d3b819babf56e9d9ef0d38586a218372a60287b7aadd533a2ba7", func := "gurney/gurneylaw03.FrameTurned", spec := "frameTurned", unfollowed := true, recurses := true, named := ["gurney/frame.widths"], apart := false, laid := [("gurney/frame.widths", laid_gurney_frame_widths)], narrowed := true }
def FrameTurnedUptoSaid : Prop := frameTurnedUptoRow.holds Tryd.pinned (OpenSpec.upto frameTurnedSpec)

/-- 'gurneylaw03.FrameHead', WHERE WHAT IT READS IS OF BULK AT MOST 1048576: true; the input reads as it did. -/
def frameHeadUptoRow : OpenClaim := { program := "ytaieohnppeapfaadoor", sum := "e635cd2820b8d3b819babf56e9d9ef0d38586a218372a60287b7aadd533a2ba7", func := "gurney/gurneylaw03.FrameHead", spec := "frameHead", unfollowed := true, recurses := true, named := ["gurney/frame.widths"], apart := false, laid := [("gurney/frame.widths", laid_gurney_frame_widths)], narrowed := true }
def FrameHeadUptoSaid : Prop := frameHeadUptoRow.holds Tryd.pinned (OpenSpec.upto frameHeadSpec)

/-- 'gurneylaw03.FrameHears', WHERE WHAT IT READS IS OF BULK AT MOST 1048576: true; the input reads as it did. -/
def frameHearsUptoRow : OpenClaim := { program := "ytaieohnppeapfaadoor", sum := "e635cd2820b8d3b819babf56e9d9ef0d38586a218372a60287b7aadd533a2ba7", func := "gurney/gurneylaw03.FrameHears", spec := "frameHears", unfollowed := true, recurses := true, named := ["gurney/frame.widths"], apart := false, laid := [("gurney/frame.widths", laid_gurney_frame_widths)], narrowed := true }
def FrameHearsUptoSaid : Prop := frameHearsUptoRow.holds Tryd.pinned (OpenSpec.upto frameHearsSpec)

end Rows
end Go.Proofs.YtaieohnppeapfaaDoor
