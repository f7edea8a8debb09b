/-
  NARROWER THAN 'FOR EVERY INPUT', by the rows' own cells (each row's printed sentence says how): DeviceActs: laid · DeviceFrames: laid · DeviceOrder: laid · DeviceKeeps: laid · DeviceGreets: laid · DeviceAnew: laid.
  DERIVED. THE GIVEN ROWS OF THIS SEAT. 6 by the template 'for every input the law returns true; each argument reads behind the call as it read before'; 0 by the template 'total and deterministic' (their statements: YthhggjakenalpaaGreatDoorTotals.lean).
  GIVEN WITH THE SEED: the statements are not yours to turn. If you find one false, say at which input.
  Laid BY PROGRAM, IN A SANDBOX (cutbox-rows.mjs): the forced cells as the released guide's own fill.sh prints them over the translation 5bc2a6ffbd19f1b6… (all of the seat's roots in one cut). By AI agents, Wed Nov 11 2026. No macro, syntax, notation, axiom, sorry.
-/
import Derived.Test.YthhggjakenalpaaGreatDoorChecked
import GoSem.Claim
import GoSem.ClaimJoined
import GoSem.ClaimMapViews
import Derived.JoinedTies
import Derived.KernelRfl
namespace Go.Proofs.YthhggjakenalpaaGreatDoor
/- THE CELL 'sum', in the pinned program and in every row, IS THE sha256 OF THE DUMP (.gsa) THAT YthhggjakenalpaaGreatDoorProg.lean LOADS. Nothing in Lean hashes anything: it is a label: what it is worth is what the hold of that sum in a sandbox is worth. -/
noncomputable def Tryz.pinned : Pinned := { name := "ythhggjakenalpaagreatdoor", sum := "5bc2a6ffbd19f1b6c91055ce2a434a43dcfd1f0d224634f36824eb22d678da24", checked := Tryz.checked }
namespace Rows
def none {H : Type} : Left H := { results := [], args := [] }

/- WHAT THE LISTED PACKAGE-LEVEL VARIABLES READ AS WHEN THE CALL BEGINS. Each datum BY PROGRAM (the guide's laid-datum.mjs) off the statement by which the dump's own 'gosem.cut.vars' lays the variable. In a bare row this is a premise. The card (YthhggjakenalpaaGreatDoorCards.lean) ties it to the program's text. -/
def laid_gurney_record_widths {H : Type} : DataW H := .agg [.lit (.int .i64 3), .lit (.int .i64 8), .lit (.int .i64 10), .lit (.int .i64 3)]
def laid_gurney_frame_widths {H : Type} : DataW H := .agg [.lit (.int .i64 8), .lit (.int .i64 12), .lit (.int .i64 3), .lit (.int .i64 7), .lit (.int .i64 2), .lit (.int .i64 8)]

/-- 'gurneylaw18.DeviceActs': WHATEVER THE INPUT: true; the input reads as it did. -/
def deviceActsSpec : ChangeSpec := { name := "deviceActs", fn := fun _ => fun
  | [d1, d2, d3] => { results := [.lit (.bool true)], args := [d1, d2, d3] }
  | _ => none }
def deviceActsRow : OpenClaim := { program := "ythhggjakenalpaagreatdoor", sum := "5bc2a6ffbd19f1b6c91055ce2a434a43dcfd1f0d224634f36824eb22d678da24", func := "gurney/gurneylaw18.DeviceActs", spec := "deviceActs", unfollowed := true, recurses := true, named := ["gurney/frame.widths", "gurney/record.widths"], plainKeys := false, apart := false, laid := [("gurney/record.widths", laid_gurney_record_widths), ("gurney/frame.widths", laid_gurney_frame_widths)] }
def DeviceActsSaid : Prop := deviceActsRow.holds Tryz.pinned (OpenSpec.ofChange deviceActsSpec)

/-- ITS FALSE NEIGHBOUR: 'it returns false'. Refute it at one input. -/
def deviceActsWrong : ChangeSpec := { name := "deviceActs", fn := fun _ => fun
  | [d1, d2, d3] => { results := [.lit (.bool false)], args := [d1, d2, d3] }
  | _ => none }
def DeviceActsWrongFalsely : Prop := deviceActsRow.holds Tryz.pinned (OpenSpec.ofChange deviceActsWrong)

/-- 'gurneylaw18.DeviceFrames': WHATEVER THE INPUT: true; the input reads as it did. -/
def deviceFramesSpec : ChangeSpec := { name := "deviceFrames", fn := fun _ => fun
  | [d1, d2, d3] => { results := [.lit (.bool true)], args := [d1, d2, d3] }
  | _ => none }
def deviceFramesRow : OpenClaim := { program := "ythhggjakenalpaagreatdoor", sum := "5bc2a6ffbd19f1b6c91055ce2a434a43dcfd1f0d224634f36824eb22d678da24", func := "gurney/gurneylaw18.DeviceFrames", spec := "deviceFrames", unfollowed := true, recurses := true, named := ["gurney/frame.widths", "gurney/record.widths"], plainKeys := false, apart := false, laid := [("gurney/record.widths", laid_gurney_record_widths), ("gurney/frame.widths", laid_gurney_frame_widths)] }
def DeviceFramesSaid : Prop := deviceFramesRow.holds Tryz.pinned (OpenSpec.ofChange deviceFramesSpec)

/-- ITS FALSE NEIGHBOUR: 'it returns false'. Refute it at one input. -/
def deviceFramesWrong : ChangeSpec := { name := "deviceFrames", fn := fun _ => fun
  | [d1, d2, d3] => { results := [.lit (.bool false)], args := [d1, d2, d3] }
  | _ => none }
def DeviceFramesWrongFalsely : Prop := deviceFramesRow.holds Tryz.pinned (OpenSpec.ofChange deviceFramesWrong)

/-- 'gurneylaw18.DeviceOrder': WHATEVER THE INPUT: true; the input reads as it did. -/
def deviceOrderSpec : ChangeSpec := { name := "deviceOrder", fn := fun _ => fun
  | [d1, d2, d3] => { results := [.lit (.bool true)], args := [d1, d2, d3] }
  | _ => none }
def deviceOrderRow : OpenClaim := { program := "ythhggjakenalpaagreatdoor", sum := "5bc2a6ffbd19f1b6c91055ce2a434a43dcfd1f0d224634f36824eb22d678da24", func := "gurney/gurneylaw18.DeviceOrder", spec := "deviceOrder", unfollowed := true, recurses := true, named := ["gurney/frame.widths", "gurney/record.widths"], plainKeys := false, apart := false, laid := [("gurney/record.widths", laid_gurney_record_widths), ("gurney/frame.widths", laid_gurney_frame_widths)] }
def DeviceOrderSaid : Prop := deviceOrderRow.holds Tryz.pinned (OpenSpec.ofChange deviceOrderSpec)

/-- ITS FALSE NEIGHBOUR: 'it returns false'. Refute it at one input. -/
def deviceOrderWrong : ChangeSpec := { name := "deviceOrder", fn := fun _ => fun
  | [d1, d2, d3] => { results := [.lit (.bool false)], args := [d1, d2, d3] }
  | _ => none }
def DeviceOrderWrongFalsely : Prop := deviceOrderRow.holds Tryz.pinned (OpenSpec.ofChange deviceOrderWrong)

/-- 'gurneylaw18.DeviceKeeps': WHATEVER THE INPUT: true; the input reads as it did. -/
def deviceKeepsSpec : ChangeSpec := { name := "deviceKeeps", fn := fun _ => fun
  | [d1, d2, d3] => { results := [.lit (.bool true)], args := [d1, d2, d3] }
  | _ => none }
def deviceKeepsRow : OpenClaim := { program := "ythhggjakenalpaagreatdoor", sum := "5bc2a6ffbd19f1b6c91055ce2a434a43dcfd1f0d224634f36824eb22d678da24", func := "gurney/gurneylaw18.DeviceKeeps", spec := "deviceKeeps", unfollowed := true, recurses := true, named := ["gurney/frame.widths", "gurney/record.widths"], plainKeys := false, apart := false, laid := [("gurney/record.widths", laid_gurney_record_widths), ("gurney/frame.widths", laid_gurney_frame_widths)] }
def DeviceKeepsSaid : Prop := deviceKeepsRow.holds Tryz.pinned (OpenSpec.ofChange deviceKeepsSpec)

/-- ITS FALSE NEIGHBOUR: 'it returns false'. Refute it at one input. -/
def deviceKeepsWrong : ChangeSpec := { name := "deviceKeeps", fn := fun _ => fun
  | [d1, d2, d3] => { results := [.lit (.bool false)], args := [d1, d2, d3] }
  | _ => none }
def DeviceKeepsWrongFalsely : Prop := deviceKeepsRow.holds Tryz.pinned (OpenSpec.ofChange deviceKeepsWrong)

/-- 'gurneylaw18.DeviceGreets': WHATEVER THE INPUT: true; the input reads as it did. -/
def deviceGreetsSpec : ChangeSpec := { name := "deviceGreets", fn := fun _ => fun
  | [d1, d2, d3] => { results := [.lit (.bool true)], args := [d1, d2, d3] }
  | _ => none }
def deviceGreetsRow : OpenClaim := { program := "ythhggjakenalpaagreatdoor", sum := "5bc2a6ffbd19f1b6c91055ce2a434a43dcfd1f0d224634f36824eb22d678da24", func := "gurney/gurneylaw18.DeviceGreets", spec := "deviceGreets", unfollowed := true, recurses := true, named := ["gurney/frame.widths", "gurney/record.widths"], plainKeys := false, apart := false, laid := [("gurney/record.widths", laid_gurney_record_widths), ("gurney/frame.widths", laid_gurney_frame_widths)] }
def DeviceGreetsSaid : Prop := deviceGreetsRow.holds Tryz.pinned (OpenSpec.ofChange deviceGreetsSpec)

/-- ITS FALSE NEIGHBOUR: 'it returns false'. Refute it at one input. -/
def deviceGreetsWrong : ChangeSpec := { name := "deviceGreets", fn := fun _ => fun
  | [d1, d2, d3] => { results := [.lit (.bool false)], args := [d1, d2, d3] }
  | _ => none }
def DeviceGreetsWrongFalsely : Prop := deviceGreetsRow.holds Tryz.pinned (OpenSpec.ofChange deviceGreetsWrong)

/-- 'gurneylaw18.DeviceAnew': WHATEVER THE INPUT: true; the input reads as it did. -/
def deviceAnewSpec : ChangeSpec := { name := "deviceAnew", fn := fun _ => fun
  | [d1, d2, d3] => { results := [.lit (.bool true)], args := [d1, d2, d3] }
  | _ => none }
def deviceAnewRow : OpenClaim := { program := "ythhggjakenalpaagreatdoor", sum := "5bc2a6ffbd19f1b6c91055ce2a434a43dcfd1f0d224634f36824eb22d678da24", func := "gurney/gurneylaw18.DeviceAnew", spec := "deviceAnew", unfollowed := true, recurses := true, named := ["gurney/frame.widths", "gurney/record.widths"], plainKeys := false, apart := false, laid := [("gurney/record.widths", laid_gurney_record_widths), ("gurney/frame.widths", laid_gurney_frame_widths)] }
def DeviceAnewSaid : Prop := deviceAnewRow.holds Tryz.pinned (OpenSpec.ofChange deviceAnewSpec)

/-- ITS FALSE NEIGHBOUR: 'it returns false'. Refute it at one input. -/
def deviceAnewWrong : ChangeSpec := { name := "deviceAnew", fn := fun _ => fun
  | [d1, d2, d3] => { results := [.lit (.bool false)], args := [d1, d2, d3] }
  | _ => none }
def DeviceAnewWrongFalsely : Prop := deviceAnewRow.holds Tryz.pinned (OpenSpec.ofChange deviceAnewWrong)

/- THE SECOND FORM. 'bulk': how many values and letters a reading holds, each counted each time it is reached (what is shared counts as often as it is met; a slice's spare places count too). A statement '..UptoSaid' is the law's where the arguments, and the package variables that the reading takes, are together of bulk at most 1048576: NARROWER than '..Said'. Prove '..Said' where nothing that the law and all that it calls make is longer than what came in: it says more and counts as full. Else prove '..UptoSaid'. A law counts once. -/
mutual
def uptoBulk {H : Type} : DataW H → Nat
  | .lit (.string bytes) => bytes.length + 1
  | .lit _ => 1
  | .nil => 1
  | .ptr d => uptoBulk d + 1
  | .slice elems spare => uptoBulkAll elems + uptoBulkAll spare + 1
  | .agg parts => uptoBulkAll parts + 1
  | .iface _ d => uptoBulk d + 1
  | .map entries => uptoBulkEntries entries + 1
  | .held _ => 1
def uptoBulkAll {H : Type} : List (DataW H) → Nat
  | [] => 0
  | d :: r => uptoBulk d + uptoBulkAll r
def uptoBulkEntries {H : Type} : List (Lit × DataW H) → Nat
  | [] => 0
  | x :: r => uptoBulkEntry x + uptoBulkEntries r
def uptoBulkEntry {H : Type} : Lit × DataW H → Nat
  | (.string bytes, d) => bytes.length + uptoBulk d + 1
  | (_, d) => uptoBulk d + 1
 end
def uptoSmall : (H : Type) → List (DataW H) → Bool := fun _ ds => decide (uptoBulkAll ds ≤ 1048576)
def OpenSpec.upto (s : _root_.Go.ChangeSpec) : _root_.Go.OpenSpec := { _root_.Go.OpenSpec.ofChange s with cond := some uptoSmall }

/-- 'gurneylaw18.DeviceActs', WHERE WHAT IT READS IS OF BULK AT MOST 1048576: true; the input reads as it did. -/
def deviceActsUptoRow : OpenClaim := { program := "ythhggjakenalpaagreatdoor", sum := "5bc2a6ffbd19f1b6c91055ce2a434a43dcfd1f0d224634f36824eb22d678da24", func := "gurney/gurneylaw18.DeviceActs", spec := "deviceActs", unfollowed := true, recurses := true, named := ["gurney/frame.widths", "gurney/record.widths"], plainKeys := false, apart := false, laid := [("gurney/record.widths", laid_gurney_record_widths), ("gurney/frame.widths", laid_gurney_frame_widths)], narrowed := true }
def DeviceActsUptoSaid : Prop := deviceActsUptoRow.holds Tryz.pinned (OpenSpec.upto deviceActsSpec)

/-- 'gurneylaw18.DeviceFrames', WHERE WHAT IT READS IS OF BULK AT MOST 1048576: true; the input reads as it did. -/
def deviceFramesUptoRow : OpenClaim := { program := "ythhggjakenalpaagreatdoor", sum := "5bc2a6ffbd19f1b6c91055ce2a434a43dcfd1f0d224634f36824eb22d678da24", func := "gurney/gurneylaw18.DeviceFrames", spec := "deviceFrames", unfollowed := true, recurses := true, named := ["gurney/frame.widths", "gurney/record.widths"], plainKeys := false, apart := false, laid := [("gurney/record.widths", laid_gurney_record_widths), ("gurney/frame.widths", laid_gurney_frame_widths)], narrowed := true }
def DeviceFramesUptoSaid : Prop := deviceFramesUptoRow.holds Tryz.pinned (OpenSpec.upto deviceFramesSpec)

/-- 'gurneylaw18.DeviceOrder', WHERE WHAT IT READS IS OF BULK AT MOST 1048576: true; the input reads as it did. -/
def deviceOrderUptoRow : OpenClaim := { program := "ythhggjakenalpaagreatdoor", sum := "5bc2a6ffbd19f1b6c91055ce2a434a43dcfd1f0d224634f36824eb22d678da24", func := "gurney/gurneylaw18.DeviceOrder", spec := "deviceOrder", unfollowed := true, recurses := true, named := ["gurney/frame.widths", "gurney/record.widths"], plainKeys := false, apart := false, laid := [("gurney/record.widths", laid_gurney_record_widths), ("gurney/frame.widths", laid_gurney_frame_widths)], narrowed := true }
def DeviceOrderUptoSaid : Prop := deviceOrderUptoRow.holds Tryz.pinned (OpenSpec.upto deviceOrderSpec)

/-- 'gurneylaw18.DeviceKeeps', WHERE WHAT IT READS IS OF BULK AT MOST 1048576: true; the input reads as it did. -/
def deviceKeepsUptoRow : OpenClaim := { program := "ythhggjakenalpaagreatdoor", sum := "5bc2a6ffbd19f1b6c91055ce2a434a43dcfd1f0d224634f36824eb22d678da24", func := "gurney/gurneylaw18.DeviceKeeps", spec := "deviceKeeps", unfollowed := true, recurses := true, named := ["gurney/frame.widths", "gurney/record.widths"], plainKeys := false, apart := false, laid := [("gurney/record.widths", laid_gurney_record_widths), ("gurney/frame.widths", laid_gurney_frame_widths)], narrowed := true }
def DeviceKeepsUptoSaid : Prop := deviceKeepsUptoRow.holds Tryz.pinned (OpenSpec.upto deviceKeepsSpec)

/-- 'gurneylaw18.DeviceGreets', WHERE WHAT IT READS IS OF BULK AT MOST 1048576: true; the input reads as it did. -/
def deviceGreetsUptoRow : OpenClaim := { program := "ythhggjakenalpaagreatdoor", sum := "5bc2a6ffbd19f1b6c91055ce2a434a43dcfd1f0d224634f36824eb22d678da24", func := "gurney/gurneylaw18.DeviceGreets", spec := "deviceGreets", unfollowed := true, recurses := true, named := ["gurney/frame.widths", "gurney/record.widths"], plainKeys := false, apart := false, laid := [("gurney/record.widths", laid_gurney_record_widths), ("gurney/frame.widths", laid_gurney_frame_widths)], narrowed := true }
def DeviceGreetsUptoSaid : Prop := deviceGreetsUptoRow.holds Tryz.pinned (OpenSpec.upto deviceGreetsSpec)

/-- 'gurneylaw18.DeviceAnew', WHERE WHAT IT READS IS OF BULK AT MOST 1048576: true; the input reads as it did. -/
def deviceAnewUptoRow : OpenClaim := { program := "ythhggjakenalpaagreatdoor", sum := "5bc2a6ffbd19f1b6c91055ce2a434a43dcfd1f0d224634f36824eb22d678da24", func := "gurney/gurneylaw18.DeviceAnew", spec := "deviceAnew", unfollowed := true, recurses := true, named := ["gurney/frame.widths", "gurney/record.widths"], plainKeys := false, apart := false, laid := [("gurney/record.widths", laid_gurney_record_widths), ("gurney/frame.widths", laid_gurney_frame_widths)], narrowed := true }
def DeviceAnewUptoSaid : Prop := deviceAnewUptoRow.holds Tryz.pinned (OpenSpec.upto deviceAnewSpec)

end Rows
end Go.Proofs.YthhggjakenalpaaGreatDoor
