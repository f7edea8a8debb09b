/-
  NARROWER THAN 'FOR EVERY INPUT', by the rows' own cells (each row's printed sentence says how): RoamActs: laid · RoamOnce: laid · RoamHome: laid · RoamRefuses: laid · RoamMoves: laid · RoamForgets: laid.
  DERIVED. THE GIVEN ROWS OF THIS SEAT. 6 by the template 'for every input the law returns true; each argument reads behind the call as it read before'; 0 by the template 'total and deterministic' (their statements: YtohedeeajcdjcaaDoorTotals.lean).
  GIVEN WITH THE SEED: the statements are not yours to turn. If you find one false, say at which input.
  Laid BY PROGRAM, IN A SANDBOX (cutbox-rows.mjs): the forced cells as the released guide's own fill.sh prints them over the translation cb9c8d0ad5b24748… (all of the seat's roots in one cut). By AI agents, Wed Nov 11 2026. No macro, syntax, notation, axiom, sorry.
-/
import Derived.Test.YtohedeeajcdjcaaDoorChecked
import GoSem.Claim
import GoSem.ClaimJoined
import GoSem.ClaimMapViews
import Derived.JoinedTies
import Derived.KernelRfl
namespace Go.Proofs.YtohedeeajcdjcaaDoor
/- THE CELL 'sum', in the pinned program and in every row, IS THE sha256 OF THE DUMP (.gsa) THAT YtohedeeajcdjcaaDoorProg.lean LOADS. Nothing in Lean hashes anything: it is a label: what it is worth is what the hold of that sum in a sandbox is worth. -/
noncomputable def Tryd.pinned : Pinned := { name := "ytohedeeajcdjcaadoor", sum := "cb9c8d0ad5b24748101247775c06e3bbb4326fab617c72604fc95a169a0fcb56", checked := Tryd.checked }
namespace Rows
def none {H : Type} : Left H := { results := [], args := [] }

/- WHAT THE LISTED PACKAGE-LEVEL VARIABLES READ AS WHEN THE CALL BEGINS. Each datum BY PROGRAM (the guide's laid-datum.mjs) off the statement by which the dump's own 'gosem.cut.vars' lays the variable. In a bare row this is a premise. The card (YtohedeeajcdjcaaDoorCards.lean) ties it to the program's text. -/
def laid_gurney_frame_widths {H : Type} : DataW H := .agg [.lit (.int .i64 8), .lit (.int .i64 12), .lit (.int .i64 3), .lit (.int .i64 7), .lit (.int .i64 2), .lit (.int .i64 8)]

/-- 'gurneylaw09.RoamActs': WHATEVER THE INPUT: true; the input reads as it did. -/
def roamActsSpec : ChangeSpec := { name := "roamActs", fn := fun _ => fun
  | [d1, d2] => { results := [.lit (.bool true)], args := [d1, d2] }
  | _ => none }
def roamActsRow : OpenClaim := { program := "ytohedeeajcdjcaadoor", sum := "cb9c8d0ad5b24748101247775c06e3bbb4326fab617c72604fc95a169a0fcb56", func := "gurney/gurneylaw09.RoamActs", spec := "roamActs", unfollowed := true, recurses := true, named := ["gurney/frame.widths"], apart := false, laid := [("gurney/frame.widths", laid_gurney_frame_widths)] }
def RoamActsSaid : Prop := roamActsRow.holds Tryd.pinned (OpenSpec.ofChange roamActsSpec)

/-- ITS FALSE NEIGHBOUR: 'it returns false'. Refute it at one input. -/
def roamActsWrong : ChangeSpec := { name := "roamActs", fn := fun _ => fun
  | [d1, d2] => { results := [.lit (.bool false)], args := [d1, d2] }
  | _ => none }
def RoamActsWrongFalsely : Prop := roamActsRow.holds Tryd.pinned (OpenSpec.ofChange roamActsWrong)

/-- 'gurneylaw09.RoamOnce': WHATEVER THE INPUT: true; the input reads as it did. -/
def roamOnceSpec : ChangeSpec := { name := "roamOnce", fn := fun _ => fun
  | [d1, d2] => { results := [.lit (.bool true)], args := [d1, d2] }
  | _ => none }
def roamOnceRow : OpenClaim := { program := "ytohedeeajcdjcaadoor", sum := "cb9c8d0ad5b24748101247775c06e3bbb4326fab617c72604fc95a169a0fcb56", func := "gurney/gurneylaw09.RoamOnce", spec := "roamOnce", unfollowed := true, recurses := true, named := ["gurney/frame.widths"], apart := false, laid := [("gurney/frame.widths", laid_gurney_frame_widths)] }
def RoamOnceSaid : Prop := roamOnceRow.holds Tryd.pinned (OpenSpec.ofChange roamOnceSpec)

/-- ITS FALSE NEIGHBOUR: 'it returns false'. Refute it at one input. -/
def roamOnceWrong : ChangeSpec := { name := "roamOnce", fn := fun _ => fun
  | [d1, d2] => { results := [.lit (.bool false)], args := [d1, d2] }
  | _ => none }
def RoamOnceWrongFalsely : Prop := roamOnceRow.holds Tryd.pinned (OpenSpec.ofChange roamOnceWrong)

/-- 'gurneylaw09.RoamHome': WHATEVER THE INPUT: true; the input reads as it did. -/
def roamHomeSpec : ChangeSpec := { name := "roamHome", fn := fun _ => fun
  | [d1, d2, d3, d4, d5] => { results := [.lit (.bool true)], args := [d1, d2, d3, d4, d5] }
  | _ => none }
def roamHomeRow : OpenClaim := { program := "ytohedeeajcdjcaadoor", sum := "cb9c8d0ad5b24748101247775c06e3bbb4326fab617c72604fc95a169a0fcb56", func := "gurney/gurneylaw09.RoamHome", spec := "roamHome", unfollowed := true, recurses := true, named := ["gurney/frame.widths"], apart := false, laid := [("gurney/frame.widths", laid_gurney_frame_widths)] }
def RoamHomeSaid : Prop := roamHomeRow.holds Tryd.pinned (OpenSpec.ofChange roamHomeSpec)

/-- ITS FALSE NEIGHBOUR: 'it returns false'. Refute it at one input. -/
def roamHomeWrong : ChangeSpec := { name := "roamHome", fn := fun _ => fun
  | [d1, d2, d3, d4, d5] => { results := [.lit (.bool false)], args := [d1, d2, d3, d4, d5] }
  | _ => none }
def RoamHomeWrongFalsely : Prop := roamHomeRow.holds Tryd.pinned (OpenSpec.ofChange roamHomeWrong)

/-- 'gurneylaw09.RoamRefuses': WHATEVER THE INPUT: true; the input reads as it did. -/
def roamRefusesSpec : ChangeSpec := { name := "roamRefuses", fn := fun _ => fun
  | [d1, d2] => { results := [.lit (.bool true)], args := [d1, d2] }
  | _ => none }
def roamRefusesRow : OpenClaim := { program := "ytohedeeajcdjcaadoor", sum := "cb9c8d0ad5b24748101247775c06e3bbb4326fab617c72604fc95a169a0fcb56", func := "gurney/gurneylaw09.RoamRefuses", spec := "roamRefuses", unfollowed := true, recurses := true, named := ["gurney/frame.widths"], apart := false, laid := [("gurney/frame.widths", laid_gurney_frame_widths)] }
def RoamRefusesSaid : Prop := roamRefusesRow.holds Tryd.pinned (OpenSpec.ofChange roamRefusesSpec)

/-- ITS FALSE NEIGHBOUR: 'it returns false'. Refute it at one input. -/
def roamRefusesWrong : ChangeSpec := { name := "roamRefuses", fn := fun _ => fun
  | [d1, d2] => { results := [.lit (.bool false)], args := [d1, d2] }
  | _ => none }
def RoamRefusesWrongFalsely : Prop := roamRefusesRow.holds Tryd.pinned (OpenSpec.ofChange roamRefusesWrong)

/-- 'gurneylaw09.RoamMoves': WHATEVER THE INPUT: true; the input reads as it did. -/
def roamMovesSpec : ChangeSpec := { name := "roamMoves", fn := fun _ => fun
  | [d1, d2, d3, d4, d5] => { results := [.lit (.bool true)], args := [d1, d2, d3, d4, d5] }
  | _ => none }
def roamMovesRow : OpenClaim := { program := "ytohedeeajcdjcaadoor", sum := "cb9c8d0ad5b24748101247775c06e3bbb4326fab617c72604fc95a169a0fcb56", func := "gurney/gurneylaw09.RoamMoves", spec := "roamMoves", unfollowed := true, recurses := true, named := ["gurney/frame.widths"], apart := false, laid := [("gurney/frame.widths", laid_gurney_frame_widths)] }
def RoamMovesSaid : Prop := roamMovesRow.holds Tryd.pinned (OpenSpec.ofChange roamMovesSpec)

/-- ITS FALSE NEIGHBOUR: 'it returns false'. Refute it at one input. -/
def roamMovesWrong : ChangeSpec := { name := "roamMoves", fn := fun _ => fun
  | [d1, d2, d3, d4, d5] => { results := [.lit (.bool false)], args := [d1, d2, d3, d4, d5] }
  | _ => none }
def RoamMovesWrongFalsely : Prop := roamMovesRow.holds Tryd.pinned (OpenSpec.ofChange roamMovesWrong)

/-- 'gurneylaw09.RoamForgets': WHATEVER THE INPUT: true; the input reads as it did. -/
def roamForgetsSpec : ChangeSpec := { name := "roamForgets", fn := fun _ => fun
  | [d1, d2] => { results := [.lit (.bool true)], args := [d1, d2] }
  | _ => none }
def roamForgetsRow : OpenClaim := { program := "ytohedeeajcdjcaadoor", sum := "cb9c8d0ad5b24748101247775c06e3bbb4326fab617c72604fc95a169a0fcb56", func := "gurney/gurneylaw09.RoamForgets", spec := "roamForgets", unfollowed := true, recurses := true, named := ["gurney/frame.widths"], apart := false, laid := [("gurney/frame.widths", laid_gurney_frame_widths)] }
def RoamForgetsSaid : Prop := roamForgetsRow.holds Tryd.pinned (OpenSpec.ofChange roamForgetsSpec)

/-- ITS FALSE NEIGHBOUR: 'it returns false'. Refute it at one input. -/
def roamForgetsWrong : ChangeSpec := { name := "roamForgets", fn := fun _ => fun
  | [d1, d2] => { results := [.lit (.bool false)], args := [d1, d2] }
  | _ => none }
def RoamForgetsWrongFalsely : Prop := roamForgetsRow.holds Tryd.pinned (OpenSpec.ofChange roamForgetsWrong)

/- THE SECOND FORM. 'bulk': how many values and letters a reading holds, each counted each time it is reached (what is shared counts as often as it is met; a slice's spare places count too). A statement '..UptoSaid' is the law's where the arguments, and the package variables that the reading takes, are together of bulk at most 1048576: NARROWER than '..Said'. Prove '..Said' where nothing that the law and all that it calls make is longer than what came in: it says more and counts as full. Else prove '..UptoSaid'. A law counts once. -/
mutual
def uptoBulk {H : Type} : DataW H → Nat
  | .lit (.string bytes) => bytes.length + 1
  | .lit _ => 1
  | .nil => 1
  | .ptr d => uptoBulk d + 1
  | .slice elems spare => uptoBulkAll elems + uptoBulkAll spare + 1
  | .agg parts => uptoBulkAll parts + 1
  | .iface _ d => uptoBulk d + 1
  | .map entries => uptoBulkEntries entries + 1
  | .held _ => 1
def uptoBulkAll {H : Type} : List (DataW H) → Nat
  | [] => 0
  | d :: r => uptoBulk d + uptoBulkAll r
def uptoBulkEntries {H : Type} : List (Lit × DataW H) → Nat
  | [] => 0
  | x :: r => uptoBulkEntry x + uptoBulkEntries r
def uptoBulkEntry {H : Type} : Lit × DataW H → Nat
  | (.string bytes, d) => bytes.length + uptoBulk d + 1
  | (_, d) => uptoBulk d + 1
 end
def uptoSmall : (H : Type) → List (DataW H) → Bool := fun _ ds => decide (uptoBulkAll ds ≤ 1048576)
def OpenSpec.upto (s : _root_.Go.ChangeSpec) : _root_.Go.OpenSpec := { _root_.Go.OpenSpec.ofChange s with cond := some uptoSmall }

/-- 'gurneylaw09.RoamActs', WHERE WHAT IT READS IS OF BULK AT MOST 1048576: true; the input reads as it did. -/
def roamActsUptoRow : OpenClaim := { program := "ytohedeeajcdjcaadoor", sum := "cb9c8d0ad5b24748101247775c06e3bbb4326fab617c72604fc95a169a0fcb56", func := "gurney/gurneylaw09.RoamActs", spec := "roamActs", unfollowed := true, recurses := true, named := ["gurney/frame.widths"], apart := false, laid := [("gurney/frame.widths", laid_gurney_frame_widths)], narrowed := true }
def RoamActsUptoSaid : Prop := roamActsUptoRow.holds Tryd.pinned (OpenSpec.upto roamActsSpec)

/-- 'gurneylaw09.RoamOnce', WHERE WHAT IT READS IS OF BULK AT MOST 1048576: true; the input reads as it did. -/
def roamOnceUptoRow : OpenClaim := { program := "ytohedeeajcdjcaadoor", sum := "cb9c8d0ad5b24748101247775c06e3bbb4326fab617c72604fc95a169a0fcb56", func := "gurney/gurneylaw09.RoamOnce", spec := "roamOnce", unfollowed := true, recurses := true, named := ["gurney/frame.widths"], apart := false, laid := [("gurney/frame.widths", laid_gurney_frame_widths)], narrowed := true }
def RoamOnceUptoSaid : Prop := roamOnceUptoRow.holds Tryd.pinned (OpenSpec.upto roamOnceSpec)

/-- 'gurneylaw09.RoamHome', WHERE WHAT IT READS IS OF BULK AT MOST 1048576: true; the input reads as it did. -/
def roamHomeUptoRow : OpenClaim := { program := "ytohedeeajcdjcaadoor", sum := "cb9c8d0ad5b24748101247775c06e3bbb4326fab617c72604fc95a169a0fcb56", func := "gurney/gurneylaw09.RoamHome", spec := "roamHome", unfollowed := true, recurses := true, named := ["gurney/frame.widths"], apart := false, laid := [("gurney/frame.widths", laid_gurney_frame_widths)], narrowed := true }
def RoamHomeUptoSaid : Prop := roamHomeUptoRow.holds Tryd.pinned (OpenSpec.upto roamHomeSpec)

/-- 'gurneylaw09.RoamRefuses', WHERE WHAT IT READS IS OF BULK AT MOST 1048576: true; the input reads as it did. -/
def roamRefusesUptoRow : OpenClaim := { program := "ytohedeeajcdjcaadoor", sum := "cb9c8d0ad5b24748101247775c06e3bbb4326fab617c72604fc95a169a0fcb56", func := "gurney/gurneylaw09.RoamRefuses", spec := "roamRefuses", unfollowed := true, recurses := true, named := ["gurney/frame.widths"], apart := false, laid := [("gurney/frame.widths", laid_gurney_frame_widths)], narrowed := true }
def RoamRefusesUptoSaid : Prop := roamRefusesUptoRow.holds Tryd.pinned (OpenSpec.upto roamRefusesSpec)

/-- 'gurneylaw09.RoamMoves', WHERE WHAT IT READS IS OF BULK AT MOST 1048576: true; the input reads as it did. -/
def roamMovesUptoRow : OpenClaim := { program := "ytohedeeajcdjcaadoor", sum := "cb9c8d0ad5b24748101247775c06e3bbb4326fab617c72604fc95a169a0fcb56", func := "gurney/gurneylaw09.RoamMoves", spec := "roamMoves", unfollowed := true, recurses := true, named := ["gurney/frame.widths"], apart := false, laid := [("gurney/frame.widths", laid_gurney_frame_widths)], narrowed := true }
def RoamMovesUptoSaid : Prop := roamMovesUptoRow.holds Tryd.pinned (OpenSpec.upto roamMovesSpec)

/-- 'gurneylaw09.RoamForgets', WHERE WHAT IT READS IS OF BULK AT MOST 1048576: true; the input reads as it did. -/
def roamForgetsUptoRow : OpenClaim := { program := "ytohedeeajcdjcaadoor", sum := "cb9c8d0ad5b24748101247775c06e3bbb4326fab617c72604fc95a169a0fcb56", func := "gurney/gurneylaw09.RoamForgets", spec := "roamForgets", unfollowed := true, recurses := true, named := ["gurney/frame.widths"], apart := false, laid := [("gurney/frame.widths", laid_gurney_frame_widths)], narrowed := true }
def RoamForgetsUptoSaid : Prop := roamForgetsUptoRow.holds Tryd.pinned (OpenSpec.upto roamForgetsSpec)

end Rows
end Go.Proofs.YtohedeeajcdjcaaDoor
