/-
  NARROWER THAN 'FOR EVERY INPUT', by the rows' own cells (each row's printed sentence says how): SenderActs: laid · SenderRight: laid · SenderTries: laid · SenderRoom: laid · SenderDeaf: laid · SenderThere: laid.
  DERIVED. THE GIVEN ROWS OF THIS SEAT. 6 by the template 'for every input the law returns true; each argument reads behind the call as it read before'; 0 by the template 'total and deterministic' (their statements: YteacdckfnmjojaaDoorTotals.lean).
  GIVEN WITH THE SEED: the statements are not yours to turn. If you find one false, say at which input.
  Laid BY PROGRAM, IN A SANDBOX (cutbox-rows.mjs): the forced cells as the released guide's own fill.sh prints them over the translation e9de7b7df3e2997a… (all of the seat's roots in one cut). By AI agents, Wed Nov 11 2026. No macro, syntax, notation, axiom, sorry.
-/
import Derived.Test.YteacdckfnmjojaaDoorChecked
import GoSem.Claim
import GoSem.ClaimJoined
import GoSem.ClaimMapViews
import Derived.JoinedTies
import Derived.KernelRfl
namespace Go.Proofs.YteacdckfnmjojaaDoor
/- THE CELL 'sum', in the pinned program and in every row, IS THE sha256 OF THE DUMP (.gsa) THAT YteacdckfnmjojaaDoorProg.lean LOADS. Nothing in Lean hashes anything: it is a label: what it is worth is what the hold of that sum in a sandbox is worth. -/
noncomputable def Tryd.pinned : Pinned := { name := "yteacdckfnmjojaadoor", sum := "e9de7b7df3e2997a6e63ecbc6980964ff873a6a4fc13dceef07e0556db430f60", checked := Tryd.checked }
namespace Rows
def none {H : Type} : Left H := { results := [], args := [] }

/- WHAT THE LISTED PACKAGE-LEVEL VARIABLES READ AS WHEN THE CALL BEGINS. Each datum BY PROGRAM (the guide's laid-datum.mjs) off the statement by which the dump's own 'gosem.cut.vars' lays the variable. In a bare row this is a premise. The card (YteacdckfnmjojaaDoorCards.lean) ties it to the program's text. -/
def laid_gurney_frame_widths {H : Type} : DataW H := .agg [.lit (.int .i64 8), .lit (.int .i64 12), .lit (.int .i64 3), .lit (.int .i64 7), .lit (.int .i64 2), .lit (.int .i64 8)]

/-- 'gurneylaw08.SenderActs': WHATEVER THE INPUT: true; the input reads as it did. -/
def senderActsSpec : ChangeSpec := { name := "senderActs", fn := fun _ => fun
  | [d1, d2, d3] => { results := [.lit (.bool true)], args := [d1, d2, d3] }
  | _ => none }
def senderActsRow : OpenClaim := { program := "yteacdckfnmjojaadoor", sum := "e9de7b7df3e2997a6e63ecbc6980964ff873a6a4fc13dceef07e0556db430f60", func := "gurney/gurneylaw08.SenderActs", spec := "senderActs", unfollowed := true, recurses := true, named := ["gurney/frame.widths"], apart := false, laid := [("gurney/frame.widths", laid_gurney_frame_widths)] }
def SenderActsSaid : Prop := senderActsRow.holds Tryd.pinned (OpenSpec.ofChange senderActsSpec)

/-- ITS FALSE NEIGHBOUR: 'it returns false'. Refute it at one input. -/
def senderActsWrong : ChangeSpec := { name := "senderActs", fn := fun _ => fun
  | [d1, d2, d3] => { results := [.lit (.bool false)], args := [d1, d2, d3] }
  | _ => none }
def SenderActsWrongFalsely : Prop := senderActsRow.holds Tryd.pinned (OpenSpec.ofChange senderActsWrong)

/-- 'gurneylaw08.SenderRight': WHATEVER THE INPUT: true; the input reads as it did. -/
def senderRightSpec : ChangeSpec := { name := "senderRight", fn := fun _ => fun
  | [d1, d2, d3] => { results := [.lit (.bool true)], args := [d1, d2, d3] }
  | _ => none }
def senderRightRow : OpenClaim := { program := "yteacdckfnmjojaadoor", sum := "e9de7b7df3e2997a6e63ecbc6980964ff873a6a4fc13dceef07e0556db430f60", func := "gurney/gurneylaw08.SenderRight", spec := "senderRight", unfollowed := true, recurses := true, named := ["gurney/frame.widths"], apart := false, laid := [("gurney/frame.widths", laid_gurney_frame_widths)] }
def SenderRightSaid : Prop := senderRightRow.holds Tryd.pinned (OpenSpec.ofChange senderRightSpec)

/-- ITS FALSE NEIGHBOUR: 'it returns false'. Refute it at one input. -/
def senderRightWrong : ChangeSpec := { name := "senderRight", fn := fun _ => fun
  | [d1, d2, d3] => { results := [.lit (.bool false)], args := [d1, d2, d3] }
  | _ => none }
def SenderRightWrongFalsely : Prop := senderRightRow.holds Tryd.pinned (OpenSpec.ofChange senderRightWrong)

/-- 'gurneylaw08.SenderTries': WHATEVER THE INPUT: true; the input reads as it did. -/
def senderTriesSpec : ChangeSpec := { name := "senderTries", fn := fun _ => fun
  | [d1, d2, d3] => { results := [.lit (.bool true)], args := [d1, d2, d3] }
  | _ => none }
def senderTriesRow : OpenClaim := { program := "yteacdckfnmjojaadoor", sum := "e9de7b7df3e2997a6e63ecbc6980964ff873a6a4fc13dceef07e0556db430f60", func := "gurney/gurneylaw08.SenderTries", spec := "senderTries", unfollowed := true, recurses := true, named := ["gurney/frame.widths"], apart := false, laid := [("gurney/frame.widths", laid_gurney_frame_widths)] }
def SenderTriesSaid : Prop := senderTriesRow.holds Tryd.pinned (OpenSpec.ofChange senderTriesSpec)

/-- ITS FALSE NEIGHBOUR: 'it returns false'. Refute it at one input. -/
def senderTriesWrong : ChangeSpec := { name := "senderTries", fn := fun _ => fun
  | [d1, d2, d3] => { results := [.lit (.bool false)], args := [d1, d2, d3] }
  | _ => none }
def SenderTriesWrongFalsely : Prop := senderTriesRow.holds Tryd.pinned (OpenSpec.ofChange senderTriesWrong)

/-- 'gurneylaw08.SenderRoom': WHATEVER THE INPUT: true; the input reads as it did. -/
def senderRoomSpec : ChangeSpec := { name := "senderRoom", fn := fun _ => fun
  | [d1, d2, d3] => { results := [.lit (.bool true)], args := [d1, d2, d3] }
  | _ => none }
def senderRoomRow : OpenClaim := { program := "yteacdckfnmjojaadoor", sum := "e9de7b7df3e2997a6e63ecbc6980964ff873a6a4fc13dceef07e0556db430f60", func := "gurney/gurneylaw08.SenderRoom", spec := "senderRoom", unfollowed := true, recurses := true, named := ["gurney/frame.widths"], apart := false, laid := [("gurney/frame.widths", laid_gurney_frame_widths)] }
def SenderRoomSaid : Prop := senderRoomRow.holds Tryd.pinned (OpenSpec.ofChange senderRoomSpec)

/-- ITS FALSE NEIGHBOUR: 'it returns false'. Refute it at one input. -/
def senderRoomWrong : ChangeSpec := { name := "senderRoom", fn := fun _ => fun
  | [d1, d2, d3] => { results := [.lit (.bool false)], args := [d1, d2, d3] }
  | _ => none }
def SenderRoomWrongFalsely : Prop := senderRoomRow.holds Tryd.pinned (OpenSpec.ofChange senderRoomWrong)

/-- 'gurneylaw08.SenderDeaf': WHATEVER THE INPUT: true; the input reads as it did. -/
def senderDeafSpec : ChangeSpec := { name := "senderDeaf", fn := fun _ => fun
  | [d1, d2, d3] => { results := [.lit (.bool true)], args := [d1, d2, d3] }
  | _ => none }
def senderDeafRow : OpenClaim := { program := "yteacdckfnmjojaadoor", sum := "e9de7b7df3e2997a6e63ecbc6980964ff873a6a4fc13dceef07e0556db430f60", func := "gurney/gurneylaw08.SenderDeaf", spec := "senderDeaf", unfollowed := true, recurses := true, named := ["gurney/frame.widths"], apart := false, laid := [("gurney/frame.widths", laid_gurney_frame_widths)] }
def SenderDeafSaid : Prop := senderDeafRow.holds Tryd.pinned (OpenSpec.ofChange senderDeafSpec)

/-- ITS FALSE NEIGHBOUR: 'it returns false'. Refute it at one input. -/
def senderDeafWrong : ChangeSpec := { name := "senderDeaf", fn := fun _ => fun
  | [d1, d2, d3] => { results := [.lit (.bool false)], args := [d1, d2, d3] }
  | _ => none }
def SenderDeafWrongFalsely : Prop := senderDeafRow.holds Tryd.pinned (OpenSpec.ofChange senderDeafWrong)

/-- 'gurneylaw08.SenderThere': WHATEVER THE INPUT: true; the input reads as it did. -/
def senderThereSpec : ChangeSpec := { name := "senderThere", fn := fun _ => fun
  | [d1, d2, d3] => { results := [.lit (.bool true)], args := [d1, d2, d3] }
  | _ => none }
def senderThereRow : OpenClaim := { program := "yteacdckfnmjojaadoor", sum := "e9de7b7df3e2997a6e63ecbc6980964ff873a6a4fc13dceef07e0556db430f60", func := "gurney/gurneylaw08.SenderThere", spec := "senderThere", unfollowed := true, recurses := true, named := ["gurney/frame.widths"], apart := false, laid := [("gurney/frame.widths", laid_gurney_frame_widths)] }
def SenderThereSaid : Prop := senderThereRow.holds Tryd.pinned (OpenSpec.ofChange senderThereSpec)

/-- ITS FALSE NEIGHBOUR: 'it returns false'. Refute it at one input. -/
def senderThereWrong : ChangeSpec := { name := "senderThere", fn := fun _ => fun
  | [d1, d2, d3] => { results := [.lit (.bool false)], args := [d1, d2, d3] }
  | _ => none }
def SenderThereWrongFalsely : Prop := senderThereRow.holds Tryd.pinned (OpenSpec.ofChange senderThereWrong)

/- THE SECOND FORM. 'bulk': how many values and letters a reading holds, each counted each time it is reached (what is shared counts as often as it is met; a slice's spare places count too). A statement '..UptoSaid' is the law's where the arguments, and the package variables that the reading takes, are together of bulk at most 1048576: NARROWER than '..Said'. Prove '..Said' where nothing that the law and all that it calls make is longer than what came in: it says more and counts as full. Else prove '..UptoSaid'. A law counts once. -/
mutual
def uptoBulk {H : Type} : DataW H → Nat
  | .lit (.string bytes) => bytes.length + 1
  | .lit _ => 1
  | .nil => 1
  | .ptr d => uptoBulk d + 1
  | .slice elems spare => uptoBulkAll elems + uptoBulkAll spare + 1
  | .agg parts => uptoBulkAll parts + 1
  | .iface _ d => uptoBulk d + 1
  | .map entries => uptoBulkEntries entries + 1
  | .held _ => 1
def uptoBulkAll {H : Type} : List (DataW H) → Nat
  | [] => 0
  | d :: r => uptoBulk d + uptoBulkAll r
def uptoBulkEntries {H : Type} : List (Lit × DataW H) → Nat
  | [] => 0
  | x :: r => uptoBulkEntry x + uptoBulkEntries r
def uptoBulkEntry {H : Type} : Lit × DataW H → Nat
  | (.string bytes, d) => bytes.length + uptoBulk d + 1
  | (_, d) => uptoBulk d + 1
 end
def uptoSmall : (H : Type) → List (DataW H) → Bool := fun _ ds => decide (uptoBulkAll ds ≤ 1048576)
def OpenSpec.upto (s : _root_.Go.ChangeSpec) : _root_.Go.OpenSpec := { _root_.Go.OpenSpec.ofChange s with cond := some uptoSmall }

/-- 'gurneylaw08.SenderActs', WHERE WHAT IT READS IS OF BULK AT MOST 1048576: true; the input reads as it did. -/
def senderActsUptoRow : OpenClaim := { program := "yteacdckfnmjojaadoor", sum := "e9de7b7df3e2997a6e63ecbc6980964ff873a6a4fc13dceef07e0556db430f60", func := "gurney/gurneylaw08.SenderActs", spec := "senderActs", unfollowed := true, recurses := true, named := ["gurney/frame.widths"], apart := false, laid := [("gurney/frame.widths", laid_gurney_frame_widths)], narrowed := true }
def SenderActsUptoSaid : Prop := senderActsUptoRow.holds Tryd.pinned (OpenSpec.upto senderActsSpec)

/-- 'gurneylaw08.SenderRight', WHERE WHAT IT READS IS OF BULK AT MOST 1048576: true; the input reads as it did. -/
def senderRightUptoRow : OpenClaim := { program := "yteacdckfnmjojaadoor", sum := "e9de7b7df3e2997a6e63ecbc6980964ff873a6a4fc13dceef07e0556db430f60", func := "gurney/gurneylaw08.SenderRight", spec := "senderRight", unfollowed := true, recurses := true, named := ["gurney/frame.widths"], apart := false, laid := [("gurney/frame.widths", laid_gurney_frame_widths)], narrowed := true }
def SenderRightUptoSaid : Prop := senderRightUptoRow.holds Tryd.pinned (OpenSpec.upto senderRightSpec)

/-- 'gurneylaw08.SenderTries', WHERE WHAT IT READS IS OF BULK AT MOST 1048576: true; the input reads as it did. -/
def senderTriesUptoRow : OpenClaim := { program := "yteacdckfnmjojaadoor", sum := "e9de7b7df3e2997a6e63ecbc6980964ff873a6a4fc13dceef07e0556db430f60", func := "gurney/gurneylaw08.SenderTries", spec := "senderTries", unfollowed := true, recurses := true, named := ["gurney/frame.widths"], apart := false, laid := [("gurney/frame.widths", laid_gurney_frame_widths)], narrowed := true }
def SenderTriesUptoSaid : Prop := senderTriesUptoRow.holds Tryd.pinned (OpenSpec.upto senderTriesSpec)

/-- 'gurneylaw08.SenderRoom', WHERE WHAT IT READS IS OF BULK AT MOST 1048576: true; the input reads as it did. -/
def senderRoomUptoRow : OpenClaim := { program := "yteacdckfnmjojaadoor", sum := "e9de7b7df3e2997a6e63ecbc6980964ff873a6a4fc13dceef07e0556db430f60", func := "gurney/gurneylaw08.SenderRoom", spec := "senderRoom", unfollowed := true, recurses := true, named := ["gurney/frame.widths"], apart := false, laid := [("gurney/frame.widths", laid_gurney_frame_widths)], narrowed := true }
def SenderRoomUptoSaid : Prop := senderRoomUptoRow.holds Tryd.pinned (OpenSpec.upto senderRoomSpec)

/-- 'gurneylaw08.SenderDeaf', WHERE WHAT IT READS IS OF BULK AT MOST 1048576: true; the input reads as it did. -/
def senderDeafUptoRow : OpenClaim := { program := "yteacdckfnmjojaadoor", sum := "e9de7b7df3e2997a6e63ecbc6980964ff873a6a4fc13dceef07e0556db430f60", func := "gurney/gurneylaw08.SenderDeaf", spec := "senderDeaf", unfollowed := true, recurses := true, named := ["gurney/frame.widths"], apart := false, laid := [("gurney/frame.widths", laid_gurney_frame_widths)], narrowed := true }
def SenderDeafUptoSaid : Prop := senderDeafUptoRow.holds Tryd.pinned (OpenSpec.upto senderDeafSpec)

/-- 'gurneylaw08.SenderThere', WHERE WHAT IT READS IS OF BULK AT MOST 1048576: true; the input reads as it did. -/
def senderThereUptoRow : OpenClaim := { program := "yteacdckfnmjojaadoor", sum := "e9de7b7df3e2997a6e63ecbc6980964ff873a6a4fc13dceef07e0556db430f60", func := "gurney/gurneylaw08.SenderThere", spec := "senderThere", unfollowed := true, recurses := true, named := ["gurney/frame.widths"], apart := false, laid := [("gurney/frame.widths", laid_gurney_frame_widths)], narrowed := true }
def SenderThereUptoSaid : Prop := senderThereUptoRow.holds Tryd.pinned (OpenSpec.upto senderThereSpec)

end Rows
end Go.Proofs.YteacdckfnmjojaaDoor
