/-
  No cell of these rows narrows 'for every input' (looked for: loops, veiled, ifaces, maps, wideKeys, modest, calm, conditions, laid).
  DERIVED. THE GIVEN ROWS OF THIS SEAT. 6 by the template 'for every input the law returns true; each argument reads behind the call as it read before'; 0 by the template 'total and deterministic' (their statements: YthfmgdhhjnngaaaTotals.lean).
  GIVEN WITH THE SEED: the statements are not yours to turn. If you find one false, say at which input.
  Laid BY PROGRAM, IN A SANDBOX (cutbox-rows.mjs): the forced cells as the released guide's own fill.sh prints them over the translation 7fb979e277dcb7a2… (all of the seat's roots in one cut). By AI agents, Wed Nov 11 2026. No macro, syntax, notation, axiom, sorry.
-/
import Derived.Test.YthfmgdhhjnngaaaChecked
import GoSem.Claim
import GoSem.ClaimJoined
import GoSem.ClaimMapViews
import Derived.JoinedTies
import Derived.KernelRfl
namespace Go.Proofs.Ythfmgdhhjnngaaa
/- THE CELL 'sum', in the pinned program and in every row, IS THE sha256 OF THE DUMP (.gsa) THAT YthfmgdhhjnngaaaProg.lean LOADS. Nothing in Lean hashes anything: it is a label: what it is worth is what the hold of that sum in a sandbox is worth. -/
noncomputable def Try.pinned : Pinned := { name := "ythfmgdhhjnngaaa", sum := "7fb979e277dcb7a288d103a34e8ebe6bc20f2624050edfc9b081d90900f44346", checked := Try.checked }
namespace Rows
def none {H : Type} : Left H := { results := [], args := [] }

/-- 'gurneylaw13.ShedActs': WHATEVER THE INPUT: true; the input reads as it did. -/
def shedActsSpec : ChangeSpec := { name := "shedActs", fn := fun _ => fun
  | [d1, d2] => { results := [.lit (.bool true)], args := [d1, d2] }
  | _ => none }
def shedActsRow : OpenClaim := { program := "ythfmgdhhjnngaaa", sum := "7fb979e277dcb7a288d103a34e8ebe6bc20f2624050edfc9b081d90900f44346", func := "gurney/gurneylaw13.ShedActs", spec := "shedActs", inPlace := ["slices.overlaps[*gurney/shed.standing]"], unfollowed := true, recurses := true, apart := false }
def ShedActsSaid : Prop := shedActsRow.holds Try.pinned (OpenSpec.ofChange shedActsSpec)

/-- ITS FALSE NEIGHBOUR: 'it returns false'. Refute it at one input. -/
def shedActsWrong : ChangeSpec := { name := "shedActs", fn := fun _ => fun
  | [d1, d2] => { results := [.lit (.bool false)], args := [d1, d2] }
  | _ => none }
def ShedActsWrongFalsely : Prop := shedActsRow.holds Try.pinned (OpenSpec.ofChange shedActsWrong)

/-- 'gurneylaw13.ShedLooks': WHATEVER THE INPUT: true; the input reads as it did. -/
def shedLooksSpec : ChangeSpec := { name := "shedLooks", fn := fun _ => fun
  | [d1, d2] => { results := [.lit (.bool true)], args := [d1, d2] }
  | _ => none }
def shedLooksRow : OpenClaim := { program := "ythfmgdhhjnngaaa", sum := "7fb979e277dcb7a288d103a34e8ebe6bc20f2624050edfc9b081d90900f44346", func := "gurney/gurneylaw13.ShedLooks", spec := "shedLooks", inPlace := ["slices.overlaps[*gurney/shed.standing]"], unfollowed := true, recurses := true, apart := false }
def ShedLooksSaid : Prop := shedLooksRow.holds Try.pinned (OpenSpec.ofChange shedLooksSpec)

/-- ITS FALSE NEIGHBOUR: 'it returns false'. Refute it at one input. -/
def shedLooksWrong : ChangeSpec := { name := "shedLooks", fn := fun _ => fun
  | [d1, d2] => { results := [.lit (.bool false)], args := [d1, d2] }
  | _ => none }
def ShedLooksWrongFalsely : Prop := shedLooksRow.holds Try.pinned (OpenSpec.ofChange shedLooksWrong)

/-- 'gurneylaw13.ShedCause': WHATEVER THE INPUT: true; the input reads as it did. -/
def shedCauseSpec : ChangeSpec := { name := "shedCause", fn := fun _ => fun
  | [d1, d2] => { results := [.lit (.bool true)], args := [d1, d2] }
  | _ => none }
def shedCauseRow : OpenClaim := { program := "ythfmgdhhjnngaaa", sum := "7fb979e277dcb7a288d103a34e8ebe6bc20f2624050edfc9b081d90900f44346", func := "gurney/gurneylaw13.ShedCause", spec := "shedCause", inPlace := ["slices.overlaps[*gurney/shed.standing]"], unfollowed := true, recurses := true, apart := false }
def ShedCauseSaid : Prop := shedCauseRow.holds Try.pinned (OpenSpec.ofChange shedCauseSpec)

/-- ITS FALSE NEIGHBOUR: 'it returns false'. Refute it at one input. -/
def shedCauseWrong : ChangeSpec := { name := "shedCause", fn := fun _ => fun
  | [d1, d2] => { results := [.lit (.bool false)], args := [d1, d2] }
  | _ => none }
def ShedCauseWrongFalsely : Prop := shedCauseRow.holds Try.pinned (OpenSpec.ofChange shedCauseWrong)

/-- 'gurneylaw13.ShedOrder': WHATEVER THE INPUT: true; the input reads as it did. -/
def shedOrderSpec : ChangeSpec := { name := "shedOrder", fn := fun _ => fun
  | [d1, d2, d3] => { results := [.lit (.bool true)], args := [d1, d2, d3] }
  | _ => none }
def shedOrderRow : OpenClaim := { program := "ythfmgdhhjnngaaa", sum := "7fb979e277dcb7a288d103a34e8ebe6bc20f2624050edfc9b081d90900f44346", func := "gurney/gurneylaw13.ShedOrder", spec := "shedOrder", inPlace := ["slices.overlaps[*gurney/shed.standing]"], unfollowed := true, recurses := true, apart := false }
def ShedOrderSaid : Prop := shedOrderRow.holds Try.pinned (OpenSpec.ofChange shedOrderSpec)

/-- ITS FALSE NEIGHBOUR: 'it returns false'. Refute it at one input. -/
def shedOrderWrong : ChangeSpec := { name := "shedOrder", fn := fun _ => fun
  | [d1, d2, d3] => { results := [.lit (.bool false)], args := [d1, d2, d3] }
  | _ => none }
def ShedOrderWrongFalsely : Prop := shedOrderRow.holds Try.pinned (OpenSpec.ofChange shedOrderWrong)

/-- 'gurneylaw13.ShedFull': WHATEVER THE INPUT: true; the input reads as it did. -/
def shedFullSpec : ChangeSpec := { name := "shedFull", fn := fun _ => fun
  | [d1, d2] => { results := [.lit (.bool true)], args := [d1, d2] }
  | _ => none }
def shedFullRow : OpenClaim := { program := "ythfmgdhhjnngaaa", sum := "7fb979e277dcb7a288d103a34e8ebe6bc20f2624050edfc9b081d90900f44346", func := "gurney/gurneylaw13.ShedFull", spec := "shedFull", inPlace := ["slices.overlaps[*gurney/shed.standing]"], unfollowed := true, recurses := true, apart := false }
def ShedFullSaid : Prop := shedFullRow.holds Try.pinned (OpenSpec.ofChange shedFullSpec)

/-- ITS FALSE NEIGHBOUR: 'it returns false'. Refute it at one input. -/
def shedFullWrong : ChangeSpec := { name := "shedFull", fn := fun _ => fun
  | [d1, d2] => { results := [.lit (.bool false)], args := [d1, d2] }
  | _ => none }
def ShedFullWrongFalsely : Prop := shedFullRow.holds Try.pinned (OpenSpec.ofChange shedFullWrong)

/-- 'gurneylaw13.ShedPoints': WHATEVER THE INPUT: true; the input reads as it did. -/
def shedPointsSpec : ChangeSpec := { name := "shedPoints", fn := fun _ => fun
  | [d] => { results := [.lit (.bool true)], args := [d] }
  | _ => none }
def shedPointsRow : OpenClaim := { program := "ythfmgdhhjnngaaa", sum := "7fb979e277dcb7a288d103a34e8ebe6bc20f2624050edfc9b081d90900f44346", func := "gurney/gurneylaw13.ShedPoints", spec := "shedPoints", inPlace := ["slices.overlaps[*gurney/shed.standing]"], unfollowed := true, recurses := true, apart := false }
def ShedPointsSaid : Prop := shedPointsRow.holds Try.pinned (OpenSpec.ofChange shedPointsSpec)

/-- ITS FALSE NEIGHBOUR: 'it returns false'. Refute it at one input. -/
def shedPointsWrong : ChangeSpec := { name := "shedPoints", fn := fun _ => fun
  | [d] => { results := [.lit (.bool false)], args := [d] }
  | _ => none }
def ShedPointsWrongFalsely : Prop := shedPointsRow.holds Try.pinned (OpenSpec.ofChange shedPointsWrong)

/- THE SECOND FORM. 'bulk': how many values and letters a reading holds, each counted each time it is reached (what is shared counts as often as it is met; a slice's spare places count too). A statement '..UptoSaid' is the law's where the arguments, and the package variables that the reading takes, are together of bulk at most 1048576: NARROWER than '..Said'. Prove '..Said' where nothing that the law and all that it calls make is longer than what came in: it says more and counts as full. Else prove '..UptoSaid'. A law counts once. -/
mutual
def uptoBulk {H : Type} : DataW H → Nat
  | .lit (.string bytes) => bytes.length + 1
  | .lit _ => 1
  | .nil => 1
  | .ptr d => uptoBulk d + 1
  | .slice elems spare => uptoBulkAll elems + uptoBulkAll spare + 1
  | .agg parts => uptoBulkAll parts + 1
  | .iface _ d => uptoBulk d + 1
  | .map entries => uptoBulkEntries entries + 1
  | .held _ => 1
def uptoBulkAll {H : Type} : List (DataW H) → Nat
  | [] => 0
  | d :: r => uptoBulk d + uptoBulkAll r
def uptoBulkEntries {H : Type} : List (Lit × DataW H) → Nat
  | [] => 0
  | x :: r => uptoBulkEntry x + uptoBulkEntries r
def uptoBulkEntry {H : Type} : Lit × DataW H → Nat
  | (.string bytes, d) => bytes.length + uptoBulk d + 1
  | (_, d) => uptoBulk d + 1
 end
def uptoSmall : (H : Type) → List (DataW H) → Bool := fun _ ds => decide (uptoBulkAll ds ≤ 1048576)
def OpenSpec.upto (s : _root_.Go.ChangeSpec) : _root_.Go.OpenSpec := { _root_.Go.OpenSpec.ofChange s with cond := some uptoSmall }

/-- 'gurneylaw13.ShedActs', WHERE WHAT IT READS IS OF BULK AT MOST 1048576: true; the input reads as it did. -/
def shedActsUptoRow : OpenClaim := { program := "ythfmgdhhjnngaaa", sum := "7fb979e277dcb7a288d103a34e8ebe6bc20f2624050edfc9b081d90900f44346", func := "gurney/gurneylaw13.ShedActs", spec := "shedActs", inPlace := ["slices.overlaps[*gurney/shed.standing]"], unfollowed := true, recurses := true, apart := false, narrowed := true }
def ShedActsUptoSaid : Prop := shedActsUptoRow.holds Try.pinned (OpenSpec.upto shedActsSpec)

/-- 'gurneylaw13.ShedLooks', WHERE WHAT IT READS IS OF BULK AT MOST 1048576: true; the input reads as it did. -/
def shedLooksUptoRow : OpenClaim := { program := "ythfmgdhhjnngaaa", sum := "7fb979e277dcb7a288d103a34e8ebe6bc20f2624050edfc9b081d90900f44346", func := "gurney/gurneylaw13.ShedLooks", spec := "shedLooks", inPlace := ["slices.overlaps[*gurney/shed.standing]"], unfollowed := true, recurses := true, apart := false, narrowed := true }
def ShedLooksUptoSaid : Prop := shedLooksUptoRow.holds Try.pinned (OpenSpec.upto shedLooksSpec)

/-- 'gurneylaw13.ShedCause', WHERE WHAT IT READS IS OF BULK AT MOST 1048576: true; the input reads as it did. -/
def shedCauseUptoRow : OpenClaim := { program := "ythfmgdhhjnngaaa", sum := "7fb979e277dcb7a288d103a34e8ebe6bc20f2624050edfc9b081d90900f44346", func := "gurney/gurneylaw13.ShedCause", spec := "shedCause", inPlace := ["slices.overlaps[*gurney/shed.standing]"], unfollowed := true, recurses := true, apart := false, narrowed := true }
def ShedCauseUptoSaid : Prop := shedCauseUptoRow.holds Try.pinned (OpenSpec.upto shedCauseSpec)

/-- 'gurneylaw13.ShedOrder', WHERE WHAT IT READS IS OF BULK AT MOST 1048576: true; the input reads as it did. -/
def shedOrderUptoRow : OpenClaim := { program := "ythfmgdhhjnngaaa", sum := "7fb979e277dcb7a288d103a34e8ebe6bc20f2624050edfc9b081d90900f44346", func := "gurney/gurneylaw13.ShedOrder", spec := "shedOrder", inPlace := ["slices.overlaps[*gurney/shed.standing]"], unfollowed := true, recurses := true, apart := false, narrowed := true }
def ShedOrderUptoSaid : Prop := shedOrderUptoRow.holds Try.pinned (OpenSpec.upto shedOrderSpec)

/-- 'gurneylaw13.ShedFull', WHERE WHAT IT READS IS OF BULK AT MOST 1048576: true; the input reads as it did. -/
def shedFullUptoRow : OpenClaim := { program := "ythfmgdhhjnngaaa", sum := "7fb979e277dcb7a288d103a34e8ebe6bc20f2624050edfc9b081d90900f44346", func := "gurney/gurneylaw13.ShedFull", spec := "shedFull", inPlace := ["slices.overlaps[*gurney/shed.standing]"], unfollowed := true, recurses := true, apart := false, narrowed := true }
def ShedFullUptoSaid : Prop := shedFullUptoRow.holds Try.pinned (OpenSpec.upto shedFullSpec)

/-- 'gurneylaw13.ShedPoints', WHERE WHAT IT READS IS OF BULK AT MOST 1048576: true; the input reads as it did. -/
def shedPointsUptoRow : OpenClaim := { program := "ythfmgdhhjnngaaa", sum := "7fb979e277dcb7a288d103a34e8ebe6bc20f2624050edfc9b081d90900f44346", func := "gurney/gurneylaw13.ShedPoints", spec := "shedPoints", inPlace := ["slices.overlaps[*gurney/shed.standing]"], unfollowed := true, recurses := true, apart := false, narrowed := true }
def ShedPointsUptoSaid : Prop := shedPointsUptoRow.holds Try.pinned (OpenSpec.upto shedPointsSpec)

end Rows
end Go.Proofs.Ythfmgdhhjnngaaa
