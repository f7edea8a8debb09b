/-
  No cell of these rows narrows 'for every input' (looked for: loops, veiled, ifaces, maps, wideKeys, modest, calm, conditions, laid).
  DERIVED. THE GIVEN ROWS OF THIS SEAT. 6 by the template 'for every input the law returns true; each argument reads behind the call as it read before'; 0 by the template 'total and deterministic' (their statements: YtonlhddcdipgjaaTotals.lean).
  GIVEN WITH THE SEED: the statements are not yours to turn. If you find one false, say at which input.
  Laid BY PROGRAM, IN A SANDBOX (cutbox-rows.mjs): the forced cells as the released guide's own fill.sh prints them over the translation b7717fc39f637392… (all of the seat's roots in one cut). By AI agents, Wed Nov 11 2026. No macro, syntax, notation, axiom, sorry.
-/
import Derived.Test.YtonlhddcdipgjaaChecked
import GoSem.Claim
import GoSem.ClaimJoined
import GoSem.ClaimMapViews
import Derived.JoinedTies
import Derived.KernelRfl
namespace Go.Proofs.Ytonlhddcdipgjaa
/- THE CELL 'sum', in the pinned program and in every row, IS THE sha256 OF THE DUMP (.gsa) THAT YtonlhddcdipgjaaProg.lean LOADS. Nothing in Lean hashes anything: it is a label: what it is worth is what the hold of that sum in a sandbox is worth. -/
noncomputable def Try.pinned : Pinned := { name := "ytonlhddcdipgjaa", sum := "b7717fc39f637392e7bfb48f90eb6efafc5669529054d89eb9f0bcec8a982fd8", checked := Try.checked }
namespace Rows
def none {H : Type} : Left H := { results := [], args := [] }

/-- 'gurneylaw06.SeqMakes': WHATEVER THE INPUT: true; the input reads as it did. -/
def seqMakesSpec : ChangeSpec := { name := "seqMakes", fn := fun _ => fun
  | [d1, d2, d3] => { results := [.lit (.bool true)], args := [d1, d2, d3] }
  | _ => none }
def seqMakesRow : OpenClaim := { program := "ytonlhddcdipgjaa", sum := "b7717fc39f637392e7bfb48f90eb6efafc5669529054d89eb9f0bcec8a982fd8", func := "gurney/gurneylaw06.SeqMakes", spec := "seqMakes", unfollowed := true, recurses := true, apart := false }
def SeqMakesSaid : Prop := seqMakesRow.holds Try.pinned (OpenSpec.ofChange seqMakesSpec)

/-- ITS FALSE NEIGHBOUR: 'it returns false'. Refute it at one input. -/
def seqMakesWrong : ChangeSpec := { name := "seqMakes", fn := fun _ => fun
  | [d1, d2, d3] => { results := [.lit (.bool false)], args := [d1, d2, d3] }
  | _ => none }
def SeqMakesWrongFalsely : Prop := seqMakesRow.holds Try.pinned (OpenSpec.ofChange seqMakesWrong)

/-- 'gurneylaw06.SeqFar': WHATEVER THE INPUT: true; the input reads as it did. -/
def seqFarSpec : ChangeSpec := { name := "seqFar", fn := fun _ => fun
  | [d1, d2, d3] => { results := [.lit (.bool true)], args := [d1, d2, d3] }
  | _ => none }
def seqFarRow : OpenClaim := { program := "ytonlhddcdipgjaa", sum := "b7717fc39f637392e7bfb48f90eb6efafc5669529054d89eb9f0bcec8a982fd8", func := "gurney/gurneylaw06.SeqFar", spec := "seqFar", unfollowed := true, recurses := true, apart := false }
def SeqFarSaid : Prop := seqFarRow.holds Try.pinned (OpenSpec.ofChange seqFarSpec)

/-- ITS FALSE NEIGHBOUR: 'it returns false'. Refute it at one input. -/
def seqFarWrong : ChangeSpec := { name := "seqFar", fn := fun _ => fun
  | [d1, d2, d3] => { results := [.lit (.bool false)], args := [d1, d2, d3] }
  | _ => none }
def SeqFarWrongFalsely : Prop := seqFarRow.holds Try.pinned (OpenSpec.ofChange seqFarWrong)

/-- 'gurneylaw06.SeqBack': WHATEVER THE INPUT: true; the input reads as it did. -/
def seqBackSpec : ChangeSpec := { name := "seqBack", fn := fun _ => fun
  | [d1, d2, d3] => { results := [.lit (.bool true)], args := [d1, d2, d3] }
  | _ => none }
def seqBackRow : OpenClaim := { program := "ytonlhddcdipgjaa", sum := "b7717fc39f637392e7bfb48f90eb6efafc5669529054d89eb9f0bcec8a982fd8", func := "gurney/gurneylaw06.SeqBack", spec := "seqBack", unfollowed := true, recurses := true, apart := false }
def SeqBackSaid : Prop := seqBackRow.holds Try.pinned (OpenSpec.ofChange seqBackSpec)

/-- ITS FALSE NEIGHBOUR: 'it returns false'. Refute it at one input. -/
def seqBackWrong : ChangeSpec := { name := "seqBack", fn := fun _ => fun
  | [d1, d2, d3] => { results := [.lit (.bool false)], args := [d1, d2, d3] }
  | _ => none }
def SeqBackWrongFalsely : Prop := seqBackRow.holds Try.pinned (OpenSpec.ofChange seqBackWrong)

/-- 'gurneylaw06.SeqRound': WHATEVER THE INPUT: true; the input reads as it did. -/
def seqRoundSpec : ChangeSpec := { name := "seqRound", fn := fun _ => fun
  | [d1, d2] => { results := [.lit (.bool true)], args := [d1, d2] }
  | _ => none }
def seqRoundRow : OpenClaim := { program := "ytonlhddcdipgjaa", sum := "b7717fc39f637392e7bfb48f90eb6efafc5669529054d89eb9f0bcec8a982fd8", func := "gurney/gurneylaw06.SeqRound", spec := "seqRound", unfollowed := true, recurses := true, apart := false }
def SeqRoundSaid : Prop := seqRoundRow.holds Try.pinned (OpenSpec.ofChange seqRoundSpec)

/-- ITS FALSE NEIGHBOUR: 'it returns false'. Refute it at one input. -/
def seqRoundWrong : ChangeSpec := { name := "seqRound", fn := fun _ => fun
  | [d1, d2] => { results := [.lit (.bool false)], args := [d1, d2] }
  | _ => none }
def SeqRoundWrongFalsely : Prop := seqRoundRow.holds Try.pinned (OpenSpec.ofChange seqRoundWrong)

/-- 'gurneylaw06.SeqOpen': WHATEVER THE INPUT: true; the input reads as it did. -/
def seqOpenSpec : ChangeSpec := { name := "seqOpen", fn := fun _ => fun
  | [d] => { results := [.lit (.bool true)], args := [d] }
  | _ => none }
def seqOpenRow : OpenClaim := { program := "ytonlhddcdipgjaa", sum := "b7717fc39f637392e7bfb48f90eb6efafc5669529054d89eb9f0bcec8a982fd8", func := "gurney/gurneylaw06.SeqOpen", spec := "seqOpen", unfollowed := true, recurses := true, apart := false }
def SeqOpenSaid : Prop := seqOpenRow.holds Try.pinned (OpenSpec.ofChange seqOpenSpec)

/-- ITS FALSE NEIGHBOUR: 'it returns false'. Refute it at one input. -/
def seqOpenWrong : ChangeSpec := { name := "seqOpen", fn := fun _ => fun
  | [d] => { results := [.lit (.bool false)], args := [d] }
  | _ => none }
def SeqOpenWrongFalsely : Prop := seqOpenRow.holds Try.pinned (OpenSpec.ofChange seqOpenWrong)

/-- 'gurneylaw06.SeqNumbers': WHATEVER THE INPUT: true; the input reads as it did. -/
def seqNumbersSpec : ChangeSpec := { name := "seqNumbers", fn := fun _ => fun
  | [d1, d2] => { results := [.lit (.bool true)], args := [d1, d2] }
  | _ => none }
def seqNumbersRow : OpenClaim := { program := "ytonlhddcdipgjaa", sum := "b7717fc39f637392e7bfb48f90eb6efafc5669529054d89eb9f0bcec8a982fd8", func := "gurney/gurneylaw06.SeqNumbers", spec := "seqNumbers", unfollowed := true, recurses := true, apart := false }
def SeqNumbersSaid : Prop := seqNumbersRow.holds Try.pinned (OpenSpec.ofChange seqNumbersSpec)

/-- ITS FALSE NEIGHBOUR: 'it returns false'. Refute it at one input. -/
def seqNumbersWrong : ChangeSpec := { name := "seqNumbers", fn := fun _ => fun
  | [d1, d2] => { results := [.lit (.bool false)], args := [d1, d2] }
  | _ => none }
def SeqNumbersWrongFalsely : Prop := seqNumbersRow.holds Try.pinned (OpenSpec.ofChange seqNumbersWrong)

/- THE SECOND FORM. 'bulk': how many values and letters a reading holds, each counted each time it is reached (what is shared counts as often as it is met; a slice's spare places count too). A statement '..UptoSaid' is the law's where the arguments, and the package variables that the reading takes, are together of bulk at most 1048576: NARROWER than '..Said'. Prove '..Said' where nothing that the law and all that it calls make is longer than what came in: it says more and counts as full. Else prove '..UptoSaid'. A law counts once. -/
mutual
def uptoBulk {H : Type} : DataW H → Nat
  | .lit (.string bytes) => bytes.length + 1
  | .lit _ => 1
  | .nil => 1
  | .ptr d => uptoBulk d + 1
  | .slice elems spare => uptoBulkAll elems + uptoBulkAll spare + 1
  | .agg parts => uptoBulkAll parts + 1
  | .iface _ d => uptoBulk d + 1
  | .map entries => uptoBulkEntries entries + 1
  | .held _ => 1
def uptoBulkAll {H : Type} : List (DataW H) → Nat
  | [] => 0
  | d :: r => uptoBulk d + uptoBulkAll r
def uptoBulkEntries {H : Type} : List (Lit × DataW H) → Nat
  | [] => 0
  | x :: r => uptoBulkEntry x + uptoBulkEntries r
def uptoBulkEntry {H : Type} : Lit × DataW H → Nat
  | (.string bytes, d) => bytes.length + uptoBulk d + 1
  | (_, d) => uptoBulk d + 1
 end
def uptoSmall : (H : Type) → List (DataW H) → Bool := fun _ ds => decide (uptoBulkAll ds ≤ 1048576)
def OpenSpec.upto (s : _root_.Go.ChangeSpec) : _root_.Go.OpenSpec := { _root_.Go.OpenSpec.ofChange s with cond := some uptoSmall }

/-- 'gurneylaw06.SeqMakes', WHERE WHAT IT READS IS OF BULK AT MOST 1048576: true; the input reads as it did. -/
def seqMakesUptoRow : OpenClaim := { program := "ytonlhddcdipgjaa", sum := "b7717fc39f637392e7bfb48f90eb6efafc5669529054d89eb9f0bcec8a982fd8", func := "gurney/gurneylaw06.SeqMakes", spec := "seqMakes", unfollowed := true, recurses := true, apart := false, narrowed := true }
def SeqMakesUptoSaid : Prop := seqMakesUptoRow.holds Try.pinned (OpenSpec.upto seqMakesSpec)

/-- 'gurneylaw06.SeqFar', WHERE WHAT IT READS IS OF BULK AT MOST 1048576: true; the input reads as it did. -/
def seqFarUptoRow : OpenClaim := { program := "ytonlhddcdipgjaa", sum := "b7717fc39f637392e7bfb48f90eb6efafc5669529054d89eb9f0bcec8a982fd8", func := "gurney/gurneylaw06.SeqFar", spec := "seqFar", unfollowed := true, recurses := true, apart := false, narrowed := true }
def SeqFarUptoSaid : Prop := seqFarUptoRow.holds Try.pinned (OpenSpec.upto seqFarSpec)

/-- 'gurneylaw06.SeqBack', WHERE WHAT IT READS IS OF BULK AT MOST 1048576: true; the input reads as it did. -/
def seqBackUptoRow : OpenClaim := { program := "ytonlhddcdipgjaa", sum := "b7717fc39f637392e7bfb48f90eb6efafc5669529054d89eb9f0bcec8a982fd8", func := "gurney/gurneylaw06.SeqBack", spec := "seqBack", unfollowed := true, recurses := true, apart := false, narrowed := true }
def SeqBackUptoSaid : Prop := seqBackUptoRow.holds Try.pinned (OpenSpec.upto seqBackSpec)

/-- 'gurneylaw06.SeqRound', WHERE WHAT IT READS IS OF BULK AT MOST 1048576: true; the input reads as it did. -/
def seqRoundUptoRow : OpenClaim := { program := "ytonlhddcdipgjaa", sum := "b7717fc39f637392e7bfb48f90eb6efafc5669529054d89eb9f0bcec8a982fd8", func := "gurney/gurneylaw06.SeqRound", spec := "seqRound", unfollowed := true, recurses := true, apart := false, narrowed := true }
def SeqRoundUptoSaid : Prop := seqRoundUptoRow.holds Try.pinned (OpenSpec.upto seqRoundSpec)

/-- 'gurneylaw06.SeqOpen', WHERE WHAT IT READS IS OF BULK AT MOST 1048576: true; the input reads as it did. -/
def seqOpenUptoRow : OpenClaim := { program := "ytonlhddcdipgjaa", sum := "b7717fc39f637392e7bfb48f90eb6efafc5669529054d89eb9f0bcec8a982fd8", func := "gurney/gurneylaw06.SeqOpen", spec := "seqOpen", unfollowed := true, recurses := true, apart := false, narrowed := true }
def SeqOpenUptoSaid : Prop := seqOpenUptoRow.holds Try.pinned (OpenSpec.upto seqOpenSpec)

/-- 'gurneylaw06.SeqNumbers', WHERE WHAT IT READS IS OF BULK AT MOST 1048576: true; the input reads as it did. -/
def seqNumbersUptoRow : OpenClaim := { program := "ytonlhddcdipgjaa", sum := "b7717fc39f637392e7bfb48f90eb6efafc5669529054d89eb9f0bcec8a982fd8", func := "gurney/gurneylaw06.SeqNumbers", spec := "seqNumbers", unfollowed := true, recurses := true, apart := false, narrowed := true }
def SeqNumbersUptoSaid : Prop := seqNumbersUptoRow.holds Try.pinned (OpenSpec.upto seqNumbersSpec)

end Rows
end Go.Proofs.Ytonlhddcdipgjaa
