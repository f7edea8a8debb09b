/-
  No cell of these rows narrows 'for every input' (looked for: loops, veiled, ifaces, maps, wideKeys, modest, calm, conditions, laid).
  DERIVED. THE GIVEN ROWS OF THIS SEAT. 6 by the template 'for every input the law returns true; each argument reads behind the call as it read before'; 0 by the template 'total and deterministic' (their statements: YtebjkbhidpdpfaaTotals.lean).
  GIVEN WITH THE SEED: the statements are not yours to turn. If you find one false, say at which input.
  Laid BY PROGRAM, IN A SANDBOX (cutbox-rows.mjs): the forced cells as the released guide's own fill.sh prints them over the translation 1551ba0cabace03e… (all of the seat's roots in one cut). By AI agents, Wed Nov 11 2026. No macro, syntax, notation, axiom, sorry.
-/
import Derived.Test.YtebjkbhidpdpfaaChecked
import GoSem.Claim
import GoSem.ClaimJoined
import GoSem.ClaimMapViews
import Derived.JoinedTies
import Derived.KernelRfl
namespace Go.Proofs.Ytebjkbhidpdpfaa
/- THE CELL 'sum', in the pinned program and in every row, IS THE sha256 OF THE DUMP (.gsa) THAT YtebjkbhidpdpfaaProg.lean LOADS. Nothing in Lean hashes anything: it is a label: what it is worth is what the hold of that sum in a sandbox is worth. -/
noncomputable def Try.pinned : Pinned := { name := "ytebjkbhidpdpfaa", sum := "1551ba0cabace03ecde3fc9accb991af6e49986cc4effc83662cb7e12c459545", checked := Try.checked }
namespace Rows
def none {H : Type} : Left H := { results := [], args := [] }

/-- 'gurneylaw05.RsEncodes': WHATEVER THE INPUT: true; the input reads as it did. -/
def rsEncodesSpec : ChangeSpec := { name := "rsEncodes", fn := fun _ => fun
  | [d1, d2] => { results := [.lit (.bool true)], args := [d1, d2] }
  | _ => none }
def rsEncodesRow : OpenClaim := { program := "ytebjkbhidpdpfaa", sum := "1551ba0cabace03ecde3fc9accb991af6e49986cc4effc83662cb7e12c459545", func := "gurney/gurneylaw05.RsEncodes", spec := "rsEncodes", unfollowed := true, recurses := true, apart := false }
def RsEncodesSaid : Prop := rsEncodesRow.holds Try.pinned (OpenSpec.ofChange rsEncodesSpec)

/-- ITS FALSE NEIGHBOUR: 'it returns false'. Refute it at one input. -/
def rsEncodesWrong : ChangeSpec := { name := "rsEncodes", fn := fun _ => fun
  | [d1, d2] => { results := [.lit (.bool false)], args := [d1, d2] }
  | _ => none }
def RsEncodesWrongFalsely : Prop := rsEncodesRow.holds Try.pinned (OpenSpec.ofChange rsEncodesWrong)

/-- 'gurneylaw05.RsDecodes': WHATEVER THE INPUT: true; the input reads as it did. -/
def rsDecodesSpec : ChangeSpec := { name := "rsDecodes", fn := fun _ => fun
  | [d1, d2] => { results := [.lit (.bool true)], args := [d1, d2] }
  | _ => none }
def rsDecodesRow : OpenClaim := { program := "ytebjkbhidpdpfaa", sum := "1551ba0cabace03ecde3fc9accb991af6e49986cc4effc83662cb7e12c459545", func := "gurney/gurneylaw05.RsDecodes", spec := "rsDecodes", unfollowed := true, recurses := true, apart := false }
def RsDecodesSaid : Prop := rsDecodesRow.holds Try.pinned (OpenSpec.ofChange rsDecodesSpec)

/-- ITS FALSE NEIGHBOUR: 'it returns false'. Refute it at one input. -/
def rsDecodesWrong : ChangeSpec := { name := "rsDecodes", fn := fun _ => fun
  | [d1, d2] => { results := [.lit (.bool false)], args := [d1, d2] }
  | _ => none }
def RsDecodesWrongFalsely : Prop := rsDecodesRow.holds Try.pinned (OpenSpec.ofChange rsDecodesWrong)

/-- 'gurneylaw05.RsWeights': WHATEVER THE INPUT: true; the input reads as it did. -/
def rsWeightsSpec : ChangeSpec := { name := "rsWeights", fn := fun _ => fun
  | [d1, d2, d3] => { results := [.lit (.bool true)], args := [d1, d2, d3] }
  | _ => none }
def rsWeightsRow : OpenClaim := { program := "ytebjkbhidpdpfaa", sum := "1551ba0cabace03ecde3fc9accb991af6e49986cc4effc83662cb7e12c459545", func := "gurney/gurneylaw05.RsWeights", spec := "rsWeights", unfollowed := true, recurses := true, apart := false }
def RsWeightsSaid : Prop := rsWeightsRow.holds Try.pinned (OpenSpec.ofChange rsWeightsSpec)

/-- ITS FALSE NEIGHBOUR: 'it returns false'. Refute it at one input. -/
def rsWeightsWrong : ChangeSpec := { name := "rsWeights", fn := fun _ => fun
  | [d1, d2, d3] => { results := [.lit (.bool false)], args := [d1, d2, d3] }
  | _ => none }
def RsWeightsWrongFalsely : Prop := rsWeightsRow.holds Try.pinned (OpenSpec.ofChange rsWeightsWrong)

/-- 'gurneylaw05.RsBack': WHATEVER THE INPUT: true; the input reads as it did. -/
def rsBackSpec : ChangeSpec := { name := "rsBack", fn := fun _ => fun
  | [d1, d2, d3] => { results := [.lit (.bool true)], args := [d1, d2, d3] }
  | _ => none }
def rsBackRow : OpenClaim := { program := "ytebjkbhidpdpfaa", sum := "1551ba0cabace03ecde3fc9accb991af6e49986cc4effc83662cb7e12c459545", func := "gurney/gurneylaw05.RsBack", spec := "rsBack", unfollowed := true, recurses := true, apart := false }
def RsBackSaid : Prop := rsBackRow.holds Try.pinned (OpenSpec.ofChange rsBackSpec)

/-- ITS FALSE NEIGHBOUR: 'it returns false'. Refute it at one input. -/
def rsBackWrong : ChangeSpec := { name := "rsBack", fn := fun _ => fun
  | [d1, d2, d3] => { results := [.lit (.bool false)], args := [d1, d2, d3] }
  | _ => none }
def RsBackWrongFalsely : Prop := rsBackRow.holds Try.pinned (OpenSpec.ofChange rsBackWrong)

/-- 'gurneylaw05.RsShards': WHATEVER THE INPUT: true; the input reads as it did. -/
def rsShardsSpec : ChangeSpec := { name := "rsShards", fn := fun _ => fun
  | [d1, d2] => { results := [.lit (.bool true)], args := [d1, d2] }
  | _ => none }
def rsShardsRow : OpenClaim := { program := "ytebjkbhidpdpfaa", sum := "1551ba0cabace03ecde3fc9accb991af6e49986cc4effc83662cb7e12c459545", func := "gurney/gurneylaw05.RsShards", spec := "rsShards", unfollowed := true, recurses := true, apart := false }
def RsShardsSaid : Prop := rsShardsRow.holds Try.pinned (OpenSpec.ofChange rsShardsSpec)

/-- ITS FALSE NEIGHBOUR: 'it returns false'. Refute it at one input. -/
def rsShardsWrong : ChangeSpec := { name := "rsShards", fn := fun _ => fun
  | [d1, d2] => { results := [.lit (.bool false)], args := [d1, d2] }
  | _ => none }
def RsShardsWrongFalsely : Prop := rsShardsRow.holds Try.pinned (OpenSpec.ofChange rsShardsWrong)

/-- 'gurneylaw05.RsAdds': WHATEVER THE INPUT: true; the input reads as it did. -/
def rsAddsSpec : ChangeSpec := { name := "rsAdds", fn := fun _ => fun
  | [d1, d2, d3] => { results := [.lit (.bool true)], args := [d1, d2, d3] }
  | _ => none }
def rsAddsRow : OpenClaim := { program := "ytebjkbhidpdpfaa", sum := "1551ba0cabace03ecde3fc9accb991af6e49986cc4effc83662cb7e12c459545", func := "gurney/gurneylaw05.RsAdds", spec := "rsAdds", unfollowed := true, recurses := true, apart := false }
def RsAddsSaid : Prop := rsAddsRow.holds Try.pinned (OpenSpec.ofChange rsAddsSpec)

/-- ITS FALSE NEIGHBOUR: 'it returns false'. Refute it at one input. -/
def rsAddsWrong : ChangeSpec := { name := "rsAdds", fn := fun _ => fun
  | [d1, d2, d3] => { results := [.lit (.bool false)], args := [d1, d2, d3] }
  | _ => none }
def RsAddsWrongFalsely : Prop := rsAddsRow.holds Try.pinned (OpenSpec.ofChange rsAddsWrong)

/- THE SECOND FORM. 'bulk': how many values and letters a reading holds, each counted each time it is reached (what is shared counts as often as it is met; a slice's spare places count too). A statement '..UptoSaid' is the law's where the arguments, and the package variables that the reading takes, are together of bulk at most 1048576: NARROWER than '..Said'. Prove '..Said' where nothing that the law and all that it calls make is longer than what came in: it says more and counts as full. Else prove '..UptoSaid'. A law counts once. -/
mutual
def uptoBulk {H : Type} : DataW H → Nat
  | .lit (.string bytes) => bytes.length + 1
  | .lit _ => 1
  | .nil => 1
  | .ptr d => uptoBulk d + 1
  | .slice elems spare => uptoBulkAll elems + uptoBulkAll spare + 1
  | .agg parts => uptoBulkAll parts + 1
  | .iface _ d => uptoBulk d + 1
  | .map entries => uptoBulkEntries entries + 1
  | .held _ => 1
def uptoBulkAll {H : Type} : List (DataW H) → Nat
  | [] => 0
  | d :: r => uptoBulk d + uptoBulkAll r
def uptoBulkEntries {H : Type} : List (Lit × DataW H) → Nat
  | [] => 0
  | x :: r => uptoBulkEntry x + uptoBulkEntries r
def uptoBulkEntry {H : Type} : Lit × DataW H → Nat
  | (.string bytes, d) => bytes.length + uptoBulk d + 1
  | (_, d) => uptoBulk d + 1
 end
def uptoSmall : (H : Type) → List (DataW H) → Bool := fun _ ds => decide (uptoBulkAll ds ≤ 1048576)
def OpenSpec.upto (s : _root_.Go.ChangeSpec) : _root_.Go.OpenSpec := { _root_.Go.OpenSpec.ofChange s with cond := some uptoSmall }

/-- 'gurneylaw05.RsEncodes', WHERE WHAT IT READS IS OF BULK AT MOST 1048576: true; the input reads as it did. -/
def rsEncodesUptoRow : OpenClaim := { program := "ytebjkbhidpdpfaa", sum := "1551ba0cabace03ecde3fc9accb991af6e49986cc4effc83662cb7e12c459545", func := "gurney/gurneylaw05.RsEncodes", spec := "rsEncodes", unfollowed := true, recurses := true, apart := false, narrowed := true }
def RsEncodesUptoSaid : Prop := rsEncodesUptoRow.holds Try.pinned (OpenSpec.upto rsEncodesSpec)

/-- 'gurneylaw05.RsDecodes', WHERE WHAT IT READS IS OF BULK AT MOST 1048576: true; the input reads as it did. -/
def rsDecodesUptoRow : OpenClaim := { program := "ytebjkbhidpdpfaa", sum := "1551ba0cabace03ecde3fc9accb991af6e49986cc4effc83662cb7e12c459545", func := "gurney/gurneylaw05.RsDecodes", spec := "rsDecodes", unfollowed := true, recurses := true, apart := false, narrowed := true }
def RsDecodesUptoSaid : Prop := rsDecodesUptoRow.holds Try.pinned (OpenSpec.upto rsDecodesSpec)

/-- 'gurneylaw05.RsWeights', WHERE WHAT IT READS IS OF BULK AT MOST 1048576: true; the input reads as it did. -/
def rsWeightsUptoRow : OpenClaim := { program := "ytebjkbhidpdpfaa", sum := "1551ba0cabace03ecde3fc9accb991af6e49986cc4effc83662cb7e12c459545", func := "gurney/gurneylaw05.RsWeights", spec := "rsWeights", unfollowed := true, recurses := true, apart := false, narrowed := true }
def RsWeightsUptoSaid : Prop := rsWeightsUptoRow.holds Try.pinned (OpenSpec.upto rsWeightsSpec)

/-- 'gurneylaw05.RsBack', WHERE WHAT IT READS IS OF BULK AT MOST 1048576: true; the input reads as it did. -/
def rsBackUptoRow : OpenClaim := { program := "ytebjkbhidpdpfaa", sum := "1551ba0cabace03ecde3fc9accb991af6e49986cc4effc83662cb7e12c459545", func := "gurney/gurneylaw05.RsBack", spec := "rsBack", unfollowed := true, recurses := true, apart := false, narrowed := true }
def RsBackUptoSaid : Prop := rsBackUptoRow.holds Try.pinned (OpenSpec.upto rsBackSpec)

/-- 'gurneylaw05.RsShards', WHERE WHAT IT READS IS OF BULK AT MOST 1048576: true; the input reads as it did. -/
def rsShardsUptoRow : OpenClaim := { program := "ytebjkbhidpdpfaa", sum := "1551ba0cabace03ecde3fc9accb991af6e49986cc4effc83662cb7e12c459545", func := "gurney/gurneylaw05.RsShards", spec := "rsShards", unfollowed := true, recurses := true, apart := false, narrowed := true }
def RsShardsUptoSaid : Prop := rsShardsUptoRow.holds Try.pinned (OpenSpec.upto rsShardsSpec)

/-- 'gurneylaw05.RsAdds', WHERE WHAT IT READS IS OF BULK AT MOST 1048576: true; the input reads as it did. -/
def rsAddsUptoRow : OpenClaim := { program := "ytebjkbhidpdpfaa", sum := "1551ba0cabace03ecde3fc9accb991af6e49986cc4effc83662cb7e12c459545", func := "gurney/gurneylaw05.RsAdds", spec := "rsAdds", unfollowed := true, recurses := true, apart := false, narrowed := true }
def RsAddsUptoSaid : Prop := rsAddsUptoRow.holds Try.pinned (OpenSpec.upto rsAddsSpec)

end Rows
end Go.Proofs.Ytebjkbhidpdpfaa
