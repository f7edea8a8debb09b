/-
  No cell of these rows narrows 'for every input' (looked for: loops, veiled, ifaces, maps, wideKeys, modest, calm, conditions, laid).
  DERIVED. THE GIVEN ROWS OF THIS SEAT. 6 by the template 'for every input the law returns true; each argument reads behind the call as it read before'; 0 by the template 'total and deterministic' (their statements: YtcloneccfbcclaaTotals.lean).
  GIVEN WITH THE SEED: the statements are not yours to turn. If you find one false, say at which input.
  Laid BY PROGRAM, IN A SANDBOX (cutbox-rows.mjs): the forced cells as the released guide's own fill.sh prints them over the translation bde3b2c5bac482b8… (all of the seat's roots in one cut). By AI agents, Wed Nov 11 2026. No macro, syntax, notation, axiom, sorry.
-/
import Derived.Test.YtcloneccfbcclaaChecked
import GoSem.Claim
import GoSem.ClaimJoined
import GoSem.ClaimMapViews
import Derived.JoinedTies
import Derived.KernelRfl
namespace Go.Proofs.Ytcloneccfbcclaa
/- THE CELL 'sum', in the pinned program and in every row, IS THE sha256 OF THE DUMP (.gsa) THAT YtcloneccfbcclaaProg.lean LOADS. Nothing in Lean hashes anything: it is a label: what it is worth is what the hold of that sum in a sandbox is worth. -/
noncomputable def Try.pinned : Pinned := { name := "ytcloneccfbcclaa", sum := "bde3b2c5bac482b84ff5bfa88ee90d8894b7bcacfbbbb8f18808fcdc8a0ecb14", checked := Try.checked }
namespace Rows
def none {H : Type} : Left H := { results := [], args := [] }

/-- 'gurneylaw14.LimitActs': WHATEVER THE INPUT: true; the input reads as it did. -/
def limitActsSpec : ChangeSpec := { name := "limitActs", fn := fun _ => fun
  | [d] => { results := [.lit (.bool true)], args := [d] }
  | _ => none }
def limitActsRow : OpenClaim := { program := "ytcloneccfbcclaa", sum := "bde3b2c5bac482b84ff5bfa88ee90d8894b7bcacfbbbb8f18808fcdc8a0ecb14", func := "gurney/gurneylaw14.LimitActs", spec := "limitActs", unfollowed := true, recurses := true, plainKeys := false, apart := false }
def LimitActsSaid : Prop := limitActsRow.holds Try.pinned (OpenSpec.ofChange limitActsSpec)

/-- ITS FALSE NEIGHBOUR: 'it returns false'. Refute it at one input. -/
def limitActsWrong : ChangeSpec := { name := "limitActs", fn := fun _ => fun
  | [d] => { results := [.lit (.bool false)], args := [d] }
  | _ => none }
def LimitActsWrongFalsely : Prop := limitActsRow.holds Try.pinned (OpenSpec.ofChange limitActsWrong)

/-- 'gurneylaw14.LimitCount': WHATEVER THE INPUT: true; the input reads as it did. -/
def limitCountSpec : ChangeSpec := { name := "limitCount", fn := fun _ => fun
  | [d1, d2] => { results := [.lit (.bool true)], args := [d1, d2] }
  | _ => none }
def limitCountRow : OpenClaim := { program := "ytcloneccfbcclaa", sum := "bde3b2c5bac482b84ff5bfa88ee90d8894b7bcacfbbbb8f18808fcdc8a0ecb14", func := "gurney/gurneylaw14.LimitCount", spec := "limitCount", unfollowed := true, recurses := true, plainKeys := false, apart := false }
def LimitCountSaid : Prop := limitCountRow.holds Try.pinned (OpenSpec.ofChange limitCountSpec)

/-- ITS FALSE NEIGHBOUR: 'it returns false'. Refute it at one input. -/
def limitCountWrong : ChangeSpec := { name := "limitCount", fn := fun _ => fun
  | [d1, d2] => { results := [.lit (.bool false)], args := [d1, d2] }
  | _ => none }
def LimitCountWrongFalsely : Prop := limitCountRow.holds Try.pinned (OpenSpec.ofChange limitCountWrong)

/-- 'gurneylaw14.LimitApart': WHATEVER THE INPUT: true; the input reads as it did. -/
def limitApartSpec : ChangeSpec := { name := "limitApart", fn := fun _ => fun
  | [d1, d2, d3] => { results := [.lit (.bool true)], args := [d1, d2, d3] }
  | _ => none }
def limitApartRow : OpenClaim := { program := "ytcloneccfbcclaa", sum := "bde3b2c5bac482b84ff5bfa88ee90d8894b7bcacfbbbb8f18808fcdc8a0ecb14", func := "gurney/gurneylaw14.LimitApart", spec := "limitApart", unfollowed := true, recurses := true, plainKeys := false, apart := false }
def LimitApartSaid : Prop := limitApartRow.holds Try.pinned (OpenSpec.ofChange limitApartSpec)

/-- ITS FALSE NEIGHBOUR: 'it returns false'. Refute it at one input. -/
def limitApartWrong : ChangeSpec := { name := "limitApart", fn := fun _ => fun
  | [d1, d2, d3] => { results := [.lit (.bool false)], args := [d1, d2, d3] }
  | _ => none }
def LimitApartWrongFalsely : Prop := limitApartRow.holds Try.pinned (OpenSpec.ofChange limitApartWrong)

/-- 'gurneylaw14.LimitSet': WHATEVER THE INPUT: true; the input reads as it did. -/
def limitSetSpec : ChangeSpec := { name := "limitSet", fn := fun _ => fun
  | [d1, d2, d3] => { results := [.lit (.bool true)], args := [d1, d2, d3] }
  | _ => none }
def limitSetRow : OpenClaim := { program := "ytcloneccfbcclaa", sum := "bde3b2c5bac482b84ff5bfa88ee90d8894b7bcacfbbbb8f18808fcdc8a0ecb14", func := "gurney/gurneylaw14.LimitSet", spec := "limitSet", unfollowed := true, recurses := true, plainKeys := false, apart := false }
def LimitSetSaid : Prop := limitSetRow.holds Try.pinned (OpenSpec.ofChange limitSetSpec)

/-- ITS FALSE NEIGHBOUR: 'it returns false'. Refute it at one input. -/
def limitSetWrong : ChangeSpec := { name := "limitSet", fn := fun _ => fun
  | [d1, d2, d3] => { results := [.lit (.bool false)], args := [d1, d2, d3] }
  | _ => none }
def LimitSetWrongFalsely : Prop := limitSetRow.holds Try.pinned (OpenSpec.ofChange limitSetWrong)

/-- 'gurneylaw14.LimitDrops': WHATEVER THE INPUT: true; the input reads as it did. -/
def limitDropsSpec : ChangeSpec := { name := "limitDrops", fn := fun _ => fun
  | [d1, d2] => { results := [.lit (.bool true)], args := [d1, d2] }
  | _ => none }
def limitDropsRow : OpenClaim := { program := "ytcloneccfbcclaa", sum := "bde3b2c5bac482b84ff5bfa88ee90d8894b7bcacfbbbb8f18808fcdc8a0ecb14", func := "gurney/gurneylaw14.LimitDrops", spec := "limitDrops", unfollowed := true, recurses := true, plainKeys := false, apart := false }
def LimitDropsSaid : Prop := limitDropsRow.holds Try.pinned (OpenSpec.ofChange limitDropsSpec)

/-- ITS FALSE NEIGHBOUR: 'it returns false'. Refute it at one input. -/
def limitDropsWrong : ChangeSpec := { name := "limitDrops", fn := fun _ => fun
  | [d1, d2] => { results := [.lit (.bool false)], args := [d1, d2] }
  | _ => none }
def LimitDropsWrongFalsely : Prop := limitDropsRow.holds Try.pinned (OpenSpec.ofChange limitDropsWrong)

/-- 'gurneylaw14.LimitWithin': WHATEVER THE INPUT: true; the input reads as it did. -/
def limitWithinSpec : ChangeSpec := { name := "limitWithin", fn := fun _ => fun
  | [d1, d2] => { results := [.lit (.bool true)], args := [d1, d2] }
  | _ => none }
def limitWithinRow : OpenClaim := { program := "ytcloneccfbcclaa", sum := "bde3b2c5bac482b84ff5bfa88ee90d8894b7bcacfbbbb8f18808fcdc8a0ecb14", func := "gurney/gurneylaw14.LimitWithin", spec := "limitWithin", unfollowed := true, recurses := true, plainKeys := false, apart := false }
def LimitWithinSaid : Prop := limitWithinRow.holds Try.pinned (OpenSpec.ofChange limitWithinSpec)

/-- ITS FALSE NEIGHBOUR: 'it returns false'. Refute it at one input. -/
def limitWithinWrong : ChangeSpec := { name := "limitWithin", fn := fun _ => fun
  | [d1, d2] => { results := [.lit (.bool false)], args := [d1, d2] }
  | _ => none }
def LimitWithinWrongFalsely : Prop := limitWithinRow.holds Try.pinned (OpenSpec.ofChange limitWithinWrong)

/- THE SECOND FORM. 'bulk': how many values and letters a reading holds, each counted each time it is reached (what is shared counts as often as it is met; a slice's spare places count too). A statement '..UptoSaid' is the law's where the arguments, and the package variables that the reading takes, are together of bulk at most 1048576: NARROWER than '..Said'. Prove '..Said' where nothing that the law and all that it calls make is longer than what came in: it says more and counts as full. Else prove '..UptoSaid'. A law counts once. -/
mutual
def uptoBulk {H : Type} : DataW H → Nat
  | .lit (.string bytes) => bytes.length + 1
  | .lit _ => 1
  | .nil => 1
  | .ptr d => uptoBulk d + 1
  | .slice elems spare => uptoBulkAll elems + uptoBulkAll spare + 1
  | .agg parts => uptoBulkAll parts + 1
  | .iface _ d => uptoBulk d + 1
  | .map entries => uptoBulkEntries entries + 1
  | .held _ => 1
def uptoBulkAll {H : Type} : List (DataW H) → Nat
  | [] => 0
  | d :: r => uptoBulk d + uptoBulkAll r
def uptoBulkEntries {H : Type} : List (Lit × DataW H) → Nat
  | [] => 0
  | x :: r => uptoBulkEntry x + uptoBulkEntries r
def uptoBulkEntry {H : Type} : Lit × DataW H → Nat
  | (.string bytes, d) => bytes.length + uptoBulk d + 1
  | (_, d) => uptoBulk d + 1
 end
def uptoSmall : (H : Type) → List (DataW H) → Bool := fun _ ds => decide (uptoBulkAll ds ≤ 1048576)
def OpenSpec.upto (s : _root_.Go.ChangeSpec) : _root_.Go.OpenSpec := { _root_.Go.OpenSpec.ofChange s with cond := some uptoSmall }

/-- 'gurneylaw14.LimitActs', WHERE WHAT IT READS IS OF BULK AT MOST 1048576: true; the input reads as it did. -/
def limitActsUptoRow : OpenClaim := { program := "ytcloneccfbcclaa", sum := "bde3b2c5bac482b84ff5bfa88ee90d8894b7bcacfbbbb8f18808fcdc8a0ecb14", func := "gurney/gurneylaw14.LimitActs", spec := "limitActs", unfollowed := true, recurses := true, plainKeys := false, apart := false, narrowed := true }
def LimitActsUptoSaid : Prop := limitActsUptoRow.holds Try.pinned (OpenSpec.upto limitActsSpec)

/-- 'gurneylaw14.LimitCount', WHERE WHAT IT READS IS OF BULK AT MOST 1048576: true; the input reads as it did. -/
def limitCountUptoRow : OpenClaim := { program := "ytcloneccfbcclaa", sum := "bde3b2c5bac482b84ff5bfa88ee90d8894b7bcacfbbbb8f18808fcdc8a0ecb14", func := "gurney/gurneylaw14.LimitCount", spec := "limitCount", unfollowed := true, recurses := true, plainKeys := false, apart := false, narrowed := true }
def LimitCountUptoSaid : Prop := limitCountUptoRow.holds Try.pinned (OpenSpec.upto limitCountSpec)

/-- 'gurneylaw14.LimitApart', WHERE WHAT IT READS IS OF BULK AT MOST 1048576: true; the input reads as it did. -/
def limitApartUptoRow : OpenClaim := { program := "ytcloneccfbcclaa", sum := "bde3b2c5bac482b84ff5bfa88ee90d8894b7bcacfbbbb8f18808fcdc8a0ecb14", func := "gurney/gurneylaw14.LimitApart", spec := "limitApart", unfollowed := true, recurses := true, plainKeys := false, apart := false, narrowed := true }
def LimitApartUptoSaid : Prop := limitApartUptoRow.holds Try.pinned (OpenSpec.upto limitApartSpec)

/-- 'gurneylaw14.LimitSet', WHERE WHAT IT READS IS OF BULK AT MOST 1048576: true; the input reads as it did. -/
def limitSetUptoRow : OpenClaim := { program := "ytcloneccfbcclaa", sum := "bde3b2c5bac482b84ff5bfa88ee90d8894b7bcacfbbbb8f18808fcdc8a0ecb14", func := "gurney/gurneylaw14.LimitSet", spec := "limitSet", unfollowed := true, recurses := true, plainKeys := false, apart := false, narrowed := true }
def LimitSetUptoSaid : Prop := limitSetUptoRow.holds Try.pinned (OpenSpec.upto limitSetSpec)

/-- 'gurneylaw14.LimitDrops', WHERE WHAT IT READS IS OF BULK AT MOST 1048576: true; the input reads as it did. -/
def limitDropsUptoRow : OpenClaim := { program := "ytcloneccfbcclaa", sum := "bde3b2c5bac482b84ff5bfa88ee90d8894b7bcacfbbbb8f18808fcdc8a0ecb14", func := "gurney/gurneylaw14.LimitDrops", spec := "limitDrops", unfollowed := true, recurses := true, plainKeys := false, apart := false, narrowed := true }
def LimitDropsUptoSaid : Prop := limitDropsUptoRow.holds Try.pinned (OpenSpec.upto limitDropsSpec)

/-- 'gurneylaw14.LimitWithin', WHERE WHAT IT READS IS OF BULK AT MOST 1048576: true; the input reads as it did. -/
def limitWithinUptoRow : OpenClaim := { program := "ytcloneccfbcclaa", sum := "bde3b2c5bac482b84ff5bfa88ee90d8894b7bcacfbbbb8f18808fcdc8a0ecb14", func := "gurney/gurneylaw14.LimitWithin", spec := "limitWithin", unfollowed := true, recurses := true, plainKeys := false, apart := false, narrowed := true }
def LimitWithinUptoSaid : Prop := limitWithinUptoRow.holds Try.pinned (OpenSpec.upto limitWithinSpec)

end Rows
end Go.Proofs.Ytcloneccfbcclaa
