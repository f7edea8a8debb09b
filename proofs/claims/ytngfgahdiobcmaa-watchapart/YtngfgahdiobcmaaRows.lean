/-
  No cell of these rows narrows 'for every input' (looked for: loops, veiled, ifaces, maps, wideKeys, modest, calm, conditions, laid).
  DERIVED. THE GIVEN ROWS OF THIS SEAT. 6 by the template 'for every input the law returns true; each argument reads behind the call as it read before'; 0 by the template 'total and deterministic' (their statements: YtngfgahdiobcmaaTotals.lean).
  GIVEN WITH THE SEED: the statements are not yours to turn. If you find one false, say at which input.
  Laid BY PROGRAM, IN A SANDBOX (cutbox-rows.mjs): the forced cells as the released guide's own fill.sh prints them over the translation 8fde872a5db7f8ea… (all of the seat's roots in one cut). By AI agents, Wed Nov 11 2026. No macro, syntax, notation, axiom, sorry.
-/
import Derived.Test.YtngfgahdiobcmaaChecked
import GoSem.Claim
import GoSem.ClaimJoined
import GoSem.ClaimMapViews
import Derived.JoinedTies
import Derived.KernelRfl
namespace Go.Proofs.Ytngfgahdiobcmaa
/- THE CELL 'sum', in the pinned program and in every row, IS THE sha256 OF THE DUMP (.gsa) THAT YtngfgahdiobcmaaProg.lean LOADS. Nothing in Lean hashes anything: it is a label: what it is worth is what the hold of that sum in a sandbox is worth. -/
noncomputable def Try.pinned : Pinned := { name := "ytngfgahdiobcmaa", sum := "8fde872a5db7f8eacc9c5bbf389d86a27cb5cc6473831ccc4c301b1f6d62c834", checked := Try.checked }
namespace Rows
def none {H : Type} : Left H := { results := [], args := [] }

/-- 'gurneylaw15.WatchActs': WHATEVER THE INPUT: true; the input reads as it did. -/
def watchActsSpec : ChangeSpec := { name := "watchActs", fn := fun _ => fun
  | [d] => { results := [.lit (.bool true)], args := [d] }
  | _ => none }
def watchActsRow : OpenClaim := { program := "ytngfgahdiobcmaa", sum := "8fde872a5db7f8eacc9c5bbf389d86a27cb5cc6473831ccc4c301b1f6d62c834", func := "gurney/gurneylaw15.WatchActs", spec := "watchActs", unfollowed := true, recurses := true, apart := false }
def WatchActsSaid : Prop := watchActsRow.holds Try.pinned (OpenSpec.ofChange watchActsSpec)

/-- ITS FALSE NEIGHBOUR: 'it returns false'. Refute it at one input. -/
def watchActsWrong : ChangeSpec := { name := "watchActs", fn := fun _ => fun
  | [d] => { results := [.lit (.bool false)], args := [d] }
  | _ => none }
def WatchActsWrongFalsely : Prop := watchActsRow.holds Try.pinned (OpenSpec.ofChange watchActsWrong)

/-- 'gurneylaw15.WatchSilence': WHATEVER THE INPUT: true; the input reads as it did. -/
def watchSilenceSpec : ChangeSpec := { name := "watchSilence", fn := fun _ => fun
  | [d1, d2, d3] => { results := [.lit (.bool true)], args := [d1, d2, d3] }
  | _ => none }
def watchSilenceRow : OpenClaim := { program := "ytngfgahdiobcmaa", sum := "8fde872a5db7f8eacc9c5bbf389d86a27cb5cc6473831ccc4c301b1f6d62c834", func := "gurney/gurneylaw15.WatchSilence", spec := "watchSilence", unfollowed := true, recurses := true, apart := false }
def WatchSilenceSaid : Prop := watchSilenceRow.holds Try.pinned (OpenSpec.ofChange watchSilenceSpec)

/-- ITS FALSE NEIGHBOUR: 'it returns false'. Refute it at one input. -/
def watchSilenceWrong : ChangeSpec := { name := "watchSilence", fn := fun _ => fun
  | [d1, d2, d3] => { results := [.lit (.bool false)], args := [d1, d2, d3] }
  | _ => none }
def WatchSilenceWrongFalsely : Prop := watchSilenceRow.holds Try.pinned (OpenSpec.ofChange watchSilenceWrong)

/-- 'gurneylaw15.WatchApart': WHATEVER THE INPUT: true; the input reads as it did. -/
def watchApartSpec : ChangeSpec := { name := "watchApart", fn := fun _ => fun
  | [d1, d2] => { results := [.lit (.bool true)], args := [d1, d2] }
  | _ => none }
def watchApartRow : OpenClaim := { program := "ytngfgahdiobcmaa", sum := "8fde872a5db7f8eacc9c5bbf389d86a27cb5cc6473831ccc4c301b1f6d62c834", func := "gurney/gurneylaw15.WatchApart", spec := "watchApart", unfollowed := true, recurses := true, apart := false }
def WatchApartSaid : Prop := watchApartRow.holds Try.pinned (OpenSpec.ofChange watchApartSpec)

/-- ITS FALSE NEIGHBOUR: 'it returns false'. Refute it at one input. -/
def watchApartWrong : ChangeSpec := { name := "watchApart", fn := fun _ => fun
  | [d1, d2] => { results := [.lit (.bool false)], args := [d1, d2] }
  | _ => none }
def WatchApartWrongFalsely : Prop := watchApartRow.holds Try.pinned (OpenSpec.ofChange watchApartWrong)

/-- 'gurneylaw15.WatchComes': WHATEVER THE INPUT: true; the input reads as it did. -/
def watchComesSpec : ChangeSpec := { name := "watchComes", fn := fun _ => fun
  | [d1, d2, d3] => { results := [.lit (.bool true)], args := [d1, d2, d3] }
  | _ => none }
def watchComesRow : OpenClaim := { program := "ytngfgahdiobcmaa", sum := "8fde872a5db7f8eacc9c5bbf389d86a27cb5cc6473831ccc4c301b1f6d62c834", func := "gurney/gurneylaw15.WatchComes", spec := "watchComes", unfollowed := true, recurses := true, apart := false }
def WatchComesSaid : Prop := watchComesRow.holds Try.pinned (OpenSpec.ofChange watchComesSpec)

/-- ITS FALSE NEIGHBOUR: 'it returns false'. Refute it at one input. -/
def watchComesWrong : ChangeSpec := { name := "watchComes", fn := fun _ => fun
  | [d1, d2, d3] => { results := [.lit (.bool false)], args := [d1, d2, d3] }
  | _ => none }
def WatchComesWrongFalsely : Prop := watchComesRow.holds Try.pinned (OpenSpec.ofChange watchComesWrong)

/-- 'gurneylaw15.WatchFound': WHATEVER THE INPUT: true; the input reads as it did. -/
def watchFoundSpec : ChangeSpec := { name := "watchFound", fn := fun _ => fun
  | [d1, d2] => { results := [.lit (.bool true)], args := [d1, d2] }
  | _ => none }
def watchFoundRow : OpenClaim := { program := "ytngfgahdiobcmaa", sum := "8fde872a5db7f8eacc9c5bbf389d86a27cb5cc6473831ccc4c301b1f6d62c834", func := "gurney/gurneylaw15.WatchFound", spec := "watchFound", unfollowed := true, recurses := true, apart := false }
def WatchFoundSaid : Prop := watchFoundRow.holds Try.pinned (OpenSpec.ofChange watchFoundSpec)

/-- ITS FALSE NEIGHBOUR: 'it returns false'. Refute it at one input. -/
def watchFoundWrong : ChangeSpec := { name := "watchFound", fn := fun _ => fun
  | [d1, d2] => { results := [.lit (.bool false)], args := [d1, d2] }
  | _ => none }
def WatchFoundWrongFalsely : Prop := watchFoundRow.holds Try.pinned (OpenSpec.ofChange watchFoundWrong)

/-- 'gurneylaw15.WatchOrder': WHATEVER THE INPUT: true; the input reads as it did. -/
def watchOrderSpec : ChangeSpec := { name := "watchOrder", fn := fun _ => fun
  | [d1, d2] => { results := [.lit (.bool true)], args := [d1, d2] }
  | _ => none }
def watchOrderRow : OpenClaim := { program := "ytngfgahdiobcmaa", sum := "8fde872a5db7f8eacc9c5bbf389d86a27cb5cc6473831ccc4c301b1f6d62c834", func := "gurney/gurneylaw15.WatchOrder", spec := "watchOrder", unfollowed := true, recurses := true, apart := false }
def WatchOrderSaid : Prop := watchOrderRow.holds Try.pinned (OpenSpec.ofChange watchOrderSpec)

/-- ITS FALSE NEIGHBOUR: 'it returns false'. Refute it at one input. -/
def watchOrderWrong : ChangeSpec := { name := "watchOrder", fn := fun _ => fun
  | [d1, d2] => { results := [.lit (.bool false)], args := [d1, d2] }
  | _ => none }
def WatchOrderWrongFalsely : Prop := watchOrderRow.holds Try.pinned (OpenSpec.ofChange watchOrderWrong)

/- THE SECOND FORM. 'bulk': how many values and letters a reading holds, each counted each time it is reached (what is shared counts as often as it is met; a slice's spare places count too). A statement '..UptoSaid' is the law's where the arguments, and the package variables that the reading takes, are together of bulk at most 1048576: NARROWER than '..Said'. Prove '..Said' where nothing that the law and all that it calls make is longer than what came in: it says more and counts as full. Else prove '..UptoSaid'. A law counts once. -/
mutual
def uptoBulk {H : Type} : DataW H → Nat
  | .lit (.string bytes) => bytes.length + 1
  | .lit _ => 1
  | .nil => 1
  | .ptr d => uptoBulk d + 1
  | .slice elems spare => uptoBulkAll elems + uptoBulkAll spare + 1
  | .agg parts => uptoBulkAll parts + 1
  | .iface _ d => uptoBulk d + 1
  | .map entries => uptoBulkEntries entries + 1
  | .held _ => 1
def uptoBulkAll {H : Type} : List (DataW H) → Nat
  | [] => 0
  | d :: r => uptoBulk d + uptoBulkAll r
def uptoBulkEntries {H : Type} : List (Lit × DataW H) → Nat
  | [] => 0
  | x :: r => uptoBulkEntry x + uptoBulkEntries r
def uptoBulkEntry {H : Type} : Lit × DataW H → Nat
  | (.string bytes, d) => bytes.length + uptoBulk d + 1
  | (_, d) => uptoBulk d + 1
 end
def uptoSmall : (H : Type) → List (DataW H) → Bool := fun _ ds => decide (uptoBulkAll ds ≤ 1048576)
def OpenSpec.upto (s : _root_.Go.ChangeSpec) : _root_.Go.OpenSpec := { _root_.Go.OpenSpec.ofChange s with cond := some uptoSmall }

/-- 'gurneylaw15.WatchActs', WHERE WHAT IT READS IS OF BULK AT MOST 1048576: true; the input reads as it did. -/
def watchActsUptoRow : OpenClaim := { program := "ytngfgahdiobcmaa", sum := "8fde872a5db7f8eacc9c5bbf389d86a27cb5cc6473831ccc4c301b1f6d62c834", func := "gurney/gurneylaw15.WatchActs", spec := "watchActs", unfollowed := true, recurses := true, apart := false, narrowed := true }
def WatchActsUptoSaid : Prop := watchActsUptoRow.holds Try.pinned (OpenSpec.upto watchActsSpec)

/-- 'gurneylaw15.WatchSilence', WHERE WHAT IT READS IS OF BULK AT MOST 1048576: true; the input reads as it did. -/
def watchSilenceUptoRow : OpenClaim := { program := "ytngfgahdiobcmaa", sum := "8fde872a5db7f8eacc9c5bbf389d86a27cb5cc6473831ccc4c301b1f6d62c834", func := "gurney/gurneylaw15.WatchSilence", spec := "watchSilence", unfollowed := true, recurses := true, apart := false, narrowed := true }
def WatchSilenceUptoSaid : Prop := watchSilenceUptoRow.holds Try.pinned (OpenSpec.upto watchSilenceSpec)

/-- 'gurneylaw15.WatchApart', WHERE WHAT IT READS IS OF BULK AT MOST 1048576: true; the input reads as it did. -/
def watchApartUptoRow : OpenClaim := { program := "ytngfgahdiobcmaa", sum := "8fde872a5db7f8eacc9c5bbf389d86a27cb5cc6473831ccc4c301b1f6d62c834", func := "gurney/gurneylaw15.WatchApart", spec := "watchApart", unfollowed := true, recurses := true, apart := false, narrowed := true }
def WatchApartUptoSaid : Prop := watchApartUptoRow.holds Try.pinned (OpenSpec.upto watchApartSpec)

/-- 'gurneylaw15.WatchComes', WHERE WHAT IT READS IS OF BULK AT MOST 1048576: true; the input reads as it did. -/
def watchComesUptoRow : OpenClaim := { program := "ytngfgahdiobcmaa", sum := "8fde872a5db7f8eacc9c5bbf389d86a27cb5cc6473831ccc4c301b1f6d62c834", func := "gurney/gurneylaw15.WatchComes", spec := "watchComes", unfollowed := true, recurses := true, apart := false, narrowed := true }
def WatchComesUptoSaid : Prop := watchComesUptoRow.holds Try.pinned (OpenSpec.upto watchComesSpec)

/-- 'gurneylaw15.WatchFound', WHERE WHAT IT READS IS OF BULK AT MOST 1048576: true; the input reads as it did. -/
def watchFoundUptoRow : OpenClaim := { program := "ytngfgahdiobcmaa", sum := "8fde872a5db7f8eacc9c5bbf389d86a27cb5cc6473831ccc4c301b1f6d62c834", func := "gurney/gurneylaw15.WatchFound", spec := "watchFound", unfollowed := true, recurses := true, apart := false, narrowed := true }
def WatchFoundUptoSaid : Prop := watchFoundUptoRow.holds Try.pinned (OpenSpec.upto watchFoundSpec)

/-- 'gurneylaw15.WatchOrder', WHERE WHAT IT READS IS OF BULK AT MOST 1048576: true; the input reads as it did. -/
def watchOrderUptoRow : OpenClaim := { program := "ytngfgahdiobcmaa", sum := "8fde872a5db7f8eacc9c5bbf389d86a27cb5cc6473831ccc4c301b1f6d62c834", func := "gurney/gurneylaw15.WatchOrder", spec := "watchOrder", unfollowed := true, recurses := true, apart := false, narrowed := true }
def WatchOrderUptoSaid : Prop := watchOrderUptoRow.holds Try.pinned (OpenSpec.upto watchOrderSpec)

end Rows
end Go.Proofs.Ytngfgahdiobcmaa
