/-
  No cell of these rows narrows 'for every input' (looked for: loops, veiled, ifaces, maps, wideKeys, modest, calm, conditions, laid).
  DERIVED. THE GIVEN ROWS OF THIS SEAT. 6 by the template 'for every input the law returns true; each argument reads behind the call as it read before'; 0 by the template 'total and deterministic' (their statements: YtceekoifljeddaaTotals.lean).
  GIVEN WITH THE SEED: the statements are not yours to turn. If you find one false, say at which input.
  Laid BY PROGRAM, IN A SANDBOX (cutbox-rows.mjs): the forced cells as the released guide's own fill.sh prints them over the translation e8511ad351c095f7… (all of the seat's roots in one cut). By AI agents, Wed Nov 11 2026. No macro, syntax, notation, axiom, sorry.
-/
import Derived.Test.YtceekoifljeddaaChecked
import GoSem.Claim
import GoSem.ClaimJoined
import GoSem.ClaimMapViews
import Derived.JoinedTies
import Derived.KernelRfl
namespace Go.Proofs.Ytceekoifljeddaa
/- THE CELL 'sum', in the pinned program and in every row, IS THE sha256 OF THE DUMP (.gsa) THAT YtceekoifljeddaaProg.lean LOADS. Nothing in Lean hashes anything: it is a label: what it is worth is what the hold of that sum in a sandbox is worth. -/
noncomputable def Try.pinned : Pinned := { name := "ytceekoifljeddaa", sum := "e8511ad351c095f7964a5a636ec7f6b04bb2b5ea498c6f0d3c448e2cf4676b75", checked := Try.checked }
namespace Rows
def none {H : Type} : Left H := { results := [], args := [] }

/-- 'gurneylaw07.CollectActs': WHATEVER THE INPUT: true; the input reads as it did. -/
def collectActsSpec : ChangeSpec := { name := "collectActs", fn := fun _ => fun
  | [d1, d2, d3] => { results := [.lit (.bool true)], args := [d1, d2, d3] }
  | _ => none }
def collectActsRow : OpenClaim := { program := "ytceekoifljeddaa", sum := "e8511ad351c095f7964a5a636ec7f6b04bb2b5ea498c6f0d3c448e2cf4676b75", func := "gurney/gurneylaw07.CollectActs", spec := "collectActs", unfollowed := true, recurses := true, plainKeys := false, apart := false }
def CollectActsSaid : Prop := collectActsRow.holds Try.pinned (OpenSpec.ofChange collectActsSpec)

/-- ITS FALSE NEIGHBOUR: 'it returns false'. Refute it at one input. -/
def collectActsWrong : ChangeSpec := { name := "collectActs", fn := fun _ => fun
  | [d1, d2, d3] => { results := [.lit (.bool false)], args := [d1, d2, d3] }
  | _ => none }
def CollectActsWrongFalsely : Prop := collectActsRow.holds Try.pinned (OpenSpec.ofChange collectActsWrong)

/-- 'gurneylaw07.CollectOrder': WHATEVER THE INPUT: true; the input reads as it did. -/
def collectOrderSpec : ChangeSpec := { name := "collectOrder", fn := fun _ => fun
  | [d1, d2, d3, d4] => { results := [.lit (.bool true)], args := [d1, d2, d3, d4] }
  | _ => none }
def collectOrderRow : OpenClaim := { program := "ytceekoifljeddaa", sum := "e8511ad351c095f7964a5a636ec7f6b04bb2b5ea498c6f0d3c448e2cf4676b75", func := "gurney/gurneylaw07.CollectOrder", spec := "collectOrder", unfollowed := true, recurses := true, plainKeys := false, apart := false }
def CollectOrderSaid : Prop := collectOrderRow.holds Try.pinned (OpenSpec.ofChange collectOrderSpec)

/-- ITS FALSE NEIGHBOUR: 'it returns false'. Refute it at one input. -/
def collectOrderWrong : ChangeSpec := { name := "collectOrder", fn := fun _ => fun
  | [d1, d2, d3, d4] => { results := [.lit (.bool false)], args := [d1, d2, d3, d4] }
  | _ => none }
def CollectOrderWrongFalsely : Prop := collectOrderRow.holds Try.pinned (OpenSpec.ofChange collectOrderWrong)

/-- 'gurneylaw07.CollectGaps': WHATEVER THE INPUT: true; the input reads as it did. -/
def collectGapsSpec : ChangeSpec := { name := "collectGaps", fn := fun _ => fun
  | [d1, d2, d3, d4, d5] => { results := [.lit (.bool true)], args := [d1, d2, d3, d4, d5] }
  | _ => none }
def collectGapsRow : OpenClaim := { program := "ytceekoifljeddaa", sum := "e8511ad351c095f7964a5a636ec7f6b04bb2b5ea498c6f0d3c448e2cf4676b75", func := "gurney/gurneylaw07.CollectGaps", spec := "collectGaps", unfollowed := true, recurses := true, plainKeys := false, apart := false }
def CollectGapsSaid : Prop := collectGapsRow.holds Try.pinned (OpenSpec.ofChange collectGapsSpec)

/-- ITS FALSE NEIGHBOUR: 'it returns false'. Refute it at one input. -/
def collectGapsWrong : ChangeSpec := { name := "collectGaps", fn := fun _ => fun
  | [d1, d2, d3, d4, d5] => { results := [.lit (.bool false)], args := [d1, d2, d3, d4, d5] }
  | _ => none }
def CollectGapsWrongFalsely : Prop := collectGapsRow.holds Try.pinned (OpenSpec.ofChange collectGapsWrong)

/-- 'gurneylaw07.CollectBase': WHATEVER THE INPUT: true; the input reads as it did. -/
def collectBaseSpec : ChangeSpec := { name := "collectBase", fn := fun _ => fun
  | [d1, d2, d3] => { results := [.lit (.bool true)], args := [d1, d2, d3] }
  | _ => none }
def collectBaseRow : OpenClaim := { program := "ytceekoifljeddaa", sum := "e8511ad351c095f7964a5a636ec7f6b04bb2b5ea498c6f0d3c448e2cf4676b75", func := "gurney/gurneylaw07.CollectBase", spec := "collectBase", unfollowed := true, recurses := true, plainKeys := false, apart := false }
def CollectBaseSaid : Prop := collectBaseRow.holds Try.pinned (OpenSpec.ofChange collectBaseSpec)

/-- ITS FALSE NEIGHBOUR: 'it returns false'. Refute it at one input. -/
def collectBaseWrong : ChangeSpec := { name := "collectBase", fn := fun _ => fun
  | [d1, d2, d3] => { results := [.lit (.bool false)], args := [d1, d2, d3] }
  | _ => none }
def CollectBaseWrongFalsely : Prop := collectBaseRow.holds Try.pinned (OpenSpec.ofChange collectBaseWrong)

/-- 'gurneylaw07.CollectApart': WHATEVER THE INPUT: true; the input reads as it did. -/
def collectApartSpec : ChangeSpec := { name := "collectApart", fn := fun _ => fun
  | [d1, d2, d3, d4] => { results := [.lit (.bool true)], args := [d1, d2, d3, d4] }
  | _ => none }
def collectApartRow : OpenClaim := { program := "ytceekoifljeddaa", sum := "e8511ad351c095f7964a5a636ec7f6b04bb2b5ea498c6f0d3c448e2cf4676b75", func := "gurney/gurneylaw07.CollectApart", spec := "collectApart", unfollowed := true, recurses := true, plainKeys := false, apart := false }
def CollectApartSaid : Prop := collectApartRow.holds Try.pinned (OpenSpec.ofChange collectApartSpec)

/-- ITS FALSE NEIGHBOUR: 'it returns false'. Refute it at one input. -/
def collectApartWrong : ChangeSpec := { name := "collectApart", fn := fun _ => fun
  | [d1, d2, d3, d4] => { results := [.lit (.bool false)], args := [d1, d2, d3, d4] }
  | _ => none }
def CollectApartWrongFalsely : Prop := collectApartRow.holds Try.pinned (OpenSpec.ofChange collectApartWrong)

/-- 'gurneylaw07.CollectHave': WHATEVER THE INPUT: true; the input reads as it did. -/
def collectHaveSpec : ChangeSpec := { name := "collectHave", fn := fun _ => fun
  | [d1, d2, d3] => { results := [.lit (.bool true)], args := [d1, d2, d3] }
  | _ => none }
def collectHaveRow : OpenClaim := { program := "ytceekoifljeddaa", sum := "e8511ad351c095f7964a5a636ec7f6b04bb2b5ea498c6f0d3c448e2cf4676b75", func := "gurney/gurneylaw07.CollectHave", spec := "collectHave", unfollowed := true, recurses := true, plainKeys := false, apart := false }
def CollectHaveSaid : Prop := collectHaveRow.holds Try.pinned (OpenSpec.ofChange collectHaveSpec)

/-- ITS FALSE NEIGHBOUR: 'it returns false'. Refute it at one input. -/
def collectHaveWrong : ChangeSpec := { name := "collectHave", fn := fun _ => fun
  | [d1, d2, d3] => { results := [.lit (.bool false)], args := [d1, d2, d3] }
  | _ => none }
def CollectHaveWrongFalsely : Prop := collectHaveRow.holds Try.pinned (OpenSpec.ofChange collectHaveWrong)

/- THE SECOND FORM. 'bulk': how many values and letters a reading holds, each counted each time it is reached (what is shared counts as often as it is met; a slice's spare places count too). A statement '..UptoSaid' is the law's where the arguments, and the package variables that the reading takes, are together of bulk at most 1048576: NARROWER than '..Said'. Prove '..Said' where nothing that the law and all that it calls make is longer than what came in: it says more and counts as full. Else prove '..UptoSaid'. A law counts once. -/
mutual
def uptoBulk {H : Type} : DataW H → Nat
  | .lit (.string bytes) => bytes.length + 1
  | .lit _ => 1
  | .nil => 1
  | .ptr d => uptoBulk d + 1
  | .slice elems spare => uptoBulkAll elems + uptoBulkAll spare + 1
  | .agg parts => uptoBulkAll parts + 1
  | .iface _ d => uptoBulk d + 1
  | .map entries => uptoBulkEntries entries + 1
  | .held _ => 1
def uptoBulkAll {H : Type} : List (DataW H) → Nat
  | [] => 0
  | d :: r => uptoBulk d + uptoBulkAll r
def uptoBulkEntries {H : Type} : List (Lit × DataW H) → Nat
  | [] => 0
  | x :: r => uptoBulkEntry x + uptoBulkEntries r
def uptoBulkEntry {H : Type} : Lit × DataW H → Nat
  | (.string bytes, d) => bytes.length + uptoBulk d + 1
  | (_, d) => uptoBulk d + 1
 end
def uptoSmall : (H : Type) → List (DataW H) → Bool := fun _ ds => decide (uptoBulkAll ds ≤ 1048576)
def OpenSpec.upto (s : _root_.Go.ChangeSpec) : _root_.Go.OpenSpec := { _root_.Go.OpenSpec.ofChange s with cond := some uptoSmall }

/-- 'gurneylaw07.CollectActs', WHERE WHAT IT READS IS OF BULK AT MOST 1048576: true; the input reads as it did. -/
def collectActsUptoRow : OpenClaim := { program := "ytceekoifljeddaa", sum := "e8511ad351c095f7964a5a636ec7f6b04bb2b5ea498c6f0d3c448e2cf4676b75", func := "gurney/gurneylaw07.CollectActs", spec := "collectActs", unfollowed := true, recurses := true, plainKeys := false, apart := false, narrowed := true }
def CollectActsUptoSaid : Prop := collectActsUptoRow.holds Try.pinned (OpenSpec.upto collectActsSpec)

/-- 'gurneylaw07.CollectOrder', WHERE WHAT IT READS IS OF BULK AT MOST 1048576: true; the input reads as it did. -/
def collectOrderUptoRow : OpenClaim := { program := "ytceekoifljeddaa", sum := "e8511ad351c095f7964a5a636ec7f6b04bb2b5ea498c6f0d3c448e2cf4676b75", func := "gurney/gurneylaw07.CollectOrder", spec := "collectOrder", unfollowed := true, recurses := true, plainKeys := false, apart := false, narrowed := true }
def CollectOrderUptoSaid : Prop := collectOrderUptoRow.holds Try.pinned (OpenSpec.upto collectOrderSpec)

/-- 'gurneylaw07.CollectGaps', WHERE WHAT IT READS IS OF BULK AT MOST 1048576: true; the input reads as it did. -/
def collectGapsUptoRow : OpenClaim := { program := "ytceekoifljeddaa", sum := "e8511ad351c095f7964a5a636ec7f6b04bb2b5ea498c6f0d3c448e2cf4676b75", func := "gurney/gurneylaw07.CollectGaps", spec := "collectGaps", unfollowed := true, recurses := true, plainKeys := false, apart := false, narrowed := true }
def CollectGapsUptoSaid : Prop := collectGapsUptoRow.holds Try.pinned (OpenSpec.upto collectGapsSpec)

/-- 'gurneylaw07.CollectBase', WHERE WHAT IT READS IS OF BULK AT MOST 1048576: true; the input reads as it did. -/
def collectBaseUptoRow : OpenClaim := { program := "ytceekoifljeddaa", sum := "e8511ad351c095f7964a5a636ec7f6b04bb2b5ea498c6f0d3c448e2cf4676b75", func := "gurney/gurneylaw07.CollectBase", spec := "collectBase", unfollowed := true, recurses := true, plainKeys := false, apart := false, narrowed := true }
def CollectBaseUptoSaid : Prop := collectBaseUptoRow.holds Try.pinned (OpenSpec.upto collectBaseSpec)

/-- 'gurneylaw07.CollectApart', WHERE WHAT IT READS IS OF BULK AT MOST 1048576: true; the input reads as it did. -/
def collectApartUptoRow : OpenClaim := { program := "ytceekoifljeddaa", sum := "e8511ad351c095f7964a5a636ec7f6b04bb2b5ea498c6f0d3c448e2cf4676b75", func := "gurney/gurneylaw07.CollectApart", spec := "collectApart", unfollowed := true, recurses := true, plainKeys := false, apart := false, narrowed := true }
def CollectApartUptoSaid : Prop := collectApartUptoRow.holds Try.pinned (OpenSpec.upto collectApartSpec)

/-- 'gurneylaw07.CollectHave', WHERE WHAT IT READS IS OF BULK AT MOST 1048576: true; the input reads as it did. -/
def collectHaveUptoRow : OpenClaim := { program := "ytceekoifljeddaa", sum := "e8511ad351c095f7964a5a636ec7f6b04bb2b5ea498c6f0d3c448e2cf4676b75", func := "gurney/gurneylaw07.CollectHave", spec := "collectHave", unfollowed := true, recurses := true, plainKeys := false, apart := false, narrowed := true }
def CollectHaveUptoSaid : Prop := collectHaveUptoRow.holds Try.pinned (OpenSpec.upto collectHaveSpec)

end Rows
end Go.Proofs.Ytceekoifljeddaa
