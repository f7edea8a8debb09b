/-
  No cell of these rows narrows 'for every input' (looked for: loops, veiled, ifaces, maps, wideKeys, modest, calm, conditions, laid).
  DERIVED. THE GIVEN ROWS OF THIS SEAT. 6 by the template 'for every input the law returns true; each argument reads behind the call as it read before'; 0 by the template 'total and deterministic' (their statements: YtbeeigfcchjdlaaTotals.lean).
  GIVEN WITH THE SEED: the statements are not yours to turn. If you find one false, say at which input.
  Laid BY PROGRAM, IN A SANDBOX (cutbox-rows.mjs): the forced cells as the released guide's own fill.sh prints them over the translation 50c5916744fd7795… (all of the seat's roots in one cut). By AI agents, Wed Nov 11 2026. No macro, syntax, notation, axiom, sorry.
-/
import Derived.Test.YtbeeigfcchjdlaaChecked
import GoSem.Claim
import GoSem.ClaimJoined
import GoSem.ClaimMapViews
import Derived.JoinedTies
import Derived.KernelRfl
namespace Go.Proofs.Ytbeeigfcchjdlaa
/- THE CELL 'sum', in the pinned program and in every row, IS THE sha256 OF THE DUMP (.gsa) THAT YtbeeigfcchjdlaaProg.lean LOADS. Nothing in Lean hashes anything: it is a label: what it is worth is what the hold of that sum in a sandbox is worth. -/
noncomputable def Try.pinned : Pinned := { name := "ytbeeigfcchjdlaa", sum := "50c5916744fd77953eeac0a396854e7795f2e8b46323767e2f113ca4226426e0", checked := Try.checked }
namespace Rows
def none {H : Type} : Left H := { results := [], args := [] }

/-- 'gurneylaw16.PanelActs': WHATEVER THE INPUT: true; the input reads as it did. -/
def panelActsSpec : ChangeSpec := { name := "panelActs", fn := fun _ => fun
  | [d] => { results := [.lit (.bool true)], args := [d] }
  | _ => none }
def panelActsRow : OpenClaim := { program := "ytbeeigfcchjdlaa", sum := "50c5916744fd77953eeac0a396854e7795f2e8b46323767e2f113ca4226426e0", func := "gurney/gurneylaw16.PanelActs", spec := "panelActs", unfollowed := true, recurses := true, apart := false }
def PanelActsSaid : Prop := panelActsRow.holds Try.pinned (OpenSpec.ofChange panelActsSpec)

/-- ITS FALSE NEIGHBOUR: 'it returns false'. Refute it at one input. -/
def panelActsWrong : ChangeSpec := { name := "panelActs", fn := fun _ => fun
  | [d] => { results := [.lit (.bool false)], args := [d] }
  | _ => none }
def PanelActsWrongFalsely : Prop := panelActsRow.holds Try.pinned (OpenSpec.ofChange panelActsWrong)

/-- 'gurneylaw16.PanelStays': WHATEVER THE INPUT: true; the input reads as it did. -/
def panelStaysSpec : ChangeSpec := { name := "panelStays", fn := fun _ => fun
  | [d1, d2, d3, d4] => { results := [.lit (.bool true)], args := [d1, d2, d3, d4] }
  | _ => none }
def panelStaysRow : OpenClaim := { program := "ytbeeigfcchjdlaa", sum := "50c5916744fd77953eeac0a396854e7795f2e8b46323767e2f113ca4226426e0", func := "gurney/gurneylaw16.PanelStays", spec := "panelStays", unfollowed := true, recurses := true, apart := false }
def PanelStaysSaid : Prop := panelStaysRow.holds Try.pinned (OpenSpec.ofChange panelStaysSpec)

/-- ITS FALSE NEIGHBOUR: 'it returns false'. Refute it at one input. -/
def panelStaysWrong : ChangeSpec := { name := "panelStays", fn := fun _ => fun
  | [d1, d2, d3, d4] => { results := [.lit (.bool false)], args := [d1, d2, d3, d4] }
  | _ => none }
def PanelStaysWrongFalsely : Prop := panelStaysRow.holds Try.pinned (OpenSpec.ofChange panelStaysWrong)

/-- 'gurneylaw16.PanelOrder': WHATEVER THE INPUT: true; the input reads as it did. -/
def panelOrderSpec : ChangeSpec := { name := "panelOrder", fn := fun _ => fun
  | [d] => { results := [.lit (.bool true)], args := [d] }
  | _ => none }
def panelOrderRow : OpenClaim := { program := "ytbeeigfcchjdlaa", sum := "50c5916744fd77953eeac0a396854e7795f2e8b46323767e2f113ca4226426e0", func := "gurney/gurneylaw16.PanelOrder", spec := "panelOrder", unfollowed := true, recurses := true, apart := false }
def PanelOrderSaid : Prop := panelOrderRow.holds Try.pinned (OpenSpec.ofChange panelOrderSpec)

/-- ITS FALSE NEIGHBOUR: 'it returns false'. Refute it at one input. -/
def panelOrderWrong : ChangeSpec := { name := "panelOrder", fn := fun _ => fun
  | [d] => { results := [.lit (.bool false)], args := [d] }
  | _ => none }
def PanelOrderWrongFalsely : Prop := panelOrderRow.holds Try.pinned (OpenSpec.ofChange panelOrderWrong)

/-- 'gurneylaw16.PanelMany': WHATEVER THE INPUT: true; the input reads as it did. -/
def panelManySpec : ChangeSpec := { name := "panelMany", fn := fun _ => fun
  | [d] => { results := [.lit (.bool true)], args := [d] }
  | _ => none }
def panelManyRow : OpenClaim := { program := "ytbeeigfcchjdlaa", sum := "50c5916744fd77953eeac0a396854e7795f2e8b46323767e2f113ca4226426e0", func := "gurney/gurneylaw16.PanelMany", spec := "panelMany", unfollowed := true, recurses := true, apart := false }
def PanelManySaid : Prop := panelManyRow.holds Try.pinned (OpenSpec.ofChange panelManySpec)

/-- ITS FALSE NEIGHBOUR: 'it returns false'. Refute it at one input. -/
def panelManyWrong : ChangeSpec := { name := "panelMany", fn := fun _ => fun
  | [d] => { results := [.lit (.bool false)], args := [d] }
  | _ => none }
def PanelManyWrongFalsely : Prop := panelManyRow.holds Try.pinned (OpenSpec.ofChange panelManyWrong)

/-- 'gurneylaw16.PanelSounds': WHATEVER THE INPUT: true; the input reads as it did. -/
def panelSoundsSpec : ChangeSpec := { name := "panelSounds", fn := fun _ => fun
  | [d1, d2, d3] => { results := [.lit (.bool true)], args := [d1, d2, d3] }
  | _ => none }
def panelSoundsRow : OpenClaim := { program := "ytbeeigfcchjdlaa", sum := "50c5916744fd77953eeac0a396854e7795f2e8b46323767e2f113ca4226426e0", func := "gurney/gurneylaw16.PanelSounds", spec := "panelSounds", unfollowed := true, recurses := true, apart := false }
def PanelSoundsSaid : Prop := panelSoundsRow.holds Try.pinned (OpenSpec.ofChange panelSoundsSpec)

/-- ITS FALSE NEIGHBOUR: 'it returns false'. Refute it at one input. -/
def panelSoundsWrong : ChangeSpec := { name := "panelSounds", fn := fun _ => fun
  | [d1, d2, d3] => { results := [.lit (.bool false)], args := [d1, d2, d3] }
  | _ => none }
def PanelSoundsWrongFalsely : Prop := panelSoundsRow.holds Try.pinned (OpenSpec.ofChange panelSoundsWrong)

/-- 'gurneylaw16.PanelDrops': WHATEVER THE INPUT: true; the input reads as it did. -/
def panelDropsSpec : ChangeSpec := { name := "panelDrops", fn := fun _ => fun
  | [d1, d2] => { results := [.lit (.bool true)], args := [d1, d2] }
  | _ => none }
def panelDropsRow : OpenClaim := { program := "ytbeeigfcchjdlaa", sum := "50c5916744fd77953eeac0a396854e7795f2e8b46323767e2f113ca4226426e0", func := "gurney/gurneylaw16.PanelDrops", spec := "panelDrops", unfollowed := true, recurses := true, apart := false }
def PanelDropsSaid : Prop := panelDropsRow.holds Try.pinned (OpenSpec.ofChange panelDropsSpec)

/-- ITS FALSE NEIGHBOUR: 'it returns false'. Refute it at one input. -/
def panelDropsWrong : ChangeSpec := { name := "panelDrops", fn := fun _ => fun
  | [d1, d2] => { results := [.lit (.bool false)], args := [d1, d2] }
  | _ => none }
def PanelDropsWrongFalsely : Prop := panelDropsRow.holds Try.pinned (OpenSpec.ofChange panelDropsWrong)

/- THE SECOND FORM. 'bulk': how many values and letters a reading holds, each counted each time it is reached (what is shared counts as often as it is met; a slice's spare places count too). A statement '..UptoSaid' is the law's where the arguments, and the package variables that the reading takes, are together of bulk at most 1048576: NARROWER than '..Said'. Prove '..Said' where nothing that the law and all that it calls make is longer than what came in: it says more and counts as full. Else prove '..UptoSaid'. A law counts once. -/
mutual
def uptoBulk {H : Type} : DataW H → Nat
  | .lit (.string bytes) => bytes.length + 1
  | .lit _ => 1
  | .nil => 1
  | .ptr d => uptoBulk d + 1
  | .slice elems spare => uptoBulkAll elems + uptoBulkAll spare + 1
  | .agg parts => uptoBulkAll parts + 1
  | .iface _ d => uptoBulk d + 1
  | .map entries => uptoBulkEntries entries + 1
  | .held _ => 1
def uptoBulkAll {H : Type} : List (DataW H) → Nat
  | [] => 0
  | d :: r => uptoBulk d + uptoBulkAll r
def uptoBulkEntries {H : Type} : List (Lit × DataW H) → Nat
  | [] => 0
  | x :: r => uptoBulkEntry x + uptoBulkEntries r
def uptoBulkEntry {H : Type} : Lit × DataW H → Nat
  | (.string bytes, d) => bytes.length + uptoBulk d + 1
  | (_, d) => uptoBulk d + 1
 end
def uptoSmall : (H : Type) → List (DataW H) → Bool := fun _ ds => decide (uptoBulkAll ds ≤ 1048576)
def OpenSpec.upto (s : _root_.Go.ChangeSpec) : _root_.Go.OpenSpec := { _root_.Go.OpenSpec.ofChange s with cond := some uptoSmall }

/-- 'gurneylaw16.PanelActs', WHERE WHAT IT READS IS OF BULK AT MOST 1048576: true; the input reads as it did. -/
def panelActsUptoRow : OpenClaim := { program := "ytbeeigfcchjdlaa", sum := "50c5916744fd77953eeac0a396854e7795f2e8b46323767e2f113ca4226426e0", func := "gurney/gurneylaw16.PanelActs", spec := "panelActs", unfollowed := true, recurses := true, apart := false, narrowed := true }
def PanelActsUptoSaid : Prop := panelActsUptoRow.holds Try.pinned (OpenSpec.upto panelActsSpec)

/-- 'gurneylaw16.PanelStays', WHERE WHAT IT READS IS OF BULK AT MOST 1048576: true; the input reads as it did. -/
def panelStaysUptoRow : OpenClaim := { program := "ytbeeigfcchjdlaa", sum := "50c5916744fd77953eeac0a396854e7795f2e8b46323767e2f113ca4226426e0", func := "gurney/gurneylaw16.PanelStays", spec := "panelStays", unfollowed := true, recurses := true, apart := false, narrowed := true }
def PanelStaysUptoSaid : Prop := panelStaysUptoRow.holds Try.pinned (OpenSpec.upto panelStaysSpec)

/-- 'gurneylaw16.PanelOrder', WHERE WHAT IT READS IS OF BULK AT MOST 1048576: true; the input reads as it did. -/
def panelOrderUptoRow : OpenClaim := { program := "ytbeeigfcchjdlaa", sum := "50c5916744fd77953eeac0a396854e7795f2e8b46323767e2f113ca4226426e0", func := "gurney/gurneylaw16.PanelOrder", spec := "panelOrder", unfollowed := true, recurses := true, apart := false, narrowed := true }
def PanelOrderUptoSaid : Prop := panelOrderUptoRow.holds Try.pinned (OpenSpec.upto panelOrderSpec)

/-- 'gurneylaw16.PanelMany', WHERE WHAT IT READS IS OF BULK AT MOST 1048576: true; the input reads as it did. -/
def panelManyUptoRow : OpenClaim := { program := "ytbeeigfcchjdlaa", sum := "50c5916744fd77953eeac0a396854e7795f2e8b46323767e2f113ca4226426e0", func := "gurney/gurneylaw16.PanelMany", spec := "panelMany", unfollowed := true, recurses := true, apart := false, narrowed := true }
def PanelManyUptoSaid : Prop := panelManyUptoRow.holds Try.pinned (OpenSpec.upto panelManySpec)

/-- 'gurneylaw16.PanelSounds', WHERE WHAT IT READS IS OF BULK AT MOST 1048576: true; the input reads as it did. -/
def panelSoundsUptoRow : OpenClaim := { program := "ytbeeigfcchjdlaa", sum := "50c5916744fd77953eeac0a396854e7795f2e8b46323767e2f113ca4226426e0", func := "gurney/gurneylaw16.PanelSounds", spec := "panelSounds", unfollowed := true, recurses := true, apart := false, narrowed := true }
def PanelSoundsUptoSaid : Prop := panelSoundsUptoRow.holds Try.pinned (OpenSpec.upto panelSoundsSpec)

/-- 'gurneylaw16.PanelDrops', WHERE WHAT IT READS IS OF BULK AT MOST 1048576: true; the input reads as it did. -/
def panelDropsUptoRow : OpenClaim := { program := "ytbeeigfcchjdlaa", sum := "50c5916744fd77953eeac0a396854e7795f2e8b46323767e2f113ca4226426e0", func := "gurney/gurneylaw16.PanelDrops", spec := "panelDrops", unfollowed := true, recurses := true, apart := false, narrowed := true }
def PanelDropsUptoSaid : Prop := panelDropsUptoRow.holds Try.pinned (OpenSpec.upto panelDropsSpec)

end Rows
end Go.Proofs.Ytbeeigfcchjdlaa
