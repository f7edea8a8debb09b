/-
  No cell of these rows narrows 'for every input' (looked for: loops, veiled, ifaces, maps, wideKeys, modest, calm, conditions, laid).
  DERIVED. THE GIVEN ROWS OF THIS SEAT. 6 by the template 'for every input the law returns true; each argument reads behind the call as it read before'; 0 by the template 'total and deterministic' (their statements: YthofgajchejdfaaTotals.lean).
  GIVEN WITH THE SEED: the statements are not yours to turn. If you find one false, say at which input.
  Laid BY PROGRAM, IN A SANDBOX (cutbox-rows.mjs): the forced cells as the released guide's own fill.sh prints them over the translation b398098d211c45d2… (all of the seat's roots in one cut). By AI agents, Wed Nov 11 2026. No macro, syntax, notation, axiom, sorry.
-/
import Derived.Test.YthofgajchejdfaaChecked
import GoSem.Claim
import GoSem.ClaimJoined
import GoSem.ClaimMapViews
import Derived.JoinedTies
import Derived.KernelRfl
namespace Go.Proofs.Ythofgajchejdfaa
/- THE CELL 'sum', in the pinned program and in every row, IS THE sha256 OF THE DUMP (.gsa) THAT YthofgajchejdfaaProg.lean LOADS. Nothing in Lean hashes anything: it is a label: what it is worth is what the hold of that sum in a sandbox is worth. -/
noncomputable def Try.pinned : Pinned := { name := "ythofgajchejdfaa", sum := "b398098d211c45d2aa20578cee7f3674658a946d1ae9677ece715726c7305e81", checked := Try.checked }
namespace Rows
def none {H : Type} : Left H := { results := [], args := [] }

/-- 'gurneylaw11.LoadFits': WHATEVER THE INPUT: true; the input reads as it did. -/
def loadFitsSpec : ChangeSpec := { name := "loadFits", fn := fun _ => fun
  | [d1, d2, d3, d4] => { results := [.lit (.bool true)], args := [d1, d2, d3, d4] }
  | _ => none }
def loadFitsRow : OpenClaim := { program := "ythofgajchejdfaa", sum := "b398098d211c45d2aa20578cee7f3674658a946d1ae9677ece715726c7305e81", func := "gurney/gurneylaw11.LoadFits", spec := "loadFits", unfollowed := true, recurses := true, apart := false }
def LoadFitsSaid : Prop := loadFitsRow.holds Try.pinned (OpenSpec.ofChange loadFitsSpec)

/-- ITS FALSE NEIGHBOUR: 'it returns false'. Refute it at one input. -/
def loadFitsWrong : ChangeSpec := { name := "loadFits", fn := fun _ => fun
  | [d1, d2, d3, d4] => { results := [.lit (.bool false)], args := [d1, d2, d3, d4] }
  | _ => none }
def LoadFitsWrongFalsely : Prop := loadFitsRow.holds Try.pinned (OpenSpec.ofChange loadFitsWrong)

/-- 'gurneylaw11.LoadAdmits': WHATEVER THE INPUT: true; the input reads as it did. -/
def loadAdmitsSpec : ChangeSpec := { name := "loadAdmits", fn := fun _ => fun
  | [d1, d2, d3, d4] => { results := [.lit (.bool true)], args := [d1, d2, d3, d4] }
  | _ => none }
def loadAdmitsRow : OpenClaim := { program := "ythofgajchejdfaa", sum := "b398098d211c45d2aa20578cee7f3674658a946d1ae9677ece715726c7305e81", func := "gurney/gurneylaw11.LoadAdmits", spec := "loadAdmits", unfollowed := true, recurses := true, apart := false }
def LoadAdmitsSaid : Prop := loadAdmitsRow.holds Try.pinned (OpenSpec.ofChange loadAdmitsSpec)

/-- ITS FALSE NEIGHBOUR: 'it returns false'. Refute it at one input. -/
def loadAdmitsWrong : ChangeSpec := { name := "loadAdmits", fn := fun _ => fun
  | [d1, d2, d3, d4] => { results := [.lit (.bool false)], args := [d1, d2, d3, d4] }
  | _ => none }
def LoadAdmitsWrongFalsely : Prop := loadAdmitsRow.holds Try.pinned (OpenSpec.ofChange loadAdmitsWrong)

/-- 'gurneylaw11.LoadExact': WHATEVER THE INPUT: true; the input reads as it did. -/
def loadExactSpec : ChangeSpec := { name := "loadExact", fn := fun _ => fun
  | [d1, d2, d3, d4] => { results := [.lit (.bool true)], args := [d1, d2, d3, d4] }
  | _ => none }
def loadExactRow : OpenClaim := { program := "ythofgajchejdfaa", sum := "b398098d211c45d2aa20578cee7f3674658a946d1ae9677ece715726c7305e81", func := "gurney/gurneylaw11.LoadExact", spec := "loadExact", unfollowed := true, recurses := true, apart := false }
def LoadExactSaid : Prop := loadExactRow.holds Try.pinned (OpenSpec.ofChange loadExactSpec)

/-- ITS FALSE NEIGHBOUR: 'it returns false'. Refute it at one input. -/
def loadExactWrong : ChangeSpec := { name := "loadExact", fn := fun _ => fun
  | [d1, d2, d3, d4] => { results := [.lit (.bool false)], args := [d1, d2, d3, d4] }
  | _ => none }
def LoadExactWrongFalsely : Prop := loadExactRow.holds Try.pinned (OpenSpec.ofChange loadExactWrong)

/-- 'gurneylaw11.LoadOrder': WHATEVER THE INPUT: true; the input reads as it did. -/
def loadOrderSpec : ChangeSpec := { name := "loadOrder", fn := fun _ => fun
  | [d1, d2, d3] => { results := [.lit (.bool true)], args := [d1, d2, d3] }
  | _ => none }
def loadOrderRow : OpenClaim := { program := "ythofgajchejdfaa", sum := "b398098d211c45d2aa20578cee7f3674658a946d1ae9677ece715726c7305e81", func := "gurney/gurneylaw11.LoadOrder", spec := "loadOrder", unfollowed := true, recurses := true, apart := false }
def LoadOrderSaid : Prop := loadOrderRow.holds Try.pinned (OpenSpec.ofChange loadOrderSpec)

/-- ITS FALSE NEIGHBOUR: 'it returns false'. Refute it at one input. -/
def loadOrderWrong : ChangeSpec := { name := "loadOrder", fn := fun _ => fun
  | [d1, d2, d3] => { results := [.lit (.bool false)], args := [d1, d2, d3] }
  | _ => none }
def LoadOrderWrongFalsely : Prop := loadOrderRow.holds Try.pinned (OpenSpec.ofChange loadOrderWrong)

/-- 'gurneylaw11.LoadBack': WHATEVER THE INPUT: true; the input reads as it did. -/
def loadBackSpec : ChangeSpec := { name := "loadBack", fn := fun _ => fun
  | [d1, d2, d3] => { results := [.lit (.bool true)], args := [d1, d2, d3] }
  | _ => none }
def loadBackRow : OpenClaim := { program := "ythofgajchejdfaa", sum := "b398098d211c45d2aa20578cee7f3674658a946d1ae9677ece715726c7305e81", func := "gurney/gurneylaw11.LoadBack", spec := "loadBack", unfollowed := true, recurses := true, apart := false }
def LoadBackSaid : Prop := loadBackRow.holds Try.pinned (OpenSpec.ofChange loadBackSpec)

/-- ITS FALSE NEIGHBOUR: 'it returns false'. Refute it at one input. -/
def loadBackWrong : ChangeSpec := { name := "loadBack", fn := fun _ => fun
  | [d1, d2, d3] => { results := [.lit (.bool false)], args := [d1, d2, d3] }
  | _ => none }
def LoadBackWrongFalsely : Prop := loadBackRow.holds Try.pinned (OpenSpec.ofChange loadBackWrong)

/-- 'gurneylaw11.LoadOne': WHATEVER THE INPUT: true; the input reads as it did. -/
def loadOneSpec : ChangeSpec := { name := "loadOne", fn := fun _ => fun
  | [d1, d2] => { results := [.lit (.bool true)], args := [d1, d2] }
  | _ => none }
def loadOneRow : OpenClaim := { program := "ythofgajchejdfaa", sum := "b398098d211c45d2aa20578cee7f3674658a946d1ae9677ece715726c7305e81", func := "gurney/gurneylaw11.LoadOne", spec := "loadOne", unfollowed := true, recurses := true, apart := false }
def LoadOneSaid : Prop := loadOneRow.holds Try.pinned (OpenSpec.ofChange loadOneSpec)

/-- ITS FALSE NEIGHBOUR: 'it returns false'. Refute it at one input. -/
def loadOneWrong : ChangeSpec := { name := "loadOne", fn := fun _ => fun
  | [d1, d2] => { results := [.lit (.bool false)], args := [d1, d2] }
  | _ => none }
def LoadOneWrongFalsely : Prop := loadOneRow.holds Try.pinned (OpenSpec.ofChange loadOneWrong)

/- THE SECOND FORM. 'bulk': how many values and letters a reading holds, each counted each time it is reached (what is shared counts as often as it is met; a slice's spare places count too). A statement '..UptoSaid' is the law's where the arguments, and the package variables that the reading takes, are together of bulk at most 1048576: NARROWER than '..Said'. Prove '..Said' where nothing that the law and all that it calls make is longer than what came in: it says more and counts as full. Else prove '..UptoSaid'. A law counts once. -/
mutual
def uptoBulk {H : Type} : DataW H → Nat
  | .lit (.string bytes) => bytes.length + 1
  | .lit _ => 1
  | .nil => 1
  | .ptr d => uptoBulk d + 1
  | .slice elems spare => uptoBulkAll elems + uptoBulkAll spare + 1
  | .agg parts => uptoBulkAll parts + 1
  | .iface _ d => uptoBulk d + 1
  | .map entries => uptoBulkEntries entries + 1
  | .held _ => 1
def uptoBulkAll {H : Type} : List (DataW H) → Nat
  | [] => 0
  | d :: r => uptoBulk d + uptoBulkAll r
def uptoBulkEntries {H : Type} : List (Lit × DataW H) → Nat
  | [] => 0
  | x :: r => uptoBulkEntry x + uptoBulkEntries r
def uptoBulkEntry {H : Type} : Lit × DataW H → Nat
  | (.string bytes, d) => bytes.length + uptoBulk d + 1
  | (_, d) => uptoBulk d + 1
 end
def uptoSmall : (H : Type) → List (DataW H) → Bool := fun _ ds => decide (uptoBulkAll ds ≤ 1048576)
def OpenSpec.upto (s : _root_.Go.ChangeSpec) : _root_.Go.OpenSpec := { _root_.Go.OpenSpec.ofChange s with cond := some uptoSmall }

/-- 'gurneylaw11.LoadFits', WHERE WHAT IT READS IS OF BULK AT MOST 1048576: true; the input reads as it did. -/
def loadFitsUptoRow : OpenClaim := { program := "ythofgajchejdfaa", sum := "b398098d211c45d2aa20578cee7f3674658a946d1ae9677ece715726c7305e81", func := "gurney/gurneylaw11.LoadFits", spec := "loadFits", unfollowed := true, recurses := true, apart := false, narrowed := true }
def LoadFitsUptoSaid : Prop := loadFitsUptoRow.holds Try.pinned (OpenSpec.upto loadFitsSpec)

/-- 'gurneylaw11.LoadAdmits', WHERE WHAT IT READS IS OF BULK AT MOST 1048576: true; the input reads as it did. -/
def loadAdmitsUptoRow : OpenClaim := { program := "ythofgajchejdfaa", sum := "b398098d211c45d2aa20578cee7f3674658a946d1ae9677ece715726c7305e81", func := "gurney/gurneylaw11.LoadAdmits", spec := "loadAdmits", unfollowed := true, recurses := true, apart := false, narrowed := true }
def LoadAdmitsUptoSaid : Prop := loadAdmitsUptoRow.holds Try.pinned (OpenSpec.upto loadAdmitsSpec)

/-- 'gurneylaw11.LoadExact', WHERE WHAT IT READS IS OF BULK AT MOST 1048576: true; the input reads as it did. -/
def loadExactUptoRow : OpenClaim := { program := "ythofgajchejdfaa", sum := "b398098d211c45d2aa20578cee7f3674658a946d1ae9677ece715726c7305e81", func := "gurney/gurneylaw11.LoadExact", spec := "loadExact", unfollowed := true, recurses := true, apart := false, narrowed := true }
def LoadExactUptoSaid : Prop := loadExactUptoRow.holds Try.pinned (OpenSpec.upto loadExactSpec)

/-- 'gurneylaw11.LoadOrder', WHERE WHAT IT READS IS OF BULK AT MOST 1048576: true; the input reads as it did. -/
def loadOrderUptoRow : OpenClaim := { program := "ythofgajchejdfaa", sum := "b398098d211c45d2aa20578cee7f3674658a946d1ae9677ece715726c7305e81", func := "gurney/gurneylaw11.LoadOrder", spec := "loadOrder", unfollowed := true, recurses := true, apart := false, narrowed := true }
def LoadOrderUptoSaid : Prop := loadOrderUptoRow.holds Try.pinned (OpenSpec.upto loadOrderSpec)

/-- 'gurneylaw11.LoadBack', WHERE WHAT IT READS IS OF BULK AT MOST 1048576: true; the input reads as it did. -/
def loadBackUptoRow : OpenClaim := { program := "ythofgajchejdfaa", sum := "b398098d211c45d2aa20578cee7f3674658a946d1ae9677ece715726c7305e81", func := "gurney/gurneylaw11.LoadBack", spec := "loadBack", unfollowed := true, recurses := true, apart := false, narrowed := true }
def LoadBackUptoSaid : Prop := loadBackUptoRow.holds Try.pinned (OpenSpec.upto loadBackSpec)

/-- 'gurneylaw11.LoadOne', WHERE WHAT IT READS IS OF BULK AT MOST 1048576: true; the input reads as it did. -/
def loadOneUptoRow : OpenClaim := { program := "ythofgajchejdfaa", sum := "b398098d211c45d2aa20578cee7f3674658a946d1ae9677ece715726c7305e81", func := "gurney/gurneylaw11.LoadOne", spec := "loadOne", unfollowed := true, recurses := true, apart := false, narrowed := true }
def LoadOneUptoSaid : Prop := loadOneUptoRow.holds Try.pinned (OpenSpec.upto loadOneSpec)

end Rows
end Go.Proofs.Ythofgajchejdfaa
