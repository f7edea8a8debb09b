/-
  No cell of these rows narrows 'for every input' (looked for: loops, veiled, ifaces, maps, wideKeys, modest, calm, conditions, laid).
  DERIVED. THE GIVEN ROWS OF THIS SEAT. 6 by the template 'for every input the law returns true; each argument reads behind the call as it read before'; 0 by the template 'total and deterministic' (their statements: YtgcpkploeobafaaTotals.lean).
  GIVEN WITH THE SEED: the statements are not yours to turn. If you find one false, say at which input.
  Laid BY PROGRAM, IN A SANDBOX (cutbox-rows.mjs): the forced cells as the released guide's own fill.sh prints them over the translation e495852880b093d6… (all of the seat's roots in one cut). By AI agents, Wed Nov 11 2026. No macro, syntax, notation, axiom, sorry.
-/
import Derived.Test.YtgcpkploeobafaaChecked
import GoSem.Claim
import GoSem.ClaimJoined
import GoSem.ClaimMapViews
import Derived.JoinedTies
import Derived.KernelRfl
namespace Go.Proofs.Ytgcpkploeobafaa
/- THE CELL 'sum', in the pinned program and in every row, IS THE sha256 OF THE DUMP (.gsa) THAT YtgcpkploeobafaaProg.lean LOADS. Nothing in Lean hashes anything: it is a label: what it is worth is what the hold of that sum in a sandbox is worth. -/
noncomputable def Try.pinned : Pinned := { name := "ytgcpkploeobafaa", sum := "e495852880b093d6370b5ee1688abaf060688f71568a470f4f4d1943aa268e33", checked := Try.checked }
namespace Rows
def none {H : Type} : Left H := { results := [], args := [] }

/-- 'gurneylaw12.EdfActs': WHATEVER THE INPUT: true; the input reads as it did. -/
def edfActsSpec : ChangeSpec := { name := "edfActs", fn := fun _ => fun
  | [d] => { results := [.lit (.bool true)], args := [d] }
  | _ => none }
def edfActsRow : OpenClaim := { program := "ytgcpkploeobafaa", sum := "e495852880b093d6370b5ee1688abaf060688f71568a470f4f4d1943aa268e33", func := "gurney/gurneylaw12.EdfActs", spec := "edfActs", unfollowed := true, recurses := true, apart := false }
def EdfActsSaid : Prop := edfActsRow.holds Try.pinned (OpenSpec.ofChange edfActsSpec)

/-- ITS FALSE NEIGHBOUR: 'it returns false'. Refute it at one input. -/
def edfActsWrong : ChangeSpec := { name := "edfActs", fn := fun _ => fun
  | [d] => { results := [.lit (.bool false)], args := [d] }
  | _ => none }
def EdfActsWrongFalsely : Prop := edfActsRow.holds Try.pinned (OpenSpec.ofChange edfActsWrong)

/-- 'gurneylaw12.EdfAhead': WHATEVER THE INPUT: true; the input reads as it did. -/
def edfAheadSpec : ChangeSpec := { name := "edfAhead", fn := fun _ => fun
  | [d1, d2] => { results := [.lit (.bool true)], args := [d1, d2] }
  | _ => none }
def edfAheadRow : OpenClaim := { program := "ytgcpkploeobafaa", sum := "e495852880b093d6370b5ee1688abaf060688f71568a470f4f4d1943aa268e33", func := "gurney/gurneylaw12.EdfAhead", spec := "edfAhead", unfollowed := true, recurses := true, apart := false }
def EdfAheadSaid : Prop := edfAheadRow.holds Try.pinned (OpenSpec.ofChange edfAheadSpec)

/-- ITS FALSE NEIGHBOUR: 'it returns false'. Refute it at one input. -/
def edfAheadWrong : ChangeSpec := { name := "edfAhead", fn := fun _ => fun
  | [d1, d2] => { results := [.lit (.bool false)], args := [d1, d2] }
  | _ => none }
def EdfAheadWrongFalsely : Prop := edfAheadRow.holds Try.pinned (OpenSpec.ofChange edfAheadWrong)

/-- 'gurneylaw12.EdfUnits': WHATEVER THE INPUT: true; the input reads as it did. -/
def edfUnitsSpec : ChangeSpec := { name := "edfUnits", fn := fun _ => fun
  | [d1, d2] => { results := [.lit (.bool true)], args := [d1, d2] }
  | _ => none }
def edfUnitsRow : OpenClaim := { program := "ytgcpkploeobafaa", sum := "e495852880b093d6370b5ee1688abaf060688f71568a470f4f4d1943aa268e33", func := "gurney/gurneylaw12.EdfUnits", spec := "edfUnits", unfollowed := true, recurses := true, apart := false }
def EdfUnitsSaid : Prop := edfUnitsRow.holds Try.pinned (OpenSpec.ofChange edfUnitsSpec)

/-- ITS FALSE NEIGHBOUR: 'it returns false'. Refute it at one input. -/
def edfUnitsWrong : ChangeSpec := { name := "edfUnits", fn := fun _ => fun
  | [d1, d2] => { results := [.lit (.bool false)], args := [d1, d2] }
  | _ => none }
def EdfUnitsWrongFalsely : Prop := edfUnitsRow.holds Try.pinned (OpenSpec.ofChange edfUnitsWrong)

/-- 'gurneylaw12.EdfOne': WHATEVER THE INPUT: true; the input reads as it did. -/
def edfOneSpec : ChangeSpec := { name := "edfOne", fn := fun _ => fun
  | [d1, d2] => { results := [.lit (.bool true)], args := [d1, d2] }
  | _ => none }
def edfOneRow : OpenClaim := { program := "ytgcpkploeobafaa", sum := "e495852880b093d6370b5ee1688abaf060688f71568a470f4f4d1943aa268e33", func := "gurney/gurneylaw12.EdfOne", spec := "edfOne", unfollowed := true, recurses := true, apart := false }
def EdfOneSaid : Prop := edfOneRow.holds Try.pinned (OpenSpec.ofChange edfOneSpec)

/-- ITS FALSE NEIGHBOUR: 'it returns false'. Refute it at one input. -/
def edfOneWrong : ChangeSpec := { name := "edfOne", fn := fun _ => fun
  | [d1, d2] => { results := [.lit (.bool false)], args := [d1, d2] }
  | _ => none }
def EdfOneWrongFalsely : Prop := edfOneRow.holds Try.pinned (OpenSpec.ofChange edfOneWrong)

/-- 'gurneylaw12.EdfLate': WHATEVER THE INPUT: true; the input reads as it did. -/
def edfLateSpec : ChangeSpec := { name := "edfLate", fn := fun _ => fun
  | [d1, d2] => { results := [.lit (.bool true)], args := [d1, d2] }
  | _ => none }
def edfLateRow : OpenClaim := { program := "ytgcpkploeobafaa", sum := "e495852880b093d6370b5ee1688abaf060688f71568a470f4f4d1943aa268e33", func := "gurney/gurneylaw12.EdfLate", spec := "edfLate", unfollowed := true, recurses := true, apart := false }
def EdfLateSaid : Prop := edfLateRow.holds Try.pinned (OpenSpec.ofChange edfLateSpec)

/-- ITS FALSE NEIGHBOUR: 'it returns false'. Refute it at one input. -/
def edfLateWrong : ChangeSpec := { name := "edfLate", fn := fun _ => fun
  | [d1, d2] => { results := [.lit (.bool false)], args := [d1, d2] }
  | _ => none }
def EdfLateWrongFalsely : Prop := edfLateRow.holds Try.pinned (OpenSpec.ofChange edfLateWrong)

/-- 'gurneylaw12.EdfDrops': WHATEVER THE INPUT: true; the input reads as it did. -/
def edfDropsSpec : ChangeSpec := { name := "edfDrops", fn := fun _ => fun
  | [d1, d2] => { results := [.lit (.bool true)], args := [d1, d2] }
  | _ => none }
def edfDropsRow : OpenClaim := { program := "ytgcpkploeobafaa", sum := "e495852880b093d6370b5ee1688abaf060688f71568a470f4f4d1943aa268e33", func := "gurney/gurneylaw12.EdfDrops", spec := "edfDrops", unfollowed := true, recurses := true, apart := false }
def EdfDropsSaid : Prop := edfDropsRow.holds Try.pinned (OpenSpec.ofChange edfDropsSpec)

/-- ITS FALSE NEIGHBOUR: 'it returns false'. Refute it at one input. -/
def edfDropsWrong : ChangeSpec := { name := "edfDrops", fn := fun _ => fun
  | [d1, d2] => { results := [.lit (.bool false)], args := [d1, d2] }
  | _ => none }
def EdfDropsWrongFalsely : Prop := edfDropsRow.holds Try.pinned (OpenSpec.ofChange edfDropsWrong)

/- THE SECOND FORM. 'bulk': how many values and letters a reading holds, each counted each time it is reached (what is shared counts as often as it is met; a slice's spare places count too). A statement '..UptoSaid' is the law's where the arguments, and the package variables that the reading takes, are together of bulk at most 1048576: NARROWER than '..Said'. Prove '..Said' where nothing that the law and all that it calls make is longer than what came in: it says more and counts as full. Else prove '..UptoSaid'. A law counts once. -/
mutual
def uptoBulk {H : Type} : DataW H → Nat
  | .lit (.string bytes) => bytes.length + 1
  | .lit _ => 1
  | .nil => 1
  | .ptr d => uptoBulk d + 1
  | .slice elems spare => uptoBulkAll elems + uptoBulkAll spare + 1
  | .agg parts => uptoBulkAll parts + 1
  | .iface _ d => uptoBulk d + 1
  | .map entries => uptoBulkEntries entries + 1
  | .held _ => 1
def uptoBulkAll {H : Type} : List (DataW H) → Nat
  | [] => 0
  | d :: r => uptoBulk d + uptoBulkAll r
def uptoBulkEntries {H : Type} : List (Lit × DataW H) → Nat
  | [] => 0
  | x :: r => uptoBulkEntry x + uptoBulkEntries r
def uptoBulkEntry {H : Type} : Lit × DataW H → Nat
  | (.string bytes, d) => bytes.length + uptoBulk d + 1
  | (_, d) => uptoBulk d + 1
 end
def uptoSmall : (H : Type) → List (DataW H) → Bool := fun _ ds => decide (uptoBulkAll ds ≤ 1048576)
def OpenSpec.upto (s : _root_.Go.ChangeSpec) : _root_.Go.OpenSpec := { _root_.Go.OpenSpec.ofChange s with cond := some uptoSmall }

/-- 'gurneylaw12.EdfActs', WHERE WHAT IT READS IS OF BULK AT MOST 1048576: true; the input reads as it did. -/
def edfActsUptoRow : OpenClaim := { program := "ytgcpkploeobafaa", sum := "e495852880b093d6370b5ee1688abaf060688f71568a470f4f4d1943aa268e33", func := "gurney/gurneylaw12.EdfActs", spec := "edfActs", unfollowed := true, recurses := true, apart := false, narrowed := true }
def EdfActsUptoSaid : Prop := edfActsUptoRow.holds Try.pinned (OpenSpec.upto edfActsSpec)

/-- 'gurneylaw12.EdfAhead', WHERE WHAT IT READS IS OF BULK AT MOST 1048576: true; the input reads as it did. -/
def edfAheadUptoRow : OpenClaim := { program := "ytgcpkploeobafaa", sum := "e495852880b093d6370b5ee1688abaf060688f71568a470f4f4d1943aa268e33", func := "gurney/gurneylaw12.EdfAhead", spec := "edfAhead", unfollowed := true, recurses := true, apart := false, narrowed := true }
def EdfAheadUptoSaid : Prop := edfAheadUptoRow.holds Try.pinned (OpenSpec.upto edfAheadSpec)

/-- 'gurneylaw12.EdfUnits', WHERE WHAT IT READS IS OF BULK AT MOST 1048576: true; the input reads as it did. -/
def edfUnitsUptoRow : OpenClaim := { program := "ytgcpkploeobafaa", sum := "e495852880b093d6370b5ee1688abaf060688f71568a470f4f4d1943aa268e33", func := "gurney/gurneylaw12.EdfUnits", spec := "edfUnits", unfollowed := true, recurses := true, apart := false, narrowed := true }
def EdfUnitsUptoSaid : Prop := edfUnitsUptoRow.holds Try.pinned (OpenSpec.upto edfUnitsSpec)

/-- 'gurneylaw12.EdfOne', WHERE WHAT IT READS IS OF BULK AT MOST 1048576: true; the input reads as it did. -/
def edfOneUptoRow : OpenClaim := { program := "ytgcpkploeobafaa", sum := "e495852880b093d6370b5ee1688abaf060688f71568a470f4f4d1943aa268e33", func := "gurney/gurneylaw12.EdfOne", spec := "edfOne", unfollowed := true, recurses := true, apart := false, narrowed := true }
def EdfOneUptoSaid : Prop := edfOneUptoRow.holds Try.pinned (OpenSpec.upto edfOneSpec)

/-- 'gurneylaw12.EdfLate', WHERE WHAT IT READS IS OF BULK AT MOST 1048576: true; the input reads as it did. -/
def edfLateUptoRow : OpenClaim := { program := "ytgcpkploeobafaa", sum := "e495852880b093d6370b5ee1688abaf060688f71568a470f4f4d1943aa268e33", func := "gurney/gurneylaw12.EdfLate", spec := "edfLate", unfollowed := true, recurses := true, apart := false, narrowed := true }
def EdfLateUptoSaid : Prop := edfLateUptoRow.holds Try.pinned (OpenSpec.upto edfLateSpec)

/-- 'gurneylaw12.EdfDrops', WHERE WHAT IT READS IS OF BULK AT MOST 1048576: true; the input reads as it did. -/
def edfDropsUptoRow : OpenClaim := { program := "ytgcpkploeobafaa", sum := "e495852880b093d6370b5ee1688abaf060688f71568a470f4f4d1943aa268e33", func := "gurney/gurneylaw12.EdfDrops", spec := "edfDrops", unfollowed := true, recurses := true, apart := false, narrowed := true }
def EdfDropsUptoSaid : Prop := edfDropsUptoRow.holds Try.pinned (OpenSpec.upto edfDropsSpec)

end Rows
end Go.Proofs.Ytgcpkploeobafaa
