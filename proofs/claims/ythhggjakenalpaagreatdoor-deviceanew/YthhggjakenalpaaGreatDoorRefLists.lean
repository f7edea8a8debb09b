/- The contract of the document's own Lists of layer 5: are two lists of rows the same? -/
import Derived.Test.YthhggjakenalpaaGreatDoorLStr
namespace Go.Proofs.YthhggjakenalpaaGreatDoor
set_option maxRecDepth 100000
open Go.RowKit
open Bt

theorem Reads.drew {w : World} {a : Option Addr} {bs : List Nat} (h : Reads w a bs) : Reads w.drew a bs := h

set_option maxRecDepth 100000 in
set_option maxHeartbeats 1000000 in
theorem refLists_true (ao bo : Option Addr) (ca cb : Nat) (L : List (List Nat)) (hl : L.length ≤ 1000000) (w : World) (ha : ReadsL w ao L) (hb : ReadsL w bo L) :
    Calls Tryz.prog 23 #[.slice ao L.length ca, .slice bo L.length cb] w fun e w' => e = .returned (.bool true) ∧ Below w.heap.size w w' := by
  have HA := Hid.intro ha
  have HB := Hid.intro hb
  clear ha hb
  have hne : ((L.length : Int) != (L.length : Int)) = false := by simp
  go_enter Tryz.func23, Tryz.ntmps23
  go_wp2
  go_loopw [5] (fun i wr => ∃ k : Nat, k ≤ L.length ∧ i = .int .i64 k ∧ Below w.heap.size w wr) (fun i _ => L.length - (intOf i).toNat)
  case atStart => exact ⟨0, by omega, rfl, Below.refl _ _⟩
  case round =>
    obtain ⟨k, hk, rfl, BW⟩ := hrel
    have BWH := Hid.intro BW
    by_cases hlt : k < L.length
    · obtain ⟨ba, oa, ea, ra⟩ := HA.out (by omega)
      obtain ⟨bb, ob, eb, rb⟩ := HB.out (by omega)
      subst ea
      subst eb
      obtain ⟨xa, ya, h1, h2, _⟩ := ra k hlt
      obtain ⟨xb, yb, h3, h4, _⟩ := rb k hlt
      have c1 : wr.cell? ⟨ba, oa + k, none⟩ = some (.slice xa (L.getD k []).length ya) := (BW.cell (cell_lt h1)).trans h1
      have c2 : wr.cell? ⟨bb, ob + k, none⟩ = some (.slice xb (L.getD k []).length yb) := (BW.cell (cell_lt h3)).trans h3
      have r1 := h2.below BW
      have r2 := h4.below BW
      generalize L.getD k [] = bs at c1 c2 r1 r2
      have i0 : (0 : Int) ≤ (k : Int) := by omega
      have i1 : (k : Int) < (L.length : Int) := by omega
      have g1 := lconv r1.drew ya
      have g2 := lconv r2.drew yb
      have g3 := lconv r1 ya
      have g4 := lconv r2 yb
      generalize lstr bs = x at g1 g2 g3 g4
      clear h1 h2 h3 h4 ra rb BW r1 r2
      go_wp2_with fail
      go_region
      go_wp2
      go_roundw
      case rel => exact ⟨k + 1, by omega, by go_num, belowN BWH.out 1⟩
      case measure => simp [intOf]; omega
    · go_wp2
      go_ret
      exact ⟨rfl, BW⟩

end Go.Proofs.YthhggjakenalpaaGreatDoor
