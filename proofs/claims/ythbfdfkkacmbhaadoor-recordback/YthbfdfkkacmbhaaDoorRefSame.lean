/- The contract of the document's own Same. -/
import Derived.Test.YthbfdfkkacmbhaaDoorBase
namespace Go.Proofs.YthbfdfkkacmbhaaDoor
open Go.RowKit
open Bt

set_option maxHeartbeats 400000 in
theorem same_pos (ba oa bb ob : Nat) (ca cb : Nat) (bs : List Nat) (hl : bs.length < 2 ^ 40) (w : World)
    (ha : ∀ j, (hj : j < bs.length) → w.cell? ⟨ba, oa + j, none⟩ = some (U bs[j])) (hb : ∀ j, (hj : j < bs.length) → w.cell? ⟨bb, ob + j, none⟩ = some (U bs[j])) :
    Calls Tryd.prog 16 #[.slice (some ⟨ba, oa, none⟩) bs.length ca, .slice (some ⟨bb, ob, none⟩) bs.length cb] w fun e w' => e = .returned (.bool true) ∧ ∃ n, w' = w.drewN n := by
  have HA := Hid.intro ha
  have HB := Hid.intro hb
  clear ha hb
  have hne : ((bs.length : Int) != (bs.length : Int)) = false := by simp
  go_enter Tryd.func16, Tryd.ntmps16
  go_wp2
  go_loopw [5] (fun i wr => ∃ k : Nat, k ≤ bs.length ∧ i = .int .i64 k ∧ ∃ n, wr = w.drewN n) (fun i _ => bs.length - (intOf i).toNat)
  case atStart => exact ⟨0, by omega, rfl, 0, rfl⟩
  case round =>
    obtain ⟨k, hk, rfl, n, rfl⟩ := hrel
    by_cases hlt : k < bs.length
    · have c1 := HA.out k hlt
      have c2 := HB.out k hlt
      have i0 : (0 : Int) ≤ (k : Int) := by omega
      have i1 : (k : Int) < (bs.length : Int) := by omega
      generalize bs[k] = b at c1 c2
      have hbb : ((b : Int) != (b : Int)) = false := by simp
      go_wp2_with fail
      go_quiet (fail)
      go_wp2
      go_roundw
      case rel => exact ⟨k + 1, by omega, by go_num, _, rfl⟩
      case measure => simp [intOf]; omega
    · go_wp2
      go_ret
      exact ⟨rfl, n, rfl⟩

theorem same_zero (ao bo : Option Addr) (ca cb : Nat) (w : World) :
    Calls Tryd.prog 16 #[.slice ao 0 ca, .slice bo 0 cb] w fun e w' => e = .returned (.bool true) ∧ w = w' := by
  go_enter Tryd.func16, Tryd.ntmps16
  go_wp2
  refine wp_loop_rounds 1 ?_
  rw [rounds_succ]
  go_wp2
  go_ret
  exact ⟨rfl, rfl⟩

theorem same_true (ao bo : Option Addr) (ca cb : Nat) (bs : List Nat) (hl : bs.length < 2 ^ 40) (w : World) (ha : Reads w ao bs) (hb : Reads w bo bs) :
    Calls Tryd.prog 16 #[.slice ao bs.length ca, .slice bo bs.length cb] w fun e w' => e = .returned (.bool true) ∧ ∃ n, w' = w.drewN n := by
  by_cases h0 : bs.length = 0
  · rw [h0]
    refine (same_zero ao bo ca cb w).mono ?_
    rintro e w' ⟨rfl, rfl⟩
    exact ⟨rfl, 0, rfl⟩
  · obtain ⟨ba, oa, rfl, h1⟩ := reads_at ha (by omega)
    obtain ⟨bb, ob, rfl, h2⟩ := reads_at hb (by omega)
    exact same_pos ba oa bb ob ca cb bs hl w h1 h2

end Go.Proofs.YthbfdfkkacmbhaaDoor
