/- What the laws of layer 18 begin with: the example, then a device, or none. -/
import Derived.Test.YthhggjakenalpaaGreatDoorMDvB
import Derived.Test.YthhggjakenalpaaGreatDoorLinkArg
import Derived.Test.YthhggjakenalpaaGreatDoorDvLaid
namespace Go.Proofs.YthhggjakenalpaaGreatDoor
set_option maxRecDepth 100000
open Go.RowKit
open Bt

/-- The numbers of a device that may be. -/
theorem dev_nums {tx k n s wt ms : Int} (h : mayD tx k n s wt ms = true) : ∃ T K N S A B : Nat, tx = T ∧ k = K ∧ n = N ∧ s = S ∧ wt = A ∧ ms = B := by
  obtain ⟨q1, q2, _⟩ := mayD_true h
  obtain ⟨h1, h2, h3, h4, h5⟩ := mayL_true q1
  have h6 := mayC_true h1
  have h7 := isTx_true q2
  obtain ⟨T, rfl⟩ := Int.eq_ofNat_of_zero_le h7.1
  obtain ⟨K, rfl⟩ := Int.eq_ofNat_of_zero_le (show 0 ≤ k by omega)
  obtain ⟨N, rfl⟩ := Int.eq_ofNat_of_zero_le (show 0 ≤ n by omega)
  obtain ⟨S, rfl⟩ := Int.eq_ofNat_of_zero_le (show 0 ≤ s by omega)
  obtain ⟨A, rfl⟩ := Int.eq_ofNat_of_zero_le (show 0 ≤ wt by omega)
  obtain ⟨B, rfl⟩ := Int.eq_ofNat_of_zero_le (show 0 ≤ ms by omega)
  exact ⟨T, K, N, S, A, B, rfl, rfl, rfl, rfl, rfl, rfl⟩

/-- A new device, among what was there. -/
theorem dlnew (tx K N S wt ms : Nat) (h : mayD tx K N S wt ms = true) (w : World) (hw : Wd w) :
    Calls Tryz.prog 11 #[.int .i64 (tx : Int), Lk K N S wt ms] w fun e w' => ∃ b, e = .returned (.pointer (some ⟨b, 0, none⟩)) ∧ DL 0 b (dev0 tx K N S wt ms) (fun k => k < w.heap.size) w w' := by
  refine (dnew_yes tx K N S wt ms h w hw).mono ?_
  rintro e w' ⟨b, F, rfl, hS, hF, B1⟩
  exact ⟨b, rfl, one_new hS hF B1⟩

end Go.Proofs.YthhggjakenalpaaGreatDoor
