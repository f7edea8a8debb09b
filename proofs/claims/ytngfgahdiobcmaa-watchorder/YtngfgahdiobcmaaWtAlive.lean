/- The laws' own 'alive' of layer 15. -/
import Derived.Test.YtngfgahdiobcmaaWtL
import Derived.BigQuiet
namespace Go.Proofs.Ytngfgahdiobcmaa
open Go.RowKit
open Bt

def wa1 : List Wb := [⟨1, 5, 0, false⟩]
def wa2 : List Wb := [⟨1, 5, 0, true⟩]
def wa3 : List Wb := [⟨1, 5, 7, false⟩]

theorem wt1 : addWe [] 1 5 = 0 ∧ addWt [] 1 5 0 = wa1 := by decide
theorem wt2 : lookWl wa1 5 = [] ∧ lookWt wa1 5 = wa1 := by decide
theorem wt3 : lookWl wa1 6 = [1] ∧ lookWt wa1 6 = wa2 ∧ lostWb wa2 1 = true := by decide
theorem wt4 : heardWt wa2 1 7 = wa3 ∧ lostWb wa3 1 = false ∧ bedsWb wa3 = [1] := by decide
theorem wt5 : remWe wa3 1 = 0 ∧ remWt wa3 1 = [] ∧ remWe [] 1 = 8 ∧ remWt [] 1 = [] := by decide

theorem tw_small {n : Int} (h0 : 0 ≤ n) (h1 : n ≤ 1000000) : timeWb n := ⟨h0, by omega⟩

set_option maxRecDepth 100000 in
set_option maxHeartbeats 2000000 in
theorem alive15_any (w : World) :
    Calls Try.prog 9 #[] w fun e w' => e = .returned (.bool true) ∧ Below w.heap.size w w' := by
  go_enter Try.func9, Try.ntmps9
  go_wp2_with fail
  refine (wnew_any w).mono ?_
  rintro e w1 ⟨b, T, rfl, hS, hF, B1⟩
  have P1 := tadd 1 5 0 (tw_small (by omega) (by omega)) (one_new (P := WS b []) hS hF B1)
  rw [wt1.1, wt1.2] at P1
  have PH := Hid.intro P1
  clear hS hF B1 P1
  go_wp2_with fail
  refine PH.out.mono ?_
  rintro e w2 ⟨rfl, L2⟩
  have P2 := tlook 5 (tw_small (by omega) (by omega)) L2
  rw [wt2.1, wt2.2] at P2
  have P2H := Hid.intro P2
  clear PH P2 L2
  go_wp2_with fail
  refine P2H.out.mono ?_
  rintro e w3 ⟨va, rfl, na, L3, _⟩
  obtain ⟨aa, ca, rfl⟩ := na.len
  have P3 := tlook 6 (tw_small (by omega) (by omega)) L3
  rw [wt3.1, wt3.2.1] at P3
  have P3H := Hid.intro P3
  clear P2H P3 L3 na
  go_wp2_with fail
  refine P3H.out.mono ?_
  rintro e w4 ⟨vb, rfl, nb, L4, G4⟩
  have O4 := Hid.intro (L4.out (Nat.le_refl _))
  obtain ⟨ab, cb, rfl⟩ := nb.len
  obtain ⟨pb, off, rfl, hR, hc⟩ := nb.at.2 (by decide)
  have k4 := hc 0 (by decide)
  have P4 := tlost 1 G4
  rw [wt3.2.2] at P4
  have P4H := Hid.intro P4
  have K4 := Hid.intro k4
  have R4 := Hid.intro hR
  clear P3H P4 G4 L4 nb hc k4 hR
  go_wp2_with fail
  refine P4H.out.mono ?_
  rintro e w5 ⟨rfl, L5⟩
  have P5 := theard 1 7 (tw_small (by omega) (by omega)) L5
  rw [wt4.1, wt3.2.2] at P5
  have P5H := Hid.intro P5
  clear P4H P5 L5
  go_wp2_with fail
  refine P5H.out.mono ?_
  rintro e w6 ⟨rfl, L6⟩
  have k6 : w6.cell? ⟨pb, off, none⟩ = some (.int .i64 1) := L6.cell K4.out (.inr R4.out)
  have P6 := tlost 1 L6
  rw [wt4.2.1] at P6
  have P6H := Hid.intro P6
  clear P5H P6 L6
  go_wp2_with fail
  refine P6H.out.mono ?_
  rintro e w7 ⟨rfl, L7⟩
  have P7 := tbeds L7
  rw [wt4.2.2] at P7
  have P7H := Hid.intro P7
  clear P6H P7 L7 k6
  go_wp2_with fail
  refine P7H.out.mono ?_
  rintro e w8 ⟨vd, rfl, nd, L8, _⟩
  obtain ⟨ad, cd, rfl⟩ := nd.len
  have P8 := trem 1 L8
  rw [wt5.1, wt5.2.1] at P8
  have P8H := Hid.intro P8
  clear P7H P8 L8 nd
  simp only [List.length_cons, List.length_nil, Nat.reduceAdd]
  go_wp2_with fail
  refine P8H.out.mono ?_
  rintro e w9 ⟨rfl, L9⟩
  have P9 := trem 1 L9
  rw [wt5.2.2.1, wt5.2.2.2] at P9
  have P9H := Hid.intro P9
  clear P8H P9 L9
  go_wp2_with fail
  refine P9H.out.mono ?_
  rintro e w10 ⟨rfl, L10⟩
  have FI := Hid.intro (L10.less (G := fun k => k < w.heap.size) (fun _ q => .inl q))
  clear L10
  go_wp2
  go_ret
  exact ⟨rfl, O4.out.trans ((FI.out.chg.below (B := w.heap.size) O4.out.size (fun k hk => by omega)))⟩

end Go.Proofs.Ytngfgahdiobcmaa
