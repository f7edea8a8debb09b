/- The laws' own 'alive' of layer 14. -/
import Derived.Test.YtcloneccfbcclaaLmL
namespace Go.Proofs.Ytcloneccfbcclaa
open Go.RowKit
open Bt

def lx : Lm := ⟨1, 1, 50, 100, 2⟩
def la1 : List Kp := [⟨lx, 0⟩]
def la2 : List Kp := [⟨lx, 1⟩]
def la3 : List Kp := [⟨lx, 2⟩]

theorem ls1 : setE [] lx = 0 ∧ setT [] lx = la1 := by decide
theorem ls2 : onK la1 1 1 = false ∧ seeT la1 1 1 101 = la2 ∧ onK la2 1 1 = false := by decide
theorem ls3 : seeT la2 1 1 101 = la3 ∧ onK la3 1 1 = true ∧ beyK la3 1 1 = 2 := by decide
theorem ls4 : seeT la3 1 1 100 = la1 := by decide
theorem ls5 : (listT la1).length = 1 ∧ dropN la1 1 = 1 ∧ mayL ⟨0, 1, 0, 0, 1⟩ = true ∧ mayL ⟨0, 0, 0, 0, 0⟩ = false := by decide

set_option maxRecDepth 100000 in
set_option maxHeartbeats 2000000 in
theorem alive14_any (w : World) :
    Calls Try.prog 9 #[] w fun e w' => e = .returned (.bool true) ∧ Below w.heap.size w w' := by
  go_enter Try.func9, Try.ntmps9
  go_wp2_with fail
  refine (lnew_any w).mono ?_
  rintro e w1 ⟨b, T, rfl, hS, hF, B1⟩
  have P1 := tset lx (one_new (P := TB b [] 0) hS hF B1)
  rw [ls1.1, ls1.2] at P1
  have PH := Hid.intro P1
  clear hS hF B1 P1
  go_wp2_with fail
  refine PH.out.mono ?_
  rintro e w2 ⟨rfl, L2⟩
  have P2 := tsee 1 1 101 okO_11 L2
  rw [ls2.2.1, ls2.1, ls2.2.2] at P2
  have P2H := Hid.intro P2
  clear PH P2 L2
  go_wp2_with fail
  refine P2H.out.mono ?_
  rintro e w3 ⟨rfl, L3⟩
  have P3 := tsee 1 1 101 okO_11 L3
  rw [ls3.1, ls2.2.2, ls3.2.1] at P3
  have P3H := Hid.intro P3
  clear P2H P3 L3
  go_wp2_with fail
  refine P3H.out.mono ?_
  rintro e w4 ⟨rfl, L4⟩
  have P4 := tbey 1 1 okO_11 L4
  rw [ls3.2.2] at P4
  have P4H := Hid.intro P4
  clear P3H P4 L4
  go_wp2_with fail
  refine P4H.out.mono ?_
  rintro e w5 ⟨rfl, L5⟩
  have P5 := tsee 1 1 100 okO_11 L5
  rw [ls4, ls3.2.1, ls2.1] at P5
  have P5H := Hid.intro P5
  clear P4H P5 L5
  go_wp2_with fail
  refine P5H.out.mono ?_
  rintro e w6 ⟨rfl, L6⟩
  have P6 := ton 1 1 okO_11 L6
  rw [ls2.1] at P6
  have P6H := Hid.intro P6
  clear P5H P6 L6
  go_wp2_with fail
  refine P6H.out.mono ?_
  rintro e w7 ⟨rfl, L7⟩
  have P7H := Hid.intro (tlist L7)
  clear P6H L7
  go_wp2_with fail
  refine P7H.out.mono ?_
  rintro e w8 ⟨v, rfl, hl, L8, _⟩
  obtain ⟨ao, c, rfl⟩ := hl.len
  rw [ls5.1]
  have P8 := tdrop 1 L8
  rw [ls5.2.1] at P8
  have P8H := Hid.intro P8
  clear P7H hl P8 L8
  go_wp2_with fail
  refine P8H.out.mono ?_
  rintro e w9 ⟨rfl, L9⟩
  have P9 := lmay_any ⟨0, 1, 0, 0, 1⟩ w9
  rw [ls5.2.2.1] at P9
  have P9H := Hid.intro P9
  have L9H := Hid.intro L9
  clear P8H P9 L9
  go_wp2_with fail
  refine P9H.out.mono ?_
  rintro e w10 ⟨rfl, B10⟩
  have P10 := lmay_any ⟨0, 0, 0, 0, 0⟩ w10
  rw [ls5.2.2.2] at P10
  have P10H := Hid.intro P10
  have L10H := Hid.intro (L9H.out.below (tb_owned _ _ _) B10)
  clear P9H P10 L9H B10
  go_wp2_with fail
  refine P10H.out.mono ?_
  rintro e w11 ⟨rfl, B11⟩
  have FI := Hid.intro ((L10H.out.below (tb_owned _ _ _) B11).out (Nat.le_refl _))
  clear B11 L10H
  go_wp2
  go_ret
  exact ⟨rfl, FI.out⟩

end Go.Proofs.Ytcloneccfbcclaa
