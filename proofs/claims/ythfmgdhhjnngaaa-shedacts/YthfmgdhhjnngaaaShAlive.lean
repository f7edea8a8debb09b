/- The laws' own 'alive' of layer 13. -/
import Derived.Test.YthfmgdhhjnngaaaShL
import Derived.Test.YthfmgdhhjnngaaaShLook
namespace Go.Proofs.Ythfmgdhhjnngaaa
open Go.RowKit
open Bt

def al0 : Ctl := ⟨2, 0, []⟩
def al1 : Ctl := ⟨2, 0, [⟨1, 5, 0⟩]⟩
def al2 : Ctl := ⟨2, 0, [⟨1, 5, 0⟩, ⟨2, 1, 0⟩]⟩
def al3 : Ctl := ⟨2, 0, [⟨1, 5, 0⟩, ⟨2, 1, 1⟩]⟩
def al4 : Ctl := ⟨2, 0, [⟨1, 5, 0⟩, ⟨2, 1, 2⟩]⟩
def al5 : Ctl := ⟨2, 0, [⟨1, 5, 0⟩, ⟨2, 1, 3⟩]⟩
def al6 : Ctl := ⟨2, 0, [⟨1, 5, 1⟩, ⟨2, 1, 3⟩]⟩
def al7 : Ctl := ⟨2, 1, [⟨1, 5, 1⟩, ⟨2, 1, 3⟩]⟩

theorem sa1 : addE al0 1 = 0 ∧ addC al0 1 5 = al1 := by decide
theorem sa2 : addE al1 2 = 0 ∧ addC al1 2 1 = al2 := by decide
theorem sa3 : tickD al2 true = 2 ∧ tickC al2 true = al3 := by decide
theorem sa4 : tickD al3 true = 2 ∧ tickC al3 true = al4 := by decide
theorem sa5 : tickD al4 true = 2 ∧ tickC al4 true = al5 := by decide
theorem sa6 : tickD al5 true = 1 ∧ tickC al5 true = al6 := by decide
theorem sa7 : levS al6 1 = 1 ∧ tickD al6 false = -1 ∧ tickC al6 false = al7 := by decide
theorem sa8 : al7.calm = 1 ∧ tickD al7 false = -1 ∧ tickC al7 false = al2 := by decide
theorem sa9 : levS al2 1 = 0 ∧ levS al2 2 = 0 ∧ levS al2 3 = 3 ∧ (ordS al2).length = 2 ∧ lookS 1 4 = true ∧ lookS 1 5 = false := by decide

set_option maxRecDepth 100000 in
set_option maxHeartbeats 2000000 in
theorem alive13_any (w : World) :
    Calls Try.prog 9 #[] w fun e w' => e = .returned (.bool true) ∧ Below w.heap.size w w' := by
  go_enter Try.func9, Try.ntmps9
  go_wp2_with fail
  refine (hnew_yes 2 (by decide) (by decide) w).mono ?_
  rintro e w1 ⟨b, T, rfl, hS, hF, B1⟩
  have L1 := hl_new hS hF B1
  have P1 := hladd 1 5 L1
  rw [show (⟨2, 0, []⟩ : Ctl) = al0 from rfl, sa1.1, sa1.2] at P1
  have PH := Hid.intro P1
  clear hS hF B1 L1 P1
  go_wp2_with fail
  refine PH.out.mono ?_
  rintro e w2 ⟨rfl, L2⟩
  have P2 := hladd 2 1 L2
  rw [sa2.1, sa2.2] at P2
  have P2H := Hid.intro P2
  clear PH P2 L2
  go_wp2_with fail
  refine P2H.out.mono ?_
  rintro e w3 ⟨rfl, L3⟩
  have P3 := hltick true L3
  rw [sa3.1, sa3.2] at P3
  have P3H := Hid.intro P3
  clear P2H P3 L3
  go_wp2_with fail
  refine P3H.out.mono ?_
  rintro e w4 ⟨rfl, L4⟩
  have P4 := hltick true L4
  rw [sa4.1, sa4.2] at P4
  have P4H := Hid.intro P4
  clear P3H P4 L4
  go_wp2_with fail
  refine P4H.out.mono ?_
  rintro e w5 ⟨rfl, L5⟩
  have P5 := hltick true L5
  rw [sa5.1, sa5.2] at P5
  have P5H := Hid.intro P5
  clear P4H P5 L5
  go_wp2_with fail
  refine P5H.out.mono ?_
  rintro e w6 ⟨rfl, L6⟩
  have P6 := hltick true L6
  rw [sa6.1, sa6.2] at P6
  have P6H := Hid.intro P6
  clear P5H P6 L6
  go_wp2_with fail
  refine P6H.out.mono ?_
  rintro e w7 ⟨rfl, L7⟩
  have P7 := hllevel 1 L7
  rw [sa7.1] at P7
  have P7H := Hid.intro P7
  clear P6H P7 L7
  go_wp2_with fail
  refine P7H.out.mono ?_
  rintro e w8 ⟨rfl, L8⟩
  have P8 := hltick false L8
  rw [sa7.2.1, sa7.2.2] at P8
  have P8H := Hid.intro P8
  clear P7H P8 L8
  go_wp2_with fail
  refine P8H.out.mono ?_
  rintro e w9 ⟨rfl, L9⟩
  have P9 := hlcalm L9
  rw [sa8.1] at P9
  have P9H := Hid.intro P9
  clear P8H P9 L9
  go_wp2_with fail
  refine P9H.out.mono ?_
  rintro e w10 ⟨rfl, L10⟩
  have P10 := hltick false L10
  rw [sa8.2.1, sa8.2.2] at P10
  have P10H := Hid.intro P10
  clear P9H P10 L10
  go_wp2_with fail
  refine P10H.out.mono ?_
  rintro e w11 ⟨rfl, L11⟩
  have P11 := hllevel 1 L11
  rw [sa9.1] at P11
  have P11H := Hid.intro P11
  clear P10H P11 L11
  go_wp2_with fail
  refine P11H.out.mono ?_
  rintro e w12 ⟨rfl, L12⟩
  have P12 := hllevel 2 L12
  rw [sa9.2.1] at P12
  have P12H := Hid.intro P12
  clear P11H P12 L12
  go_wp2_with fail
  refine P12H.out.mono ?_
  rintro e w13 ⟨rfl, L13⟩
  have P13 := hllevel 3 L13
  rw [sa9.2.2.1] at P13
  have P13H := Hid.intro P13
  clear P12H P13 L13
  go_wp2_with fail
  refine P13H.out.mono ?_
  rintro e w14 ⟨rfl, L14⟩
  have P14 := hlooked_any 1 4 (by decide) w14
  rw [sa9.2.2.2.2.1] at P14
  have P14H := Hid.intro P14
  have L14H := Hid.intro L14
  clear P13H P14 L14
  go_wp2_with fail
  refine P14H.out.mono ?_
  rintro e w15 ⟨rfl, B15⟩
  have L15 := L14H.out.below B15
  have P15 := hlooked_any 1 5 (by decide) w15
  rw [sa9.2.2.2.2.2] at P15
  have P15H := Hid.intro P15
  have L15H := Hid.intro L15
  clear P14H P15 L15 B15 L14H
  go_wp2_with fail
  refine P15H.out.mono ?_
  rintro e w16 ⟨rfl, B16⟩
  have L16 := L15H.out.below B16
  have P16H := Hid.intro (hlorder L16)
  clear P15H L16 B16 L15H
  go_wp2_with fail
  refine P16H.out.mono ?_
  rintro e w17 ⟨v, rfl, hn, L17, _⟩
  obtain ⟨ao, c, rfl⟩ := hn.len
  rw [sa9.2.2.2.1]
  have L17H := Hid.intro L17
  clear P16H hn L17
  go_wp2_with fail
  refine (hnew_no 0 (by omega) w17).mono ?_
  rintro e w18 ⟨rfl, B18⟩
  have FI := Hid.intro ((L17H.out.below B18).out (Nat.le_refl _))
  clear B18 L17H
  go_wp2
  go_ret
  exact ⟨rfl, FI.out⟩

end Go.Proofs.Ythfmgdhhjnngaaa
