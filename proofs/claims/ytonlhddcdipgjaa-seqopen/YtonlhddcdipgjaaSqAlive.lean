/- The example of layer 6 comes out, and touches nothing that was there. -/
import Derived.Test.YtonlhddcdipgjaaSqCon
namespace Go.Proofs.Ytonlhddcdipgjaa
open Go.RowKit
open Bt

set_option maxHeartbeats 1000000 in
theorem alive_any (w : World) :
    Calls Try.prog 9 #[] w fun e w' => e = .returned (.bool true) ∧ Below w.heap.size w w' := by
  go_enter Try.func9, Try.ntmps9
  have D0 := Below.refl w.heap.size w
  have s0 := smake_any 2 3 w
  rw [show makeA 2 3 = 35 from by decide, show isM 2 3 = true from by decide] at s0
  have S0 := Hid.intro s0
  clear s0
  go_wp2_with fail
  refine S0.out.mono ?_
  clear S0
  rintro e w1 ⟨rfl, B1⟩
  have D1 := D0.trans (B1.mono D0.size)
  clear B1 D0
  have s1 := ssplit_any 35 w1
  rw [show splitG 35 = 2 from by decide, show splitP 35 = 3 from by decide, show isS 35 = true from by decide] at s1
  have S1 := Hid.intro s1
  clear s1
  go_wp2_with fail
  refine S1.out.mono ?_
  clear S1
  rintro e w2 ⟨rfl, B2⟩
  have D2 := D1.trans (B2.mono D1.size)
  clear B2 D1
  have s2 := sfar_any 254 1 w2
  rw [show farA 254 1 = 3 from by decide] at s2
  have S2 := Hid.intro s2
  clear s2
  go_wp2_with fail
  refine S2.out.mono ?_
  clear S2
  rintro e w3 ⟨rfl, B3⟩
  have D3 := D2.trans (B3.mono D2.size)
  clear B3 D2
  have s3 := sopen_any 254 1 w3
  rw [show openA 254 1 = true from by decide] at s3
  have S3 := Hid.intro s3
  clear s3
  go_wp2_with fail
  refine S3.out.mono ?_
  clear S3
  rintro e w4 ⟨rfl, B4⟩
  have D4 := D3.trans (B4.mono D3.size)
  clear B4 D3
  have s4 := sopen_any 254 2 w4
  rw [show openA 254 2 = false from by decide] at s4
  have S4 := Hid.intro s4
  clear s4
  go_wp2_with fail
  refine S4.out.mono ?_
  clear S4
  rintro e w5 ⟨rfl, B5⟩
  have D5 := D4.trans (B5.mono D4.size)
  clear B5 D4
  have s5 := sbehind_any 5 4 w5
  rw [show behindA 5 4 = true from by decide] at s5
  have S5 := Hid.intro s5
  clear s5
  go_wp2_with fail
  refine S5.out.mono ?_
  clear S5
  rintro e w6 ⟨rfl, B6⟩
  have D6 := D5.trans (B6.mono D5.size)
  clear B6 D5
  have s6 := snext_any 255 2 (by decide) w6
  rw [show nextA 255 2 = 1 from by decide] at s6
  have S6 := Hid.intro s6
  clear s6
  go_wp2_with fail
  refine S6.out.mono ?_
  clear S6
  rintro e w7 ⟨rfl, B7⟩
  have D7 := D6.trans (B7.mono D6.size)
  clear B7 D6
  go_wp2
  go_ret
  exact ⟨rfl, D7⟩

end Go.Proofs.Ytonlhddcdipgjaa
