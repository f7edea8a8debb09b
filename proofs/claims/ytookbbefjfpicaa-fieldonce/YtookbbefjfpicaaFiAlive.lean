/- The document's example of layer 4 comes out, and touches nothing that was there. -/
import Derived.Test.YtookbbefjfpicaaFldC
namespace Go.Proofs.Ytookbbefjfpicaa
open Go.RowKit
open Bt

set_option maxRecDepth 100000 in
set_option maxHeartbeats 1000000 in
theorem alive_any (w : World) :
    Calls Try.prog 9 #[] w fun e w' => e = .returned (.bool true) ∧ Below w.heap.size w w' := by
  have HA := Hid.intro (fun w => fmul_any 2 128 (by decide) (by decide) w)
  rw [show gmul 2 128 = 29 from by decide +kernel] at HA
  have HB := Hid.intro (fun w => finv_any 7 (by decide) w)
  have HC := Hid.intro (fun w => fmul_any (ginv 7) 7 (ginv_lt 7) (by decide) w)
  rw [show gmul (ginv 7) 7 = 1 from by decide +kernel] at HC
  generalize ginv 7 = I7 at HB HC
  have HD := Hid.intro (fun w => fexp_any 8 w)
  rw [show expA 8 = 29 from by decide +kernel] at HD
  have HE := Hid.intro (fun w => flog_any 2 (by decide) w)
  rw [show rlog 2 = 1 from by decide +kernel] at HE
  have HF := Hid.intro (fun w => fadd_any 5 3 (by decide) (by decide) w)
  rw [show 5 ^^^ 3 = 6 from by decide] at HF
  have HG := Hid.intro (fun w => fpow_any 2 8 (by decide) w)
  rw [show powA 2 8 = 29 from by decide +kernel] at HG
  have D0 := Below.refl w.heap.size w
  obtain ⟨w0, hw0⟩ : ∃ w0, w0 = w := ⟨_, rfl⟩
  rw [← hw0] at D0 ⊢
  clear hw0
  go_enter Try.func9, Try.ntmps9
  go_wp2_with fail
  refine (HA.out w0).mono ?_
  rintro e w1 ⟨rfl, B1⟩
  have D1 := D0.trans (B1.mono D0.size)
  clear B1 D0
  go_wp2_with fail
  refine (HB.out w1).mono ?_
  rintro e w2 ⟨rfl, B2⟩
  have D2 := D1.trans (B2.mono D1.size)
  clear B2 D1
  go_wp2_with fail
  refine (HC.out w2).mono ?_
  rintro e w3 ⟨rfl, B3⟩
  have D3 := D2.trans (B3.mono D2.size)
  clear B3 D2
  go_wp2_with fail
  refine (HD.out w3).mono ?_
  rintro e w4 ⟨rfl, B4⟩
  have D4 := D3.trans (B4.mono D3.size)
  clear B4 D3
  go_wp2_with fail
  refine (HE.out w4).mono ?_
  rintro e w5 ⟨rfl, B5⟩
  have D5 := D4.trans (B5.mono D4.size)
  clear B5 D4
  go_wp2_with fail
  refine (HF.out w5).mono ?_
  rintro e w6 ⟨rfl, B6⟩
  have D6 := D5.trans (B6.mono D5.size)
  clear B6 D5
  go_wp2_with fail
  refine (HG.out w6).mono ?_
  rintro e w7 ⟨rfl, B7⟩
  have D7 := D6.trans (B7.mono D6.size)
  clear B7 D6
  go_wp2
  go_ret
  exact ⟨rfl, D7⟩

end Go.Proofs.Ytookbbefjfpicaa
