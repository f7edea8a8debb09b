/- Package field's Div: fdiv_any. -/
import Derived.Test.YtebjkbhidpdpfaaFldC
namespace Go.Proofs.Ytebjkbhidpdpfaa
open Go.RowKit
open Bt

theorem fdiv_any (a b : Nat) (ha : a < 256) (hb : b < 256) (w : World) :
    Calls Try.prog 39 #[.int .u8 (a : Int), .int .u8 (b : Int)] w fun e w' => e = .returned (.int .u8 ((gmul a (ginv b) : Nat) : Int)) ∧ Below w.heap.size w w' := by
  have HA := Hid.intro (finv_any b hb w)
  have HM := Hid.intro (fun w => fmul_any a (ginv b) ha (ginv_lt b) w)
  generalize gmul a (ginv b) = R at HM ⊢
  generalize ginv b = I at HA HM
  go_enter Try.func39, Try.ntmps39
  go_wp2_with fail
  refine HA.out.mono ?_
  rintro e w1 ⟨rfl, B1⟩
  have HB1 := Hid.intro B1
  clear B1 HA
  go_wp2_with fail
  refine (HM.out w1).mono ?_
  rintro e w3 ⟨rfl, B3⟩
  have HB3 := Hid.intro (HB1.out.trans (B3.mono HB1.out.size))
  clear B3 HM HB1
  go_wp2
  go_ret
  exact ⟨rfl, HB3.out⟩

end Go.Proofs.Ytebjkbhidpdpfaa
