/- Package field's calls, by the names that the laws' texts lean on: fexp_any, flog_any, finv_any (Pow: FldP). -/
import Derived.Test.YtebjkbhidpdpfaaFldM
namespace Go.Proofs.Ytebjkbhidpdpfaa
open Go.RowKit
open Bt

theorem fexp_any (i : Int) (w : World) :
    Calls Try.prog 44 #[.int .i64 i] w fun e w' => e = .returned (.int .u8 ((expA i : Nat) : Int)) ∧ Below w.heap.size w w' := exp_any i w

theorem flog_any (a : Nat) (ha : a < 256) (w : World) :
    Calls Try.prog 45 #[.int .u8 (a : Int)] w fun e w' => e = .returned (.int .i64 (rlog a)) ∧ Below w.heap.size w w' := log_any a ha w

theorem finv_any (a : Nat) (ha : a < 256) (w : World) :
    Calls Try.prog 41 #[.int .u8 (a : Int)] w fun e w' => e = .returned (.int .u8 ((ginv a : Nat) : Int)) ∧ Below w.heap.size w w' := by
  by_cases a0 : a = 0
  · subst a0
    rw [show ginv 0 = 0 from rfl]
    go_enter Try.func41, Try.ntmps41
    go_wp2
    go_ret
    exact ⟨rfl, Below.refl _ _⟩
  have ja : ((a : Int) == 0) = false := by rw [beq_eq_false_iff_ne]; omega
  have la := lg_lt ha a0
  have HA := Hid.intro (fun w => flog_any a ha w)
  have ea : rlog a = (lg a : Int) := by unfold rlog; rw [if_neg a0]
  rw [ea] at HA
  have HE := Hid.intro (fun w => fexp_any (255 - (lg a : Int)) w)
  have ee : expA (255 - (lg a : Int)) = ginv a := by
    unfold expA ginv
    rw [if_pos (by omega), if_neg a0]
    congr 1
    omega
  rw [ee] at HE
  clear ea ee
  generalize lg a = A at la HA HE
  generalize ginv a = R at HE ⊢
  go_enter Try.func41, Try.ntmps41
  go_wp2_with fail
  refine (HA.out w).mono ?_
  rintro e w1 ⟨rfl, B1⟩
  have HB1 := Hid.intro B1
  clear B1 HA
  go_wp2_with fail
  refine (HE.out w1).mono ?_
  rintro e w3 ⟨rfl, B3⟩
  have HB3 := Hid.intro (HB1.out.trans (B3.mono HB1.out.size))
  clear B3 HE HB1
  go_wp2
  go_ret
  exact ⟨rfl, HB3.out⟩

end Go.Proofs.Ytebjkbhidpdpfaa
