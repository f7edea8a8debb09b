/- Package field's calls, by the names that the laws' texts lean on: fadd_any, fmul_any, finv_any, fpow_any, fexp_any, flog_any. -/
import Derived.Test.YtookbbefjfpicaaFldM
namespace Go.Proofs.Ytookbbefjfpicaa
open Go.RowKit
open Bt

theorem fexp_any (i : Int) (w : World) :
    Calls Try.prog 18 #[.int .i64 i] w fun e w' => e = .returned (.int .u8 ((expA i : Nat) : Int)) ∧ Below w.heap.size w w' := exp_any i w

theorem flog_any (a : Nat) (ha : a < 256) (w : World) :
    Calls Try.prog 19 #[.int .u8 (a : Int)] w fun e w' => e = .returned (.int .i64 (rlog a)) ∧ Below w.heap.size w w' := log_any a ha w

theorem finv_any (a : Nat) (ha : a < 256) (w : World) :
    Calls Try.prog 13 #[.int .u8 (a : Int)] w fun e w' => e = .returned (.int .u8 ((ginv a : Nat) : Int)) ∧ Below w.heap.size w w' := by
  by_cases a0 : a = 0
  · subst a0
    rw [show ginv 0 = 0 from rfl]
    go_enter Try.func13, Try.ntmps13
    go_wp2
    go_ret
    exact ⟨rfl, Below.refl _ _⟩
  have ja : ((a : Int) == 0) = false := by rw [beq_eq_false_iff_ne]; omega
  have la := lg_lt ha a0
  have HA := Hid.intro (fun w => flog_any a ha w)
  have ea : rlog a = (lg a : Int) := by unfold rlog; rw [if_neg a0]
  rw [ea] at HA
  have HE := Hid.intro (fun w => fexp_any (255 - (lg a : Int)) w)
  have ee : expA (255 - (lg a : Int)) = ginv a := by
    unfold expA ginv
    rw [if_pos (by omega), if_neg a0]
    congr 1
    omega
  rw [ee] at HE
  clear ea ee
  generalize lg a = A at la HA HE
  generalize ginv a = R at HE ⊢
  go_enter Try.func13, Try.ntmps13
  go_wp2_with fail
  refine (HA.out w).mono ?_
  rintro e w1 ⟨rfl, B1⟩
  have HB1 := Hid.intro B1
  clear B1 HA
  go_wp2_with fail
  refine (HE.out w1).mono ?_
  rintro e w3 ⟨rfl, B3⟩
  have HB3 := Hid.intro (HB1.out.trans (B3.mono HB1.out.size))
  clear B3 HE HB1
  go_wp2
  go_ret
  exact ⟨rfl, HB3.out⟩

theorem fpow_any (a : Nat) (n : Int) (ha : a < 256) (w : World) :
    Calls Try.prog 16 #[.int .u8 (a : Int), .int .i64 n] w fun e w' => e = .returned (.int .u8 ((powA a n : Nat) : Int)) ∧ Below w.heap.size w w' := by
  unfold powA
  by_cases hn : n < 0
  · rw [if_pos hn]
    go_enter Try.func16, Try.ntmps16
    go_wp2
    go_ret
    exact ⟨rfl, Below.refl _ _⟩
  rw [if_neg hn]
  obtain ⟨N, rfl⟩ := Int.eq_ofNat_of_zero_le (show 0 ≤ n by omega)
  have j0 : decide ((N : Int) < 0) = false := by simp
  rw [Int.toNat_natCast]
  by_cases n0 : N = 0
  · subst n0
    go_enter Try.func16, Try.ntmps16
    go_wp2
    go_ret
    exact ⟨rfl, Below.refl _ _⟩
  have j1 : ((N : Int) == 0) = false := by rw [beq_eq_false_iff_ne]; omega
  by_cases a0 : a = 0
  · subst a0
    rw [gpow_zero (by omega)]
    go_enter Try.func16, Try.ntmps16
    go_wp2
    go_ret
    exact ⟨rfl, Below.refl _ _⟩
  have ja : ((a : Int) == 0) = false := by rw [beq_eq_false_iff_ne]; omega
  have la := lg_lt ha a0
  have HA := Hid.intro (fun w => flog_any a ha w)
  have ea : rlog a = (lg a : Int) := by unfold rlog; rw [if_neg a0]
  rw [ea] at HA
  have ep := gpow_lg ha a0 N
  generalize lg a = A at la HA ep
  obtain ⟨M, hM⟩ : ∃ M, M = N % 255 := ⟨_, rfl⟩
  have hMl : M < 255 := by rw [hM]; exact Nat.mod_lt _ (by decide)
  have hMm : (N : Int) % 255 = (M : Int) := by omega
  obtain ⟨K, hK⟩ : ∃ K, K = A * M % 255 := ⟨_, rfl⟩
  have hKl : K < 255 := by rw [hK]; exact Nat.mod_lt _ (by decide)
  have hKm : (A : Int) * (M : Int) % 255 = (K : Int) := by rw [hK, Int.natCast_emod, Int.natCast_mul]; rfl
  have hb1 : A * M ≤ 254 * 254 := Nat.mul_le_mul (by omega) (by omega)
  have hb2 : (A : Int) * (M : Int) ≤ 64516 := by
    have := Int.ofNat_le.2 hb1
    rw [Int.natCast_mul] at this
    exact this
  have hb3 : (0 : Int) ≤ (A : Int) * (M : Int) := Int.mul_nonneg (by omega) (by omega)
  have HE := Hid.intro (fun w => fexp_any (K : Int) w)
  have ee : expA (K : Int) = gpow a N := by
    unfold expA
    rw [if_pos (by omega), ep, Int.toNat_natCast, hK, ← pw_mod, pw_mod (A * M), pw_mod (A * N), hM]
    congr 1
    rw [Nat.mul_mod, Nat.mod_mod, ← Nat.mul_mod]
  rw [ee] at HE
  clear ea ee hM hK ep
  generalize gpow a N = R at HE ⊢
  go_enter Try.func16, Try.ntmps16
  go_wp2_with fail
  refine (HA.out w).mono ?_
  rintro e w1 ⟨rfl, B1⟩
  have HB1 := Hid.intro B1
  clear B1 HA
  go_wp2_with fail
  refine (HE.out w1).mono ?_
  rintro e w3 ⟨rfl, B3⟩
  have HB3 := Hid.intro (HB1.out.trans (B3.mono HB1.out.size))
  clear B3 HE HB1
  go_wp2
  go_ret
  exact ⟨rfl, HB3.out⟩

end Go.Proofs.Ytookbbefjfpicaa
