/- Contracts of the small functions of package bits: isWidth, isField, shiftOf answer by definition, and touch no memory. -/
import Derived.Test.YtfmnnhpadpjegaaRows
import Derived.Test.YtfmnnhpadpjegaaPure
import Derived.WalkKit
import Derived.WalkSpells
import Derived.WalkLawsBesides
import Derived.Deep.QuietTactic
import Derived.BigQuiet
namespace Go.Proofs.Ytfmnnhpadpjegaa
open Go.RowKit
open Bt

def isW (w : Int) : Bool := decide (1 ≤ w) && decide (w ≤ 32)
def isF (n w : Int) : Bool := isW w && (decide (0 ≤ n) && decide (n < 2 ^ w.toNat))

theorem isW_true {w : Int} (h : isW w = true) : 1 ≤ w ∧ w ≤ 32 := by simpa [isW] using h
theorem isW_false {w : Int} (h : isW w = false) : w < 1 ∨ 32 < w := by
  simp [isW] at h; omega

theorem ofInt_i64 (a : Nat) (ha : a < 2 ^ 63) : (BitVec.ofInt 64 (a : Int)).toNat = a := by
  rw [BitVec.ofInt_natCast, BitVec.toNat_ofNat]; exact Nat.mod_eq_of_lt (by omega)

theorem i64_and_nat (a b : Nat) (ha : a < 2 ^ 63) (hb : b < 2 ^ 63) : bits .and .i64 (a : Int) (b : Int) = ((a &&& b : Nat) : Int) := by
  have hx : a &&& b < 2 ^ 63 := Nat.and_lt_two_pow _ hb
  show IntKind.i64.wrap ((BitVec.ofInt 64 (a : Int) &&& BitVec.ofInt 64 (b : Int)).toNat : Int) = _
  rw [BitVec.toNat_and, ofInt_i64 a ha, ofInt_i64 b hb]
  exact IntWalk.i64_in _ (by omega)

theorem i64_or_nat (a b : Nat) (ha : a < 2 ^ 63) (hb : b < 2 ^ 63) : bits .or .i64 (a : Int) (b : Int) = ((a ||| b : Nat) : Int) := by
  have hx : a ||| b < 2 ^ 63 := Nat.or_lt_two_pow ha hb
  show IntKind.i64.wrap ((BitVec.ofInt 64 (a : Int) ||| BitVec.ofInt 64 (b : Int)).toNat : Int) = _
  rw [BitVec.toNat_or, ofInt_i64 a ha, ofInt_i64 b hb]
  exact IntWalk.i64_in _ (by omega)

/-- A shifted number's last bit. -/
theorem and_bit (n j : Nat) (hn : n < 2 ^ 63) : bits .and .i64 ((n : Int) / 2 ^ j) 1 = ((n / 2 ^ j % 2 : Nat) : Int) := by
  have e : ((n : Int) / 2 ^ j) = ((n / 2 ^ j : Nat) : Int) := by simp
  have hlt : n / 2 ^ j < 2 ^ 63 := Nat.lt_of_le_of_lt (Nat.div_le_self _ _) hn
  have h := i64_and_nat (n / 2 ^ j) 1 hlt (by decide)
  rw [Nat.and_one_is_mod] at h
  rw [e]; exact h

/-- A bit more behind a number. -/
theorem or_bit (n b : Nat) (hn : n < 2 ^ 62) (hb : b < 2) : bits .or .i64 (((2 * n : Nat) : Int)) (b : Int) = ((2 * n + b : Nat) : Int) := by
  rw [i64_or_nat _ _ (by omega) (by omega)]
  have := Nat.two_pow_add_eq_or_of_lt (i := 1) (b := b) (by omega) n
  simp at this
  rw [← this]

theorem ret_int {k : IntKind} {a b : Int} (h : a = b) : Ending.returned (.int k a) = .returned (.int k b) := by rw [h]

theorem ret_bool {a b : Bool} (h : a = b) : Ending.returned (.bool a) = .returned (.bool b) := by rw [h]

theorem isWidth_any (n : Int) (w : World) :
    Calls Try.prog 24 #[.int .i64 n] w fun e w' => e = .returned (.bool (isW n)) ∧ w = w' := by
  by_cases h1 : 1 ≤ n
  · by_cases h2 : n ≤ 32
    · have hw : isW n = true := by simp [isW, h1, h2]
      rw [hw]
      go_enter Try.func24, Try.ntmps24
      go_wp2
      go_ret
      exact ⟨rfl, rfl⟩
    · have hw : isW n = false := by simp [isW, h1, h2]
      rw [hw]
      go_enter Try.func24, Try.ntmps24
      go_wp2
      go_ret
      exact ⟨rfl, rfl⟩
  · have hw : isW n = false := by simp [isW, h1]
    rw [hw]
    go_enter Try.func24, Try.ntmps24
    go_wp2
    go_ret
    exact ⟨rfl, rfl⟩

theorem shiftOf_any (n : Nat) (hn : n < 2 ^ 62) (w : World) :
    Calls Try.prog 26 #[.int .i64 n] w fun e w' => e = .returned (.int .i64 ((7 - n % 8 : Nat) : Int)) ∧ w' = w := by
  have h8 : n % 8 < 8 := Nat.mod_lt _ (by decide)
  go_enter Try.func26, Try.ntmps26
  go_wp2
  go_ret
  exact ⟨ret_int (by omega), rfl⟩

theorem isF_eq {n m : Int} (h : isW m = true) (h0 : 0 ≤ n) : isF n m = (n / 2 ^ m.toNat == 0) := by
  have hp : (0 : Int) < 2 ^ m.toNat := Int.pow_pos (by decide)
  rw [Bool.eq_iff_iff]
  simp only [isF, h, Bool.true_and, Bool.and_eq_true, decide_eq_true_eq, beq_iff_eq]
  constructor
  · rintro ⟨_, h2⟩; exact Int.ediv_eq_zero_of_lt h0 h2
  · intro e
    refine ⟨h0, ?_⟩
    have := Int.lt_mul_of_ediv_lt hp (a := n) (b := 1) (by rw [e]; decide)
    simpa using this

theorem isField_any (n m : Int) (w : World) :
    Calls Try.prog 21 #[.int .i64 n, .int .i64 m] w fun e w' => e = .returned (.bool (isF n m)) ∧ w = w' := by
  cases h : isW m with
  | false =>
    have hf : isF n m = false := by simp [isF, h]
    rw [hf]
    go_enter Try.func21, Try.ntmps21
    go_wp2_with (go_at_call 24; refine (isWidth_any _ _).mono ?_; rintro e w' ⟨rfl, rfl⟩; rw [h])
    go_ret
    exact ⟨rfl, rfl⟩
  | true =>
    obtain ⟨h1, h2⟩ := isW_true h
    by_cases h0 : 0 ≤ n
    · go_enter Try.func21, Try.ntmps21
      go_wp2_with (go_at_call 24; refine (isWidth_any _ _).mono ?_; rintro e w' ⟨rfl, rfl⟩; rw [h])
      go_ret
      exact ⟨ret_bool (isF_eq h h0).symm, rfl⟩
    · have hf : isF n m = false := by simp [isF, h0]
      rw [hf]
      go_enter Try.func21, Try.ntmps21
      go_wp2_with (go_at_call 24; refine (isWidth_any _ _).mono ?_; rintro e w' ⟨rfl, rfl⟩; rw [h])
      go_ret
      exact ⟨rfl, rfl⟩

end Go.Proofs.Ytfmnnhpadpjegaa
