/- A code of layer 5 as a value; a bit of a number of 16 bits. -/
import Derived.Test.YthhggjakenalpaaGreatDoorBase
namespace Go.Proofs.YthhggjakenalpaaGreatDoor
set_option maxRecDepth 100000
open Go.RowKit

/-- A code as a value. -/
abbrev Cd (k n s : Int) : Value := .agg #[.int .i64 k, .int .i64 n, .int .i64 s]

theorem u16_bit (q t : Nat) (hq : q < 65536) : (bits .and .u16 ((q : Int) / 2 ^ t) 1 == 1) = decide (q / 2 ^ t % 2 = 1) := by
  have e : ((q : Int) / 2 ^ t) = ((q / 2 ^ t : Nat) : Int) := by simp
  have hlt : q / 2 ^ t < 65536 := Nat.lt_of_le_of_lt (Nat.div_le_self _ _) hq
  rw [e]
  generalize q / 2 ^ t = m at hlt
  have hx : m &&& 1 < 2 ^ 16 := Nat.and_lt_two_pow _ (by decide)
  have h : bits .and .u16 (m : Int) 1 = ((m % 2 : Nat) : Int) := by
    show IntKind.u16.wrap ((BitVec.ofInt 16 (m : Int) &&& BitVec.ofInt 16 ((1 : Nat) : Int)).toNat : Int) = _
    rw [BitVec.toNat_and, BitVec.ofInt_natCast, BitVec.ofInt_natCast, BitVec.toNat_ofNat, BitVec.toNat_ofNat, Nat.mod_eq_of_lt (by omega), Nat.mod_eq_of_lt (by decide), Nat.and_one_is_mod]
    exact IntWalk.u16_in _ (by omega)
  rw [h, Bool.eq_iff_iff]
  simp only [beq_iff_eq, decide_eq_true_eq]
  omega

end Go.Proofs.YthhggjakenalpaaGreatDoor
