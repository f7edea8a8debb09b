/- Bytes, exclusively or-ed. -/
import Derived.Test.YtebjkbhidpdpfabBase
namespace Go.Proofs.Ytebjkbhidpdpfab

theorem fu8_ofInt (a : Nat) (ha : a < 256) : (BitVec.ofInt 8 (a : Int)).toNat = a := by
  rw [BitVec.ofInt_natCast, BitVec.toNat_ofNat]; exact Nat.mod_eq_of_lt (by omega)

theorem fu8_xor (a b : Nat) (ha : a < 256) (hb : b < 256) : bits .xor .u8 (a : Int) (b : Int) = ((a ^^^ b : Nat) : Int) := by
  have hx : a ^^^ b < 2 ^ 8 := Nat.xor_lt_two_pow ha hb
  show IntKind.u8.wrap ((BitVec.ofInt 8 (a : Int) ^^^ BitVec.ofInt 8 (b : Int)).toNat : Int) = _
  rw [BitVec.toNat_xor, fu8_ofInt a ha, fu8_ofInt b hb]
  exact IntWalk.u8_in _ (by omega)

end Go.Proofs.Ytebjkbhidpdpfab
