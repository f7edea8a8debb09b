/- Contracts of package crc: which bit comes, a step, a number's bytes and the number of bytes. -/
import Derived.Test.YtaieohnppeapfaaDoorBase
import Derived.Test.YtaieohnppeapfaaDoorCrcRev
import Derived.Laws.EntriesVeiled
import Derived.Laws.Rows
namespace Go.Proofs.YtaieohnppeapfaaDoor
open Go.RowKit
open Bt

theorem ofInt_u32 (a : Nat) (ha : a < 2 ^ 32) : (BitVec.ofInt 32 (a : Int)).toNat = a := by
  rw [BitVec.ofInt_natCast, BitVec.toNat_ofNat]; exact Nat.mod_eq_of_lt (by omega)

theorem u32_and_nat (a b : Nat) (ha : a < 2 ^ 32) (hb : b < 2 ^ 32) : bits .and .u32 (a : Int) (b : Int) = ((a &&& b : Nat) : Int) := by
  have hx : a &&& b < 2 ^ 32 := Nat.and_lt_two_pow _ hb
  show IntKind.u32.wrap ((BitVec.ofInt 32 (a : Int) &&& BitVec.ofInt 32 (b : Int)).toNat : Int) = _
  rw [BitVec.toNat_and, ofInt_u32 a ha, ofInt_u32 b hb]
  exact IntWalk.u32_in _ (by omega)

theorem u32_or_nat (a b : Nat) (ha : a < 2 ^ 32) (hb : b < 2 ^ 32) : bits .or .u32 (a : Int) (b : Int) = ((a ||| b : Nat) : Int) := by
  have hx : a ||| b < 2 ^ 32 := Nat.or_lt_two_pow ha hb
  show IntKind.u32.wrap ((BitVec.ofInt 32 (a : Int) ||| BitVec.ofInt 32 (b : Int)).toNat : Int) = _
  rw [BitVec.toNat_or, ofInt_u32 a ha, ofInt_u32 b hb]
  exact IntWalk.u32_in _ (by omega)

theorem u32_xor_nat (a b : Nat) (ha : a < 2 ^ 32) (hb : b < 2 ^ 32) : bits .xor .u32 (a : Int) (b : Int) = ((a ^^^ b : Nat) : Int) := by
  have hx : a ^^^ b < 2 ^ 32 := Nat.xor_lt_two_pow ha hb
  show IntKind.u32.wrap ((BitVec.ofInt 32 (a : Int) ^^^ BitVec.ofInt 32 (b : Int)).toNat : Int) = _
  rw [BitVec.toNat_xor, ofInt_u32 a ha, ofInt_u32 b hb]
  exact IntWalk.u32_in _ (by omega)

/-- A shifted number's last bit. -/
theorem u32_bit (n j : Nat) (hn : n < 2 ^ 32) : bits .and .u32 ((n : Int) / 2 ^ j) 1 = ((n / 2 ^ j % 2 : Nat) : Int) := by
  have e : ((n : Int) / 2 ^ j) = ((n / 2 ^ j : Nat) : Int) := by simp
  have hlt : n / 2 ^ j < 2 ^ 32 := Nat.lt_of_le_of_lt (Nat.div_le_self _ _) hn
  have h := u32_and_nat (n / 2 ^ j) 1 hlt (by decide)
  rw [Nat.and_one_is_mod] at h
  rw [e]; exact h

theorem lowest_any (b t : Nat) (hb : b < 256) (ht : t < 8) (w : World) :
    Calls Tryd.prog 55 #[U b, .int .i64 t] w fun e w' => e = .returned (.int .u32 ((b / 2 ^ t % 2 : Nat) : Int)) ∧ w = w' := by
  go_enter Tryd.func55, Tryd.ntmps55
  go_wp2
  go_ret
  exact ⟨ret_int (u32_bit b t (by omega)), rfl⟩

theorem highest_any (b t : Nat) (hb : b < 256) (ht : t < 8) (w : World) :
    Calls Tryd.prog 53 #[U b, .int .i64 t] w fun e w' => e = .returned (.int .u32 ((b / 2 ^ (7 - t) % 2 : Nat) : Int)) ∧ w = w' := by
  have e7 : (7 : Int) - t = ((7 - t : Nat) : Int) := by omega
  go_enter Tryd.func53, Tryd.ntmps53
  go_wp2_with fail
  refine (lowest_any b (7 - t) hb (by omega) w).mono ?_
  rintro e w' ⟨rfl, rfl⟩
  go_wp2
  go_ret
  exact ⟨rfl, rfl⟩

theorem asItIs_any (s : Int) (w : World) :
    Calls Tryd.prog 54 #[.int .u32 s] w fun e w' => e = .returned (.int .u32 s) ∧ w = w' := by
  go_enter Tryd.func54, Tryd.ntmps54
  go_wp2
  go_ret
  exact ⟨rfl, rfl⟩

theorem sw_int (k M s : Nat) (hs : s < 4294967296) (hM : M < 4294967296) : bits .or .u32 (bits .and .u32 ((s : Int) / ((2 ^ k : Nat) : Int)) (M : Int)) (bits .and .u32 (s : Int) (M : Int) * ((2 ^ k : Nat) : Int) % 4294967296) = ((sw k M s : Nat) : Int) := by
  have h1 : s / 2 ^ k < 4294967296 := Nat.lt_of_le_of_lt (Nat.div_le_self _ _) hs
  have h2 : s / 2 ^ k &&& M < 4294967296 := Nat.and_lt_two_pow (n := 32) _ hM
  rw [← Int.natCast_ediv, u32_and_nat _ _ h1 hM, u32_and_nat _ _ hs hM, ← Int.natCast_mul, show (4294967296 : Int) = ((4294967296 : Nat) : Int) from rfl, ← Int.natCast_emod, u32_or_nat _ _ h2 (Nat.mod_lt _ (by decide))]
  rfl

theorem sw1 (s : Nat) (hs : s < 4294967296) : bits .or .u32 (bits .and .u32 ((s : Int) / 2) 1431655765) (bits .and .u32 (s : Int) 1431655765 * 2 % 4294967296) = ((sw 1 1431655765 s : Nat) : Int) := sw_int 1 1431655765 s hs (by decide)
theorem sw2 (s : Nat) (hs : s < 4294967296) : bits .or .u32 (bits .and .u32 ((s : Int) / 4) 858993459) (bits .and .u32 (s : Int) 858993459 * 4 % 4294967296) = ((sw 2 858993459 s : Nat) : Int) := sw_int 2 858993459 s hs (by decide)
theorem sw4 (s : Nat) (hs : s < 4294967296) : bits .or .u32 (bits .and .u32 ((s : Int) / 16) 252645135) (bits .and .u32 (s : Int) 252645135 * 16 % 4294967296) = ((sw 4 252645135 s : Nat) : Int) := sw_int 4 252645135 s hs (by decide)
theorem sw8 (s : Nat) (hs : s < 4294967296) : bits .or .u32 (bits .and .u32 ((s : Int) / 256) 16711935) (bits .and .u32 (s : Int) 16711935 * 256 % 4294967296) = ((sw 8 16711935 s : Nat) : Int) := sw_int 8 16711935 s hs (by decide)

theorem halves_int (s : Nat) (hs : s < 4294967296) : bits .or .u32 ((s : Int) / 65536) ((s : Int) * 65536 % 4294967296) = ((halves s : Nat) : Int) := by
  have h := u32_or_nat (s / 65536) (s * 65536 % 4294967296) (by omega) (Nat.mod_lt _ (by decide))
  exact h

theorem revBytes_any (s : Nat) (hs : s < 4294967296) (w : World) :
    Calls Tryd.prog 58 #[.int .u32 s] w fun e w' => e = .returned (.int .u32 ((halves (sw 8 16711935 s) : Nat) : Int)) ∧ w = w' := by
  go_enter Tryd.func58, Tryd.ntmps58
  go_wp2
  go_ret
  refine ⟨ret_int ?_, rfl⟩
  rw [sw8 s hs]
  exact halves_int _ (sw_lt _ _ _ (by decide))

theorem rev_any (s : Nat) (hs : s < 4294967296) (w : World) :
    Calls Tryd.prog 57 #[.int .u32 s] w fun e w' => e = .returned (.int .u32 ((rev32 s : Nat) : Int)) ∧ w = w' := by
  go_enter Tryd.func57, Tryd.ntmps57
  go_wp2_with fail
  rw [sw1 s hs, sw2 _ (sw_lt _ _ _ (by decide)), sw4 _ (sw_lt _ _ _ (by decide))]
  refine (revBytes_any _ (sw_lt _ _ _ (by decide)) w).mono ?_
  rintro e w' ⟨rfl, rfl⟩
  go_wp2
  go_ret
  exact ⟨rfl, rfl⟩

theorem xor_max (R : Nat) (h : R < 4294967296) : bits .xor .u32 IntKind.u32.max (R : Int) = ((4294967295 - R : Nat) : Int) := by
  have e : (4294967295 : Nat) ^^^ R = 4294967295 - R := by
    have h1 := congrArg BitVec.toNat (BitVec.allOnes_xor (x := BitVec.ofNat 32 R))
    rw [BitVec.toNat_xor, BitVec.toNat_not, BitVec.toNat_ofNat, Nat.mod_eq_of_lt (by omega), BitVec.toNat_allOnes] at h1
    simpa using h1
  rw [← e, show IntKind.u32.max = ((4294967295 : Nat) : Int) from rfl, u32_xor_nat _ _ (by decide) h]

theorem mirrored_any (s : Nat) (hs : s < 4294967296) (w : World) :
    Calls Tryd.prog 56 #[.int .u32 s] w fun e w' => e = .returned (.int .u32 ((turned s : Nat) : Int)) ∧ w = w' := by
  have hr := rev32_lt s
  have ht := turned_rev s
  generalize turned s = T at ht ⊢
  go_enter Tryd.func56, Tryd.ntmps56
  go_wp2_with fail
  refine (rev_any s hs w).mono ?_
  rintro e w' ⟨rfl, rfl⟩
  generalize rev32 s = R at hr ht ⊢
  go_wp2
  go_ret
  exact ⟨ret_int (xor_max R hr), rfl⟩

/-- A function as a value. -/
abbrev Fv (f : Nat) : Value := .func (.func f) #[] #[]

def wayCells : Array Value := #[.int .i64 16, .int .u32 4129, .int .u32 65535, Fv 53, Fv 54, .int .i64 32, .int .u32 79764919, .int .u32 4294967295, Fv 55, Fv 56]

theorem ways_any (w : World) :
    Calls Tryd.prog 47 #[] w fun e w' => e = .returned (.agg wayCells) ∧ Below w.heap.size w w' := by
  go_enter Tryd.func47, Tryd.ntmps47
  go_wp2
  (try simp only [Exit.inBlock, Exit.then])
  refine bodyPost_ret (results_cell_row rfl _ _ w.heap.size 75 wayCells (0, 0) _ rfl (heap_alloc_new _ _) Tryd.underlying75 rfl (by kernel_rfl)) rfl ?_
  exact ⟨rfl, (Below.refl _ w).alloc (Nat.le_refl _) _⟩

theorem step_and (n s : Nat) (hn : n < 32) : bits .and .u32 ((s : Int) * 2 % 4294967296) ((2 ^ (n + 1) - 1) % 4294967296) = ((2 * s % 2 ^ (n + 1) : Nat) : Int) := by
  have hp : 0 < 2 ^ (n + 1) := Nat.pow_pos (by decide)
  have hle : 2 ^ (n + 1) ≤ 2 ^ 32 := Nat.pow_le_pow_right (by decide) (by omega)
  have h := u32_and_nat (2 * s % 4294967296) (2 ^ (n + 1) - 1) (Nat.mod_lt _ (by decide)) (by omega)
  rw [and_low n s hn] at h
  rw [← h]
  congr 1
  · rw [Int.natCast_emod, Int.natCast_mul, Int.mul_comm]; rfl
  · have e : (2 : Int) ^ (n + 1) = ((2 ^ (n + 1) : Nat) : Int) := by simp
    rw [e]
    omega

theorem step_xor (n s b : Nat) (hs : s < 2 ^ (n + 1)) (hb : b < 2) : bits .xor .u32 (b : Int) ((s : Int) / 2 ^ n) = ((b ^^^ s / 2 ^ n : Nat) : Int) := by
  have hp : 0 < 2 ^ n := Nat.pow_pos (by decide)
  have hq : s / 2 ^ n < 2 := by rw [Nat.div_lt_iff_lt_mul hp]; rw [Nat.pow_succ] at hs; omega
  rw [← u32_xor_nat b (s / 2 ^ n) (by omega) (by omega)]
  simp

theorem step_any (pb n P : Nat) (s b : Nat) (F f g : Value) (hn : n < 32) (hs : s < 2 ^ (n + 1)) (hP : P < 2 ^ (n + 1)) (hb : b < 2) (w : World)
    (hw : w.heap[pb]? = some (.cells #[.int .i64 ((n + 1 : Nat) : Int), .int .u32 P, F, f, g] 74 (0, 0))) :
    Calls Tryd.prog 48 #[.pointer (some ⟨pb, 0, none⟩), .int .u32 s, .int .u32 b] w fun e w' => e = .returned (.int .u32 ((stp n P s b : Nat) : Int)) ∧ w = w' := by
  have c0 : w.cell? ⟨pb, 0, none⟩ = some (.int .i64 ((n + 1 : Nat) : Int)) := by rw [cell_of_row _ _ _ _ _ _ hw]; rfl
  have c1 : w.cell? ⟨pb, 1, none⟩ = some (.int .u32 P) := by rw [cell_of_row _ _ _ _ _ _ hw]; rfl
  clear hw
  have E := Hid.intro (stp_eq n P s b hs hb)
  generalize stp n P s b = T at E ⊢
  have X := step_xor n s b hs hb
  have hle : 2 ^ (n + 1) ≤ 2 ^ 32 := Nat.pow_le_pow_right (by decide) (by omega)
  have hm : 2 * s % 2 ^ (n + 1) < 2 ^ (n + 1) := Nat.mod_lt _ (Nat.pow_pos (by decide))
  by_cases h : b ^^^ s / 2 ^ n = 1
  · have hx : (bits .xor .u32 (b : Int) ((s : Int) / 2 ^ n) == 1) = true := by rw [X, h]; rfl
    have E' := E.out
    rw [if_pos h] at E'
    have A := step_and n s hn
    have HM := Hid.intro (And.intro hm hle)
    have HE := Hid.intro E'
    have HA := Hid.intro A
    clear X E E' h hm hle A hs
    go_enter Tryd.func48, Tryd.ntmps48
    go_wp2
    go_ret
    refine ⟨ret_int ?_, rfl⟩
    rw [HA.out, u32_xor_nat _ _ (by have := HM.out; omega) (by have := HM.out; omega), HE.out]
  · have hx : (bits .xor .u32 (b : Int) ((s : Int) / 2 ^ n) == 1) = false := by
      rw [X]
      simp only [beq_eq_false_iff_ne, ne_eq]
      intro e
      exact h (by exact_mod_cast e)
    have E' := E.out
    rw [if_neg h] at E'
    have HE := Hid.intro E'
    have HA := Hid.intro (step_and n s hn)
    clear X E E' h hm hle hs
    go_enter Tryd.func48, Tryd.ntmps48
    go_wp2
    go_ret
    exact ⟨ret_int (by rw [HA.out, HE.out]), rfl⟩

end Go.Proofs.YtaieohnppeapfaaDoor
