/- Package frame: the head of a frame, as a pen writes it. -/
import Derived.Test.YtaieohnppeapfaaDoorFrmA
import Derived.Test.YtaieohnppeapfaaDoorBitsEye
namespace Go.Proofs.YtaieohnppeapfaaDoor
open Go.RowKit
open Bt

/-- The table of widths, as it is laid. -/
def Wid (w : World) : Prop := ∃ t fr, w.heap[0]? = some (.cells #[.int .i64 8, .int .i64 12, .int .i64 3, .int .i64 7, .int .i64 2, .int .i64 8] t fr)

theorem Wid.below {w w' : World} (h : Wid w) (hb : Below w.heap.size w w') : Wid w' := by
  obtain ⟨t, fr, h⟩ := h
  exact ⟨t, fr, (hb.block 0 (lt_of_heap h)).trans h⟩

/-- The fields, the widths, the bits that were put, by the place. -/
def fAt (tx sq an rs kd : Int) (len : Nat) (k : Nat) : Int := [tx, sq, an, rs, kd, (len : Int)].getD k 0
def wAt (k : Nat) : Nat := [8, 12, 3, 7, 2, 8].getD k 0
def hAt (tx sq an rs kd : Int) (len : Nat) : Nat → List Nat
  | 0 => []
  | k + 1 => hAt tx sq an rs kd len k ++ putB (fAt tx sq an rs kd len k) (wAt k)

theorem hAt_length (tx sq an rs kd : Int) (len k : Nat) : (hAt tx sq an rs kd len k).length ≤ 32 * k := by
  induction k with
  | zero => simp [hAt]
  | succ k ih => rw [hAt, List.length_append]; have := putB_length (fAt tx sq an rs kd len k) (wAt k); omega

theorem Wid.cell {w : World} (h : Wid w) (k : Nat) (hk : k < 6) : w.cell? ⟨0, k, none⟩ = some (.int .i64 (wAt k : Int)) := by
  obtain ⟨t, fr, h⟩ := h
  rw [cell_of_row _ _ _ _ _ _ h]
  match k, hk with
  | 0, _ => rfl
  | 1, _ => rfl
  | 2, _ => rfl
  | 3, _ => rfl
  | 4, _ => rfl
  | 5, _ => rfl

theorem fa_index (tx sq an rs kd : Int) (len k : Nat) (hk : k < 6) (w : World) :
    (Instr.index 46 (FA tx sq an rs kd len) (.int .i64 (k : Int))).run Tryd.prog w = .ok (.int .i64 (fAt tx sq an rs kd len k)) w := by
  have i0 : (Instr.index 46 (FA tx sq an rs kd len) (.int .i64 0)).run Tryd.prog w = .ok (.int .i64 tx) w := by kernel_rfl
  have i1 : (Instr.index 46 (FA tx sq an rs kd len) (.int .i64 1)).run Tryd.prog w = .ok (.int .i64 sq) w := by kernel_rfl
  have i2 : (Instr.index 46 (FA tx sq an rs kd len) (.int .i64 2)).run Tryd.prog w = .ok (.int .i64 an) w := by kernel_rfl
  have i3 : (Instr.index 46 (FA tx sq an rs kd len) (.int .i64 3)).run Tryd.prog w = .ok (.int .i64 rs) w := by kernel_rfl
  have i4 : (Instr.index 46 (FA tx sq an rs kd len) (.int .i64 4)).run Tryd.prog w = .ok (.int .i64 kd) w := by kernel_rfl
  have i5 : (Instr.index 46 (FA tx sq an rs kd len) (.int .i64 5)).run Tryd.prog w = .ok (.int .i64 (len : Int)) w := by kernel_rfl
  match k, hk with
  | 0, _ => exact i0
  | 1, _ => exact i1
  | 2, _ => exact i2
  | 3, _ => exact i3
  | 4, _ => exact i4
  | 5, _ => exact i5

/-- All fields up to a place fit. -/
def okTo (tx sq an rs kd : Int) (len k : Nat) : Prop := ∀ j, j < k → isF (fAt tx sq an rs kd len j) (wAt j) = true

theorem isF_iff (n : Int) (m : Nat) (h1 : 1 ≤ m) (h2 : m ≤ 32) : isF n m = true ↔ 0 ≤ n ∧ n < 2 ^ m := by
  simp only [isF, isW, Bool.and_eq_true, decide_eq_true_eq, Int.toNat_natCast]
  omega

theorem okTo_frm {tx sq an rs kd : Int} {len : Nat} (h60 : len ≤ 60) (h : okTo tx sq an rs kd len 6) : isFrm tx sq an rs kd len = true := by
  have h0 := (isF_iff _ _ (by decide) (by decide)).1 (h 0 (by decide))
  have h1 := (isF_iff _ _ (by decide) (by decide)).1 (h 1 (by decide))
  have h2 := (isF_iff _ _ (by decide) (by decide)).1 (h 2 (by decide))
  have h3 := (isF_iff _ _ (by decide) (by decide)).1 (h 3 (by decide))
  have h4 := (isF_iff _ _ (by decide) (by decide)).1 (h 4 (by decide))
  simp only [fAt, wAt, List.getD_cons_zero, List.getD_cons_succ] at h0 h1 h2 h3 h4
  rw [isFrm_iff]
  omega

theorem frm_ok {tx sq an rs kd : Int} {len : Nat} (h : isFrm tx sq an rs kd len = true) (k : Nat) (hk : k < 6) : isF (fAt tx sq an rs kd len k) (wAt k) = true := by
  rw [isFrm_iff] at h
  match k, hk with
  | 0, _ => exact (isF_iff _ _ (by decide) (by decide)).2 (by simp only [fAt, wAt, List.getD_cons_zero]; omega)
  | 1, _ => exact (isF_iff _ _ (by decide) (by decide)).2 (by simp only [fAt, wAt, List.getD_cons_zero, List.getD_cons_succ]; omega)
  | 2, _ => exact (isF_iff _ _ (by decide) (by decide)).2 (by simp only [fAt, wAt, List.getD_cons_zero, List.getD_cons_succ]; omega)
  | 3, _ => exact (isF_iff _ _ (by decide) (by decide)).2 (by simp only [fAt, wAt, List.getD_cons_zero, List.getD_cons_succ]; omega)
  | 4, _ => exact (isF_iff _ _ (by decide) (by decide)).2 (by simp only [fAt, wAt, List.getD_cons_zero, List.getD_cons_succ]; omega)
  | 5, _ => exact (isF_iff _ _ (by decide) (by decide)).2 (by simp only [fAt, wAt, List.getD_cons_zero, List.getD_cons_succ]; omega)

theorem putB_fld {n : Int} {m : Nat} (h : isF n m = true) : putB n m = fld m n.toNat := by simp [putB, h]

/-- The six fields one behind the other are the head's bytes. -/
theorem head_pack {tx sq an rs kd : Int} {len : Nat} (h : isFrm tx sq an rs kd len = true) :
    pack (hAt tx sq an rs kd len 6) = numB (headN tx.toNat sq.toNat an.toNat rs.toNat kd.toNat) 4 ++ [len] := by
  have e : hAt tx sq an rs kd len 6 = unpack (numB (headN tx.toNat sq.toNat an.toNat rs.toNat kd.toNat) 4 ++ [len]) := by
    have hb := isFrm_iff.1 h
    have p0 := putB_fld (frm_ok h 0 (by decide))
    have p1 := putB_fld (frm_ok h 1 (by decide))
    have p2 := putB_fld (frm_ok h 2 (by decide))
    have p3 := putB_fld (frm_ok h 3 (by decide))
    have p4 := putB_fld (frm_ok h 4 (by decide))
    have p5 := putB_fld (frm_ok h 5 (by decide))
    simp only [hAt, p0, p1, p2, p3, p4, p5]
    simp only [fAt, wAt, List.getD_cons_zero, List.getD_cons_succ, List.nil_append, Int.toNat_natCast]
    have hb2 := head_bits tx.toNat sq.toNat an.toNat rs.toNat kd.toNat (by omega) (by omega) (by omega) (by omega)
    rw [hb2]
    rw [fld32_unpack, unpack_append]
    simp [unpack]
  rw [e, pack_unpack]
  intro b hb
  have hb3 := isFrm_iff.1 h
  rcases List.mem_append.1 hb with h1 | h1
  · exact numB_byte _ _ b h1
  · simp at h1; omega

end Go.Proofs.YtaieohnppeapfaaDoor
