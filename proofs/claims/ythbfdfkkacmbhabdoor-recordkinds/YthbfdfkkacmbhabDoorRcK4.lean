/- Package record: putSample: a sample's fields, by a pen's method value. -/
import Derived.Test.YthbfdfkkacmbhabDoorRcW
import Derived.Test.YthbfdfkkacmbhabDoorRcBits
import Derived.Test.YthbfdfkkacmbhabDoorBitsPen
import Derived.Test.YthbfdfkkacmbhabDoorRcK1
namespace Go.Proofs.YthbfdfkkacmbhabDoor
open Go.RowKit
open Bt

/-- A pen's Put, as a value. -/
abbrev putV (pb : Nat) : Value := .func (.func 16) #[.pointer (some ⟨pb, 0, none⟩)] #[]

/-- A sample's fields, by the place. -/
def mAt (k t v : Int) (i : Nat) : Int := [k, t, v, 0].getD i 0

/-- The bits that were put. -/
def mB (k t v : Int) : Nat → List Nat
  | 0 => []
  | i + 1 => mB k t v i ++ putB (mAt k t v i) (wR i)

theorem mB_length (k t v : Int) (i : Nat) : (mB k t v i).length ≤ 32 * i := by
  induction i with
  | zero => simp [mB]
  | succ i ih => rw [mB, List.length_append]; have := putB_length (mAt k t v i) (wR i); omega

theorem ma_index (k t v : Int) (i : Nat) (hi : i < 4) (w : World) :
    (Instr.index 56 (.agg #[.int .i64 k, .int .i64 t, .int .i64 v, .int .i64 0]) (.int .i64 (i : Int))).run Tryd.prog w = .ok (.int .i64 (mAt k t v i)) w := by
  have i0 : (Instr.index 56 (.agg #[.int .i64 k, .int .i64 t, .int .i64 v, .int .i64 0]) (.int .i64 0)).run Tryd.prog w = .ok (.int .i64 k) w := by kernel_rfl
  have i1 : (Instr.index 56 (.agg #[.int .i64 k, .int .i64 t, .int .i64 v, .int .i64 0]) (.int .i64 1)).run Tryd.prog w = .ok (.int .i64 t) w := by kernel_rfl
  have i2 : (Instr.index 56 (.agg #[.int .i64 k, .int .i64 t, .int .i64 v, .int .i64 0]) (.int .i64 2)).run Tryd.prog w = .ok (.int .i64 v) w := by kernel_rfl
  have i3 : (Instr.index 56 (.agg #[.int .i64 k, .int .i64 t, .int .i64 v, .int .i64 0]) (.int .i64 3)).run Tryd.prog w = .ok (.int .i64 0) w := by kernel_rfl
  match i, hi with
  | 0, _ => exact i0
  | 1, _ => exact i1
  | 2, _ => exact i2
  | 3, _ => exact i3

theorem isF_iffM (n : Int) (m : Nat) (h1 : 1 ≤ m) (h2 : m ≤ 32) : isF n m = true ↔ 0 ≤ n ∧ n < 2 ^ m := by
  simp only [isF, isW, Bool.and_eq_true, decide_eq_true_eq, Int.toNat_natCast]
  omega

theorem putB_fldM {n : Int} {m : Nat} (h : isF n m = true) : putB n m = fld m n.toNat := by simp [putB, h]

/-- A right sample's fields, all of them. -/
theorem mB_all {s : Smp} (h : rightM s = true) : mB s.kind s.tick s.value 4 = unpack (smB s) := by
  rw [← sample_bits h]
  obtain ⟨h1, h2, h3, _⟩ := rightM_true h
  have p0 : putB (mAt s.kind s.tick s.value 0) (wR 0) = fld 3 s.kind.toNat := putB_fldM ((isF_iffM _ 3 (by decide) (by decide)).2 (by simp only [mAt, List.getD_cons_zero]; omega))
  have p1 : putB (mAt s.kind s.tick s.value 1) (wR 1) = fld 8 s.tick.toNat := putB_fldM ((isF_iffM _ 8 (by decide) (by decide)).2 (by simp only [mAt, List.getD_cons_zero, List.getD_cons_succ]; omega))
  have p2 : putB (mAt s.kind s.tick s.value 2) (wR 2) = fld 10 s.value.toNat := putB_fldM ((isF_iffM _ 10 (by decide) (by decide)).2 (by simp only [mAt, List.getD_cons_zero, List.getD_cons_succ]; omega))
  have p3 : putB (mAt s.kind s.tick s.value 3) (wR 3) = fld 3 0 := putB_fldM ((isF_iffM _ 3 (by decide) (by decide)).2 (by simp only [mAt, List.getD_cons_zero, List.getD_cons_succ]; omega))
  simp only [mB, p0, p1, p2, p3, List.nil_append, List.append_assoc]

set_option maxRecDepth 100000 in
set_option maxHeartbeats 1000000 in
theorem putSample_in (k t v : Int) (pb : Nat) (u : Value) (l : List Nat) (hl : l.length < 2 ^ 38) (W0 w : World) (hw : WidR W0) (hb : Below W0.heap.size W0 w) (hp : PenAt w pb u l) (ho : Own W0.heap.size pb u) :
    Calls Tryd.prog 17 #[putV pb, .agg #[.int .i64 k, .int .i64 t, .int .i64 v]] w fun e w' => e = .returned (.tuple #[]) ∧ (∃ u', PenAt w' pb u' (l ++ mB k t v 4) ∧ Own W0.heap.size pb u') ∧ Below W0.heap.size W0 w' := by
  have HW := Hid.intro hw
  have FI := Hid.intro (fun (i : Nat) (hi : i < 4) => ma_index k t v i hi)
  have P1 := Hid.intro (fun o => hp.kept (S := fun _ => False) ((Chg.refl _ w).alloc o) (fun _ _ h => h))
  have B1 := Hid.intro (fun o => hb.alloc hb.size o)
  have HO := Hid.intro ho
  clear hw hp hb ho
  go_enter Tryd.func17, Tryd.ntmps17
  go_wp2_with fail
  go_loopw [13] (fun i wr => ∃ j : Nat, j ≤ 4 ∧ i = .int .i64 j ∧ (∃ u', PenAt wr pb u' (l ++ mB k t v j) ∧ Own W0.heap.size pb u') ∧ Below W0.heap.size W0 wr) (fun i _ => 4 - (intOf i).toNat)
  case atStart => exact ⟨0, by omega, rfl, ⟨_, by rw [mB, List.append_nil]; exact P1.out _, HO.out⟩, B1.out _⟩
  case round =>
    obtain ⟨j, hj, rfl, ⟨u', hp, ho⟩, hb⟩ := hrel
    have HP := Hid.intro hp
    have HO' := Hid.intro ho
    have HB := Hid.intro hb
    clear hp ho hb HO P1 B1
    by_cases hlt : j < 4
    · have i0 : (0 : Int) ≤ (j : Int) := by omega
      have i1 : (j : Int) < 4 := by omega
      have fi := FI.out j hlt
      have c := (HW.out.below HB.out).cell j hlt
      obtain ⟨N, hN⟩ : ∃ N, N = mAt k t v j := ⟨_, rfl⟩
      obtain ⟨M, hM⟩ : ∃ M, M = wR j := ⟨_, rfl⟩
      rw [← hN] at fi
      rw [← hM] at c
      have STP : Hid (l ++ mB k t v j ++ putB N M = l ++ mB k t v (j + 1)) := by rw [Hid, mB, ← hN, ← hM, List.append_assoc]
      have hlen : (l ++ mB k t v j).length < 2 ^ 39 := by
        rw [List.length_append]
        have := mB_length k t v j
        omega
      have HC := Hid.intro (put_any pb N M u' _ hlen wr HP.out)
      clear hlen hN hM
      go_wp2_with fail
      refine HC.out.mono ?_
      rintro e w1 ⟨rfl, v1, P1, C1, K1⟩
      have O1 := HO'.out.next HB.out.size K1
      have B1 := HB.out.trans ((HO'.out.chg C1).below HB.out.size fun _ h => h)
      rw [STP.out] at P1
      have P1H := Hid.intro P1
      have O1H := Hid.intro O1
      have B1H := Hid.intro B1
      clear P1 O1 B1 C1 K1 HC HP HO' HB fi c STP
      go_wp2
      go_roundw
      case rel => exact ⟨j + 1, by omega, by go_num, ⟨_, P1H.out, O1H.out⟩, B1H.out⟩
      case measure => simp [intOf]; omega
    · obtain rfl : j = 4 := by omega
      go_wp2
      go_end0
      exact ⟨rfl, ⟨_, HP.out, HO'.out⟩, HB.out⟩

end Go.Proofs.YthbfdfkkacmbhabDoor
