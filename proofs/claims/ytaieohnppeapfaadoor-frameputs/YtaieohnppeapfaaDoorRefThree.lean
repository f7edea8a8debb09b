/- Contracts of the document's own answer of layer 3: frames. -/
import Derived.Test.YtaieohnppeapfaaDoorRefTwoB
import Derived.Test.YtaieohnppeapfaaDoorRefSame
import Derived.Test.YtaieohnppeapfaaDoorRefSameB
import Derived.Test.YtaieohnppeapfaaDoorFrmBase
namespace Go.Proofs.YtaieohnppeapfaaDoor
open Go.RowKit
open Bt

set_option maxHeartbeats 1000000 in
theorem refRight_any (tx sq an rs kd : Int) (a : Option Addr) (len cap : Nat) (w : World) :
    Calls Tryd.prog 11 #[Fr tx sq an rs kd a len cap] w fun e w' => e = .returned (.bool (isFrm tx sq an rs kd len)) ∧ Below w.heap.size w w' := by
  have B := (Below.refl _ w).alloc (Nat.le_refl _) (.cells #[.int .i64 tx, .int .i64 sq, .int .i64 an, .int .i64 rs, .int .i64 kd, .slice a len cap] 24)
  have hB := Hid.intro B
  clear B
  go_enter Tryd.func11, Tryd.ntmps11
  go_wp2
  all_goals (go_ret; refine ⟨ret_bool ?_, hB.out⟩; rw [Bool.eq_iff_iff, isFrm_iff]; simp only [decide_eq_true_eq, Bool.false_eq_true, false_iff]; omega)

set_option maxHeartbeats 1000000 in
theorem refFSame_any (tx sq an rs kd tx' sq' an' rs' kd' : Int) (a b : Option Addr) (ca cb : Nat) (ds es : List Nat) (hl : ds.length < 2 ^ 40) (w : World) (ha : Reads w a ds) (hb : Reads w b es) :
    Calls Tryd.prog 16 #[Fr tx sq an rs kd a ds.length ca, Fr tx' sq' an' rs' kd' b es.length cb] w fun e w' => e = .returned (.bool (sameFrm tx sq an rs kd ds tx' sq' an' rs' kd' es)) ∧ Below w.heap.size w w' := by
  have HA := Hid.intro ha
  have HB := Hid.intro hb
  clear ha hb
  have B2 := Hid.intro (fun o1 o2 => ((Below.refl _ w).alloc (Nat.le_refl _) o1).alloc (World.size_alloc w o1 ▸ Nat.le_succ _) o2)
  go_enter Tryd.func16, Tryd.ntmps16
  go_wp2_with fail
  · refine (same_any a b ca cb ds es hl _ (HA.out.below (B2.out _ _)) (HB.out.below (B2.out _ _))).mono ?_
    rintro e w3 ⟨rfl, n, rfl⟩
    generalize hde : decide (ds = es) = D
    have HD := Hid.intro hde
    clear hde
    go_wp2
    go_ret
    refine ⟨ret_bool ?_, below_drewN (B2.out _ _) n⟩
    rw [← HD.out]
    unfold sameFrm
    congr 1
    simp [*]
  all_goals (go_ret; refine ⟨ret_bool ?_, B2.out _ _⟩; unfold sameFrm; symm; rw [decide_eq_false_iff_not]; intro h; simp_all)

end Go.Proofs.YtaieohnppeapfaaDoor
