/- CrcNumber: whatever number and count come in, it returns true: a number's bytes are read again, modulo what they have room for; no condition. -/
import Derived.Test.YtmnlnchbnjomhaaArgs
import Derived.Test.YtmnlnchbnjomhaaCrcAlive
namespace Go.Proofs.Ytmnlnchbnjomhaa.LCrcNumber
open Go.ChangeShapes Go.WideShapes Go.ChangeAt Go.RowKit
open Bt

set_option maxHeartbeats 1000000 in
theorem walk_nat (N M : Nat) (hN : N < 4294967296) (hM : M < 256) (w : World) :
    Calls Try.prog 8 #[.int .u32 N, .int .u8 M] w fun e w' => e = .returned (.bool true) ∧ Below w.heap.size w w' := by
  obtain ⟨K, hK, h4⟩ : ∃ K : Nat, (M : Int) % 5 = K ∧ K ≤ 4 := ⟨M % 5, by omega, by omega⟩
  go_enter Try.func8, Try.ntmps8
  go_wp2_with fail
  refine (alive_any _).mono ?_
  rintro e w1 ⟨rfl, B1⟩
  go_wp2_with fail
  rw [hK]
  clear hK
  refine (number_reads N K h4 w1).mono ?_
  rintro e w2 ⟨ao, rfl, r2, B2⟩
  have B2w := B1.trans (B2.mono B1.size)
  have S := read_any ao K _ (by rw [numB_length]; omega) (numB_byte _ _) w2 r2
  rw [numB_length, if_neg (by omega), readB_numB, lo64_nat N (by omega)] at S
  have SH := Hid.intro S
  clear B1 B2 r2 S
  rcases (show K = 0 ∨ K = 1 ∨ K = 2 ∨ K = 3 ∨ K = 4 by omega) with rfl | rfl | rfl | rfl | rfl
  all_goals
    go_wp2_with fail
    refine SH.out.mono ?_
    rintro e w3 ⟨rfl, rfl⟩
    go_wp2
    go_ret
    refine ⟨ret_bool ?_, B2w⟩
    first | rfl | (rw [beq_iff_eq]; omega)

theorem walk (n m : Int) (w : World) (hn : (Lit.int .u32 n).wf = true) (hm : (Lit.int .u8 m).wf = true) :
    Calls Try.prog 8 #[.int .u32 n, .int .u8 m] w fun e w' => e = .returned (.bool true) ∧ Below w.heap.size w w' := by
  have h1 := bounds_u32 hn
  have h2 := bounds_u8 hm
  obtain ⟨N, rfl⟩ := Int.eq_ofNat_of_zero_le h1.1
  obtain ⟨M, rfl⟩ := Int.eq_ofNat_of_zero_le h2.1
  exact walk_nat N M (by omega) (by omega) w

set_option maxRecDepth 100000 in
theorem lifted (os : Os) (started : os.Started) (H : Type) (enc : TypeId × Value → H) :
    ReturnsInHanded {} Try.checked os 8 .any (Rows.crcNumberSpec.pre6 enc Try.prog Try.f8 Rows.crcNumberRow.domain false) (Rows.crcNumberSpec.post enc Try.prog Try.f8 false true false false) := by
  refine returnsInHanded_of_change (C := Try.checked) own started (by kernel_rfl) Try.func8
    (ChangeSpec.witness6 (enc := enc) (C := Try.checked) false ⟨#[], #[.int .u32 0, .int .u8 0], []⟩ 8 (by kernel_rfl) (by kernel_rfl) (by kernel_rfl) (by kernel_rfl)) ?_
  intro W base args ds gs before hval0 hW hcnd _
  have hval : ∀ (j : Nat) t v, Try.f8.params[j]? = some t → args[j]? = some v → Value.okWide Try.prog W .any base t v := hval0
  have hW' := hW
  obtain ⟨p, q, hA0, hV, rfl, hfz, hnd⟩ := hW
  have hA : DataW.TrodAll enc Try.prog W 0 (fun _ => true) true Try.f8.params.toList args.toList ds p := hA0
  rw [Try.params8] at hA hval
  obtain ⟨v0, vs0, d0, ds0, p0, q0, hargs, rfl, rfl, h0, r0⟩ := trodAll_cons hA
  obtain ⟨v1, vs1, d1, ds1, p1, q1, rfl, rfl, rfl, h1, r1⟩ := trodAll_cons r0
  obtain ⟨rfl, rfl, rfl⟩ := trodAll_nil r1
  obtain rfl : args = #[v0, v1] := by cases args; simp_all
  obtain ⟨rfl, rfl⟩ := trodVars_none hV
  obtain ⟨a0, rfl, rfl, rfl, w0⟩ := open_int Try.underlying29 (hval 0 29 v0 rfl rfl) h0
  obtain ⟨a1, rfl, rfl, rfl, w1⟩ := open_int Try.underlying5 (hval 1 5 v1 rfl rfl) h1
  clear hA0 hval0
  refine (walk a0 a1 W w0 w1).mono fun e W' ⟨he, bel⟩ => ?_
  subst he
  exact ⟨_, rfl, _, _, _, [], _, [], hW', trodAll_mk1 (shut_bool Try.underlying4 _), (trodAll_cons_mk (shut_int Try.underlying29 w0) (trodAll_cons_mk (shut_int Try.underlying5 w1) trodAll_mk0)), rfl, bel.frame _, fun h => by cases h⟩

theorem over : Rows.crcNumberRow.holds Try.pinned (OpenSpec.ofChange Rows.crcNumberSpec) :=
  OpenClaim.holds_of_wide 8 Try.f8 rfl rfl rfl rfl rfl rfl rfl ⟨rfl, rfl, rfl, rfl, rfl⟩ rfl rfl rfl rfl rfl (by kernel_rfl) Try.func8 (by kernel_rfl)
    (of_decide_eq_true (by kernel_rfl)) (by unfold Func.isWrapper; first | (rw [if_pos (by decide +kernel)]; kernel_rfl) | (rw [if_neg (by decide +kernel)]; exact ⟨rfl, rfl⟩))
    (fun os started H enc _ => lifted os started H enc)

end Go.Proofs.Ytmnlnchbnjomhaa.LCrcNumber

namespace Go.Proofs.Ytmnlnchbnjomhaa
theorem crcNumber_holds : Rows.CrcNumberSaid := LCrcNumber.over
#print axioms crcNumber_holds
end Go.Proofs.Ytmnlnchbnjomhaa
