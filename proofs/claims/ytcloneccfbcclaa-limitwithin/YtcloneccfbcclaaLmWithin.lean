/- The statement LimitWithin: a value at either end of a limit is within it, and one beyond is none but of the Count 1 an alarm. -/
import Derived.Test.YtcloneccfbcclaaLmOne
namespace Go.Proofs.Ytcloneccfbcclaa
open Go.ChangeShapes Go.WideShapes Go.ChangeAt Go.RowKit
open Bt

namespace LLimitWithin

set_option maxRecDepth 100000 in
set_option maxHeartbeats 2000000 in
theorem walk_lm (l : Lm) (val : Int) (w : World) :
    Calls Try.prog 8 #[Lv l, .int .i64 val] w fun e w' => e = .returned (.bool true) ∧ Below w.heap.size w w' := by
  cases hm : mayL l with
  | false =>
    have SE := t1_not hm
    obtain ⟨x0, x1, x2, x3, x4⟩ := l
    have B0 := (Below.refl w.heap.size w).alloc (Nat.le_refl _) (.cells #[.int .i64 x0, .int .i64 x1, .int .i64 x2, .int .i64 x3, .int .i64 x4] 30)
    have LA := limC (l := ⟨x0, x1, x2, x3, x4⟩) (heap_alloc_new w (.cells #[.int .i64 x0, .int .i64 x1, .int .i64 x2, .int .i64 x3, .int .i64 x4] 30))
    have AL := Hid.intro (alive14_any (w.alloc (.cells #[.int .i64 x0, .int .i64 x1, .int .i64 x2, .int .i64 x3, .int .i64 x4] 30)))
    have LAH := Hid.intro LA
    have B0H := Hid.intro B0
    clear hm LA B0
    go_enter Try.func8, Try.ntmps8
    go_wp2_with fail
    refine AL.out.mono ?_
    rintro e w1 ⟨rfl, B1⟩
    have LB := LAH.out.below B1
    have B2 := Hid.intro (B0H.out.trans (B1.mono B0H.out.size))
    clear AL B1 LAH B0H
    go_wp2_with fail
    refine (lnew_any w1).mono ?_
    rintro e w2 ⟨b, T, rfl, hS, hF, BN⟩
    have O1 := one_new (P := TB b [] 0) hS hF BN
    obtain ⟨c0, c1, c2, c3, c4⟩ := LB.below BN
    simp only [Nat.zero_add] at c0 c1 c2 c3 c4
    have P1 := tset ⟨x0, x1, x2, x3, x4⟩ O1
    rw [SE.1] at P1
    have PH := Hid.intro P1
    clear hS hF BN O1 P1 LB SE
    go_wp2_with fail
    refine PH.out.mono ?_
    rintro e w3 ⟨rfl, l3⟩
    have FI := Hid.intro (B2.out.trans ((l3.out (Nat.le_refl _)).mono B2.out.size))
    clear l3 PH c0 c1 c2 c3 c4
    go_wp2
    go_ret
    exact ⟨rfl, FI.out⟩
  | true =>
  have SE := t1_set hm
  have ho := okO_may hm
  have hb := mayL_true hm
  obtain ⟨x0, x1, x2, x3, x4⟩ := l
  simp only at hb
  have HO := Hid.intro ho
  have B0 := (Below.refl w.heap.size w).alloc (Nat.le_refl _) (.cells #[.int .i64 x0, .int .i64 x1, .int .i64 x2, .int .i64 x3, .int .i64 x4] 30)
  have LA0 := limC (l := ⟨x0, x1, x2, x3, x4⟩) (heap_alloc_new w (.cells #[.int .i64 x0, .int .i64 x1, .int .i64 x2, .int .i64 x3, .int .i64 x4] 30))
  have AL := Hid.intro (alive14_any (w.alloc (.cells #[.int .i64 x0, .int .i64 x1, .int .i64 x2, .int .i64 x3, .int .i64 x4] 30)))
  have LAH := Hid.intro LA0
  have B0H := Hid.intro B0
  clear hm LA0 B0 ho
  go_enter Try.func8, Try.ntmps8
  go_wp2_with fail
  refine AL.out.mono ?_
  rintro e w1 ⟨rfl, B1⟩
  have LB := LAH.out.below B1
  have lbl : w.heap.size < w1.heap.size := cell_lt LB.1
  have LA := Hid.intro LB
  have B2 := Hid.intro (B0H.out.trans (B1.mono B0H.out.size))
  clear AL B1 LAH B0H
  go_wp2_with fail
  refine (lnew_any w1).mono ?_
  rintro e w2 ⟨b, T, rfl, hS, hF, BN⟩
  have O1 := one_new (P := TB b [] 0) hS hF BN
  obtain ⟨c0, c1, c2, c3, c4⟩ := LB.below BN
  simp only [Nat.zero_add] at c0 c1 c2 c3 c4
  have P1 := tset ⟨x0, x1, x2, x3, x4⟩ O1
  rw [SE.1, SE.2] at P1
  have PH := Hid.intro P1
  clear hS hF BN O1 P1 LB SE
  go_wp2_with fail
  refine PH.out.mono ?_
  rintro e w3 ⟨rfl, l3⟩
  have L3 := Hid.intro l3
  clear l3 PH c0 c1 c2 c3 c4
  have hw1 : (0 : Nat) = if outK ⟨x0, x1, x2, x3, x4⟩ x2 = true then 0 + 1 else 0 := by
    have : outK ⟨x0, x1, x2, x3, x4⟩ x2 = false := by simp [outK]; omega
    rw [this]; rfl
  have hw2 : (0 : Nat) = if outK ⟨x0, x1, x2, x3, x4⟩ x3 = true then 0 + 1 else 0 := by
    have : outK ⟨x0, x1, x2, x3, x4⟩ x3 = false := by simp [outK]; omega
    rw [this]; rfl
  have hw3 : (1 : Nat) = if outK ⟨x0, x1, x2, x3, x4⟩ (x3 + 1) = true then 0 + 1 else 0 := by
    have : outK ⟨x0, x1, x2, x3, x4⟩ (x3 + 1) = true := by simp [outK]; omega
    rw [this]; rfl
  have hw4 : (0 : Nat) = if outK ⟨x0, x1, x2, x3, x4⟩ x2 = true then 1 + 1 else 0 := by
    have : outK ⟨x0, x1, x2, x3, x4⟩ x2 = false := by simp [outK]; omega
    rw [this]; rfl
  have hw5 : (1 : Nat) = if outK ⟨x0, x1, x2, x3, x4⟩ (x2 - 1) = true then 0 + 1 else 0 := by
    have : outK ⟨x0, x1, x2, x3, x4⟩ (x2 - 1) = true := by simp [outK]; omega
    rw [this]; rfl
  have W1 := Hid.intro hw1
  have W2 := Hid.intro hw2
  have W3 := Hid.intro hw3
  have W4 := Hid.intro hw4
  have W5 := Hid.intro hw5
  have d0 : decide (x4 ≤ ((0 : Nat) : Int)) = false := by simp; omega
  have d1 : decide (x4 ≤ ((1 : Nat) : Int)) = decide (x4 = 1) := by rw [decide_eq_decide]; omega
  have D0 := Hid.intro d0
  have D1 := Hid.intro d1
  have h3a : x3 + 1 ≤ 1000 := by omega
  have h3b : 0 ≤ x3 + 1 := by omega
  have h2a : x2 - 1 ≤ 1000 := by omega
  have h2b : -1 ≤ x2 - 1 := by omega
  clear hw1 hw2 hw3 hw4 hw5 d0 d1
  obtain ⟨c0, c1, c2, c3, c4⟩ := one_lm L3.out LA.out lbl
  simp only [Nat.zero_add] at c0 c1 c2 c3 c4
  have P3' := (t1_step (l := ⟨x0, x1, x2, x3, x4⟩) (x2) HO.out L3.out (k := 0) (by exact W1.out))
  simp only at P3'
  rw [D0.out] at P3'
  have P3 := Hid.intro P3'
  clear P3'
  clear L3
  go_wp2_with fail
  refine P3.out.mono ?_
  rintro e w4 ⟨rfl, l4⟩
  have L4 := Hid.intro l4
  clear P3 l4 c0 c1 c2 c3 c4
  obtain ⟨c0, c1, c2, c3, c4⟩ := one_lm L4.out LA.out lbl
  simp only [Nat.zero_add] at c0 c1 c2 c3 c4
  have P4' := (t1_step (l := ⟨x0, x1, x2, x3, x4⟩) (x3) HO.out L4.out (k := 0) (by exact W2.out))
  simp only at P4'
  rw [D0.out] at P4'
  have P4 := Hid.intro P4'
  clear P4'
  clear L4
  go_wp2_with fail
  refine P4.out.mono ?_
  rintro e w5 ⟨rfl, l5⟩
  have L5 := Hid.intro l5
  clear P4 l5 c0 c1 c2 c3 c4
  obtain ⟨c0, c1, c2, c3, c4⟩ := one_lm L5.out LA.out lbl
  simp only [Nat.zero_add] at c0 c1 c2 c3 c4
  have P5' := (t1_step (l := ⟨x0, x1, x2, x3, x4⟩) (x3 + 1) HO.out L5.out (k := 1) (by exact W3.out))
  simp only at P5'
  rw [D0.out, D1.out] at P5'
  have P5 := Hid.intro P5'
  clear P5'
  clear L5
  go_wp2_with fail
  refine P5.out.mono ?_
  rintro e w6 ⟨rfl, l6⟩
  have L6 := Hid.intro l6
  clear P5 l6 c0 c1 c2 c3 c4
  obtain ⟨c0, c1, c2, c3, c4⟩ := one_lm L6.out LA.out lbl
  simp only [Nat.zero_add] at c0 c1 c2 c3 c4
  have P6' := (t1_step (l := ⟨x0, x1, x2, x3, x4⟩) (x2) HO.out L6.out (k := 0) (by exact W4.out))
  simp only at P6'
  rw [D0.out, D1.out] at P6'
  have P6 := Hid.intro P6'
  clear P6'
  clear L6
  go_wp2_with fail
  refine P6.out.mono ?_
  rintro e w7 ⟨rfl, l7⟩
  have L7 := Hid.intro l7
  clear P6 l7 c0 c1 c2 c3 c4
  obtain ⟨c0, c1, c2, c3, c4⟩ := one_lm L7.out LA.out lbl
  simp only [Nat.zero_add] at c0 c1 c2 c3 c4
  have P7' := (t1_step (l := ⟨x0, x1, x2, x3, x4⟩) (x2 - 1) HO.out L7.out (k := 1) (by exact W5.out))
  simp only at P7'
  rw [D0.out, D1.out] at P7'
  have P7 := Hid.intro P7'
  clear P7'
  clear L7
  go_wp2_with fail
  refine P7.out.mono ?_
  rintro e w8 ⟨rfl, l8⟩
  have L8 := Hid.intro l8
  clear P7 l8 c0 c1 c2 c3 c4
  obtain ⟨c0, c1, c2, c3, c4⟩ := one_lm L8.out LA.out lbl
  simp only [Nat.zero_add] at c0 c1 c2 c3 c4
  have FI := Hid.intro (B2.out.trans ((L8.out.out (Nat.le_refl _)).mono B2.out.size))
  clear L8 D0 D1
  by_cases e1 : x4 = 1
  · have e2 : decide (x4 = 1) = true := by simpa using e1
    go_wp2
    go_ret
    exact ⟨rfl, FI.out⟩
  · have e2 : decide (x4 = 1) = false := by simpa using e1
    have e3 : (x4 == 1) = false := by simpa using e1
    go_wp2
    go_ret
    exact ⟨rfl, FI.out⟩

theorem walk (l : Lm) (val : Int) (w : World) (_ : LmW l) (_ : (Lit.int .i64 val).wf = true) :
    Calls Try.prog 8 #[Lv l, .int .i64 val] w fun e w' => e = .returned (.bool true) ∧ Below w.heap.size w w' := walk_lm l val w

set_option maxRecDepth 100000 in
theorem lifted (os : Os) (started : os.Started) (H : Type) (enc : TypeId × Value → H) :
    ReturnsInHanded {} Try.checked os 8 .any (Rows.limitWithinSpec.pre6 enc Try.prog Try.f8 Rows.limitWithinRow.domain false) (Rows.limitWithinSpec.post enc Try.prog Try.f8 false true false false) := by
  refine returnsInHanded_of_change (C := Try.checked) own started (by kernel_rfl) Try.func8
    (ChangeSpec.witness6 (enc := enc) (C := Try.checked) false ⟨#[], #[.agg #[.int .i64 0, .int .i64 0, .int .i64 0, .int .i64 0, .int .i64 0], .int .i64 0], []⟩ 8 (by kernel_rfl) (by kernel_rfl) (by kernel_rfl) (by kernel_rfl)) ?_
  intro W base args ds gs before hval0 hW hcnd _
  have hval : ∀ (j : Nat) t v, Try.f8.params[j]? = some t → args[j]? = some v → Value.okWide Try.prog W .any base t v := hval0
  have hW' := hW
  obtain ⟨p, q, hA0, hV, rfl, hfz, hnd⟩ := hW
  have hA : DataW.TrodAll enc Try.prog W 0 (fun _ => true) true Try.f8.params.toList args.toList ds p := hA0
  rw [Try.params8] at hA hval
  obtain ⟨v0, vs0, d0, ds0, p0, q0, hargs, rfl, rfl, h0, r0⟩ := trodAll_cons hA
  obtain ⟨v1, vs1, d1, ds1, p1, q1, rfl, rfl, rfl, h1, r1⟩ := trodAll_cons r0
  obtain ⟨rfl, rfl, rfl⟩ := trodAll_nil r1
  obtain rfl : args = #[v0, v1] := by cases args; simp_all
  obtain ⟨rfl, rfl⟩ := trodVars_none hV
  have k0 := h0
  have lt0 : ∀ x ∈ p0, x.block < W.heap.size := by obtain ⟨m, hm⟩ := k0; exact DataW.trod_lt m _ _ _ hm
  obtain ⟨lm0, rfl, w0⟩ := open_limit (hval 0 30 v0 rfl rfl) h0
  obtain ⟨a1, rfl, rfl, rfl, w1⟩ := open_int Try.underlying3 (hval 1 3 v1 rfl rfl) h1
  clear hA0 hval0
  refine (walk lm0 a1 W w0 w1).mono fun e W' ⟨he, bel⟩ => ?_
  subst he
  exact ⟨_, rfl, _, _, _, [], _, [], hW', trodAll_mk1 (shut_bool Try.underlying4 _), (trodAll_cons_mk (Below.trod laidOut (by kernel_rfl) (of_decide_eq_true (by kernel_rfl)) k0 bel lt0) (trodAll_cons_mk (shut_int Try.underlying3 w1) trodAll_mk0)), rfl, bel.frame _, fun h => by cases h⟩

theorem over : Rows.limitWithinRow.holds Try.pinned (OpenSpec.ofChange Rows.limitWithinSpec) :=
  OpenClaim.holds_of_wide 8 Try.f8 rfl rfl rfl rfl rfl rfl rfl ⟨rfl, rfl, rfl, rfl, rfl⟩ rfl rfl rfl rfl rfl (by kernel_rfl) Try.func8 (by kernel_rfl)
    (of_decide_eq_true (by kernel_rfl)) (by unfold Func.isWrapper; first | (rw [if_pos (by decide +kernel)]; kernel_rfl) | (rw [if_neg (by decide +kernel)]; exact ⟨rfl, rfl⟩))
    (fun os started H enc _ => lifted os started H enc)

end Go.Proofs.Ytcloneccfbcclaa.LLimitWithin

namespace Go.Proofs.Ytcloneccfbcclaa
theorem limitWithin_holds : Rows.LimitWithinSaid := LLimitWithin.over
#print axioms limitWithin_holds
end Go.Proofs.Ytcloneccfbcclaa
