/- Package load: within, mayBePeriod, May, Of, idOf, txOf, takes. -/
import Derived.Test.YthofgajchejdfaaLdSm
namespace Go.Proofs.Ythofgajchejdfaa
open Go.RowKit
open Bt

/-- Is a number between two? -/
def wiB (n f t : Int) : Bool := decide (f ≤ n ∧ n ≤ t)

theorem lwithin_any (n f t : Int) (w : World) :
    Calls Try.prog 27 #[.int .i64 n, .int .i64 f, .int .i64 t] w fun e w' => e = .returned (.bool (wiB n f t)) ∧ w = w' := by
  by_cases h1 : f ≤ n
  · by_cases h2 : n ≤ t
    · have e : wiB n f t = true := by simp [wiB, h1, h2]
      rw [e]
      clear e
      go_enter Try.func27, Try.ntmps27
      go_wp2
      go_ret
      exact ⟨rfl, rfl⟩
    · have e : wiB n f t = false := by simp [wiB]; omega
      rw [e]
      clear e
      go_enter Try.func27, Try.ntmps27
      go_wp2
      go_ret
      exact ⟨rfl, rfl⟩
  · have e : wiB n f t = false := by simp [wiB]; omega
    rw [e]
    clear e
    go_enter Try.func27, Try.ntmps27
    go_wp2
    go_ret
    exact ⟨rfl, rfl⟩

set_option maxRecDepth 100000 in
set_option maxHeartbeats 1000000 in
theorem lperiod_any (p : Int) (w : World) :
    Calls Try.prog 28 #[.int .i64 p] w fun e w' => e = .returned (.bool (perB p)) ∧ w = w' := by
  have W := Hid.intro (lwithin_any p 1 60)
  by_cases h : 1 ≤ p ∧ p ≤ 60
  case neg =>
    have e : perB p = false := decide_eq_false (fun q => h ⟨q.1, q.2.1⟩)
    have e2 : wiB p 1 60 = false := decide_eq_false h
    rw [e]
    rw [e2] at W
    clear e e2 h
    go_enter Try.func28, Try.ntmps28
    go_wp2_with fail
    refine (W.out _).mono ?_
    rintro e w2 ⟨rfl, rfl⟩
    go_wp2
    go_ret
    exact ⟨rfl, rfl⟩
  obtain ⟨h1, h2⟩ := h
  have h1n : ¬ p < 1 := by omega
  have h2n : ¬ 60 < p := by omega
  have e2 : wiB p 1 60 = true := decide_eq_true ⟨h1, h2⟩
  rw [e2] at W
  have z : (p == 0) = false := by rw [beq_eq_false_iff_ne]; omega
  have hm1 : 0 ≤ (60 : Int) % p := Int.emod_nonneg _ (by omega)
  have hm2 : (60 : Int) % p < 60 + 1 := by
    have := Int.emod_lt_of_pos (60 : Int) (show 0 < p by omega)
    omega
  by_cases h3 : 60 % p = 0
  case neg =>
    have e : perB p = false := decide_eq_false (fun q => h3 q.2.2)
    rw [e]
    obtain ⟨m, hm⟩ : ∃ m, m = (60 : Int) % p := ⟨_, rfl⟩
    rw [← hm] at h3 hm1 hm2
    have ht : (60 : Int).tmod p = m := by rw [hm]; exact Int.tmod_eq_emod_of_nonneg (by decide)
    have ht2 : (60 : Int) % p = m := hm.symm
    have hb : (m == 0) = false := by rw [beq_eq_false_iff_ne]; exact h3
    clear e hm e2
    go_enter Try.func28, Try.ntmps28
    go_wp2_with fail
    refine (W.out _).mono ?_
    rintro e w2 ⟨rfl, rfl⟩
    go_wp2
    go_ret
    exact ⟨rfl, rfl⟩
  have e : perB p = true := decide_eq_true ⟨h1, h2, h3⟩
  rw [e]
  have ht : (60 : Int).tmod p = 0 := by rw [Int.tmod_eq_emod_of_nonneg (by decide)]; exact h3
  clear e hm1 hm2 e2
  go_enter Try.func28, Try.ntmps28
  go_wp2_with fail
  refine (W.out _).mono ?_
  rintro e w2 ⟨rfl, rfl⟩
  go_wp2
  go_ret
  exact ⟨rfl, rfl⟩

theorem mayB_six (i x p c t q : Int) : mayB ⟨i, x, p, c, t, q⟩ = (wiB i 0 99 && (wiB x 0 255 && (perB p && (wiB c 1 100 && (wiB t 1 1000 && wiB q 0 9))))) := by
  rw [Bool.eq_iff_iff]
  simp only [mayB, perB, wiB, Bool.and_eq_true, decide_eq_true_eq]
  omega

set_option maxRecDepth 100000 in
set_option maxHeartbeats 4000000 in
theorem lmay_in (i x p c t q : Int) (w : World) :
    Calls Try.prog 11 #[.agg #[.int .i64 i, .int .i64 x, .int .i64 p, .int .i64 c, .int .i64 t, .int .i64 q]] w fun e w' => e = .returned (.bool (mayB ⟨i, x, p, c, t, q⟩)) ∧ Below w.heap.size w w' := by
  have HB := Hid.intro ((Below.refl _ w).alloc (Nat.le_refl _) (.cells #[.int .i64 i, .int .i64 x, .int .i64 p, .int .i64 c, .int .i64 t, .int .i64 q] 27))
  rw [mayB_six]
  have H1 := Hid.intro (lwithin_any i 0 99)
  have H2 := Hid.intro (lwithin_any x 0 255)
  have H3 := Hid.intro (lperiod_any p)
  have H4 := Hid.intro (lwithin_any c 1 100)
  have H5 := Hid.intro (lwithin_any t 1 1000)
  have H6 := Hid.intro (lwithin_any q 0 9)
  generalize wiB i 0 99 = b1 at H1 ⊢
  generalize wiB x 0 255 = b2 at H2 ⊢
  generalize perB p = b3 at H3 ⊢
  generalize wiB c 1 100 = b4 at H4 ⊢
  generalize wiB t 1 1000 = b5 at H5 ⊢
  generalize wiB q 0 9 = b6 at H6 ⊢
  cases b1
  case false =>
    rw [Bool.false_and]
    go_enter Try.func11, Try.ntmps11
    go_wp2_with fail
    refine (H1.out _).mono ?_
    rintro e w2 ⟨rfl, rfl⟩
    go_wp2
    go_ret
    exact ⟨rfl, HB.out⟩
  rw [Bool.true_and]
  cases b2
  case false =>
    rw [Bool.false_and]
    go_enter Try.func11, Try.ntmps11
    go_wp2_with fail
    refine (H1.out _).mono ?_
    rintro e w2 ⟨rfl, rfl⟩
    go_wp2_with fail
    refine (H2.out _).mono ?_
    rintro e w2 ⟨rfl, rfl⟩
    go_wp2
    go_ret
    exact ⟨rfl, HB.out⟩
  rw [Bool.true_and]
  cases b3
  case false =>
    rw [Bool.false_and]
    go_enter Try.func11, Try.ntmps11
    go_wp2_with fail
    refine (H1.out _).mono ?_
    rintro e w2 ⟨rfl, rfl⟩
    go_wp2_with fail
    refine (H2.out _).mono ?_
    rintro e w2 ⟨rfl, rfl⟩
    go_wp2_with fail
    refine (H3.out _).mono ?_
    rintro e w2 ⟨rfl, rfl⟩
    go_wp2
    go_ret
    exact ⟨rfl, HB.out⟩
  rw [Bool.true_and]
  cases b4
  case false =>
    rw [Bool.false_and]
    go_enter Try.func11, Try.ntmps11
    go_wp2_with fail
    refine (H1.out _).mono ?_
    rintro e w2 ⟨rfl, rfl⟩
    go_wp2_with fail
    refine (H2.out _).mono ?_
    rintro e w2 ⟨rfl, rfl⟩
    go_wp2_with fail
    refine (H3.out _).mono ?_
    rintro e w2 ⟨rfl, rfl⟩
    go_wp2_with fail
    refine (H4.out _).mono ?_
    rintro e w2 ⟨rfl, rfl⟩
    go_wp2
    go_ret
    exact ⟨rfl, HB.out⟩
  rw [Bool.true_and]
  cases b5
  case false =>
    rw [Bool.false_and]
    go_enter Try.func11, Try.ntmps11
    go_wp2_with fail
    refine (H1.out _).mono ?_
    rintro e w2 ⟨rfl, rfl⟩
    go_wp2_with fail
    refine (H2.out _).mono ?_
    rintro e w2 ⟨rfl, rfl⟩
    go_wp2_with fail
    refine (H3.out _).mono ?_
    rintro e w2 ⟨rfl, rfl⟩
    go_wp2_with fail
    refine (H4.out _).mono ?_
    rintro e w2 ⟨rfl, rfl⟩
    go_wp2_with fail
    refine (H5.out _).mono ?_
    rintro e w2 ⟨rfl, rfl⟩
    go_wp2
    go_ret
    exact ⟨rfl, HB.out⟩
  rw [Bool.true_and]
  go_enter Try.func11, Try.ntmps11
  go_wp2_with fail
  refine (H1.out _).mono ?_
  rintro e w2 ⟨rfl, rfl⟩
  go_wp2_with fail
  refine (H2.out _).mono ?_
  rintro e w2 ⟨rfl, rfl⟩
  go_wp2_with fail
  refine (H3.out _).mono ?_
  rintro e w2 ⟨rfl, rfl⟩
  go_wp2_with fail
  refine (H4.out _).mono ?_
  rintro e w2 ⟨rfl, rfl⟩
  go_wp2_with fail
  refine (H5.out _).mono ?_
  rintro e w2 ⟨rfl, rfl⟩
  go_wp2_with fail
  refine (H6.out _).mono ?_
  rintro e w2 ⟨rfl, rfl⟩
  go_wp2
  go_ret
  exact ⟨rfl, HB.out⟩

theorem lmay_any (b : Bdd) (w : World) :
    Calls Try.prog 11 #[Bv b] w fun e w' => e = .returned (.bool (mayB b)) ∧ Below w.heap.size w w' := lmay_in b.bid b.tx b.period b.cost b.watch b.prio w

set_option maxRecDepth 100000 in
set_option maxHeartbeats 1000000 in
theorem lof_in (i x p c t q : Int) (w : World) :
    Calls Try.prog 13 #[.agg #[.int .i64 i, .int .i64 x, .int .i64 p, .int .i64 c, .int .i64 t, .int .i64 q]] w fun e w' => e = .returned (.int .i64 (ofB ⟨i, x, p, c, t, q⟩)) ∧ Below w.heap.size w w' := by
  have HB := Hid.intro ((Below.refl _ w).alloc (Nat.le_refl _) (.cells #[.int .i64 i, .int .i64 x, .int .i64 p, .int .i64 c, .int .i64 t, .int .i64 q] 27))
  have NB := Hid.intro (heap_alloc_new w (.cells #[.int .i64 i, .int .i64 x, .int .i64 p, .int .i64 c, .int .i64 t, .int .i64 q] 27))
  have MY := Hid.intro (lmay_in i x p c t q (w.alloc (.cells #[.int .i64 i, .int .i64 x, .int .i64 p, .int .i64 c, .int .i64 t, .int .i64 q] 27)))
  rcases hm : mayB ⟨i, x, p, c, t, q⟩ with _ | _
  · have e : ofB ⟨i, x, p, c, t, q⟩ = 0 := by unfold ofB; rw [if_neg (by rw [hm]; simp)]
    rw [e]
    rw [hm] at MY
    clear e hm
    go_enter Try.func13, Try.ntmps13
    go_wp2_with fail
    refine MY.out.mono ?_
    rintro e w1 ⟨rfl, B1⟩
    have BW := Hid.intro (HB.out.trans (B1.mono HB.out.size))
    clear MY B1 NB HB
    go_wp2
    go_ret
    exact ⟨rfl, BW.out⟩
  · obtain ⟨P, Q, C, hP, hC, p1, p2, hPQ, hC1, ho, hQ⟩ := ofB_steps hm
    simp only at hP hC
    subst hP hC
    rw [hm] at MY
    rw [ho]
    have hCQ : C * Q ≤ 100 * 60 := Nat.mul_le_mul hC1 hQ
    have z : ((P : Int) == 0) = false := by rw [beq_eq_false_iff_ne]; omega
    have d0 : (C : Int) * 60 / (P : Int) = ((C * Q : Nat) : Int) := by
      have : (C : Int) * 60 = ((C * Q : Nat) : Int) * (P : Int) := by
        rw [show (60 : Int) = ((P * Q : Nat) : Int) by rw [hPQ]; rfl]
        push_cast
        rw [Int.mul_comm (P : Int) (Q : Int), Int.mul_assoc]
      rw [this]
      exact Int.mul_ediv_cancel _ (by omega)
    have d1 : ((C : Int) * 60).tdiv (P : Int) = ((C * Q : Nat) : Int) := by rw [Int.tdiv_eq_ediv_of_nonneg (by omega)]; exact d0
    rw [show (C : Int) * (Q : Int) = ((C * Q : Nat) : Int) by push_cast; rfl]
    generalize C * Q = Z at *
    clear hm ho hPQ
    go_enter Try.func13, Try.ntmps13
    go_wp2_with fail
    refine MY.out.mono ?_
    rintro e w1 ⟨rfl, B1⟩
    have n1 := (B1.block _ (lt_of_heap NB.out)).trans NB.out
    have c2 : w1.cell? ⟨w.heap.size, 2, none⟩ = some (.int .i64 P) := by rw [cell_of_row _ _ 2 _ _ _ n1]; rfl
    have c3 : w1.cell? ⟨w.heap.size, 3, none⟩ = some (.int .i64 C) := by rw [cell_of_row _ _ 3 _ _ _ n1]; rfl
    have BW := Hid.intro (HB.out.trans (B1.mono HB.out.size))
    clear MY B1 NB HB n1
    go_wp2
    go_ret
    exact ⟨rfl, BW.out⟩

theorem lof_any (b : Bdd) (w : World) :
    Calls Try.prog 13 #[Bv b] w fun e w' => e = .returned (.int .i64 (ofB b)) ∧ Below w.heap.size w w' := lof_in b.bid b.tx b.period b.cost b.watch b.prio w

theorem lidOf_any (b : Bdd) (w : World) :
    Calls Try.prog 33 #[Bv b] w fun e w' => e = .returned (.int .i64 b.bid) ∧ Below w.heap.size w w' := by
  obtain ⟨i, x, p, c, t, q⟩ := b
  have HB := Hid.intro ((Below.refl _ w).alloc (Nat.le_refl _) (.cells #[.int .i64 i, .int .i64 x, .int .i64 p, .int .i64 c, .int .i64 t, .int .i64 q] 27))
  go_enter Try.func33, Try.ntmps33
  go_wp2
  go_ret
  exact ⟨rfl, HB.out⟩

theorem ltxOf_any (b : Bdd) (w : World) :
    Calls Try.prog 34 #[Bv b] w fun e w' => e = .returned (.int .i64 b.tx) ∧ Below w.heap.size w w' := by
  obtain ⟨i, x, p, c, t, q⟩ := b
  have HB := Hid.intro ((Below.refl _ w).alloc (Nat.le_refl _) (.cells #[.int .i64 i, .int .i64 x, .int .i64 p, .int .i64 c, .int .i64 t, .int .i64 q] 27))
  go_enter Try.func34, Try.ntmps34
  go_wp2
  go_ret
  exact ⟨rfl, HB.out⟩

theorem ltakes_any (cap load : Int) (hl : 0 ≤ load ∧ load ≤ 10000000) (w : World) :
    Calls Try.prog 31 #[.int .i64 cap, .int .i64 load] w fun e w' => e = .returned (.bool (decide (load ≤ cap * 60))) ∧ w = w' := by
  have e : decide (load ≤ cap * 60) = decide ((load + 59) / 60 ≤ cap) := by rw [decide_eq_decide]; omega
  have t1 : (load + 59).tdiv 60 = (load + 59) / 60 := Int.tdiv_eq_ediv_of_nonneg (by omega)
  have t2 : (load + 60 - 1) = load + 59 := by omega
  rw [e]
  clear e
  have b1 : 0 ≤ (load + 59) / 60 ∧ (load + 59) / 60 ≤ 1000000 := by omega
  generalize hN : (load + 59) / 60 = N at *
  go_enter Try.func31, Try.ntmps31
  go_wp2
  go_ret
  exact ⟨rfl, rfl⟩

end Go.Proofs.Ythofgajchejdfaa
