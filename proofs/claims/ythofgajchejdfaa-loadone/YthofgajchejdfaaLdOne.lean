/- The statement LoadOne: a bed alone is admitted just if its cost is at most the capacity's work of a period. -/
import Derived.Test.YthofgajchejdfaaLdAlive
import Derived.Test.YthofgajchejdfaaLdArg
namespace Go.Proofs.Ythofgajchejdfaa
open Go.ChangeShapes Go.WideShapes Go.ChangeAt Go.RowKit Go.Joins
open Bt

namespace LLoadOne

set_option maxRecDepth 100000 in
set_option maxHeartbeats 2000000 in
theorem walk_main (b0 b1 b2 b3 b4 b5 : Int) (cap : Int) (w : World) :
    Calls Try.prog 8 #[.agg #[.int .i64 b0, .int .i64 b1, .int .i64 b2, .int .i64 b3, .int .i64 b4, .int .i64 b5], .int .i64 cap] w fun e w' => e = .returned (.bool true) ∧ Below w.heap.size w w' := by
  have BA := (Below.refl _ w).alloc (Nat.le_refl _) (.cells #[.int .i64 b0, .int .i64 b1, .int .i64 b2, .int .i64 b3, .int .i64 b4, .int .i64 b5] 27)
  have nA := heap_alloc_new w (.cells #[.int .i64 b0, .int .i64 b1, .int .i64 b2, .int .i64 b3, .int .i64 b4, .int .i64 b5] 27)
  have AL := Hid.intro (alive11_any (w.alloc (.cells #[.int .i64 b0, .int .i64 b1, .int .i64 b2, .int .i64 b3, .int .i64 b4, .int .i64 b5] 27)))
  have BAH := Hid.intro BA
  have NAH := Hid.intro nA
  clear BA nA
  go_enter Try.func8, Try.ntmps8
  go_wp2_with fail
  refine AL.out.mono ?_
  rintro e w1 ⟨rfl, B1⟩
  have N1 := Hid.intro ((B1.block _ (lt_of_heap NAH.out)).trans NAH.out)
  have B1H := Hid.intro (BAH.out.trans (B1.mono BAH.out.size))
  clear AL B1 NAH BAH
  by_cases hc0 : cap < 0
  · go_wp2
    go_ret
    exact ⟨rfl, B1H.out⟩
  by_cases hc1 : 10000 < cap
  · go_wp2
    go_ret
    exact ⟨rfl, B1H.out⟩
  have HB : Hid (∀ (W : World), Below w1.heap.size w1 W → W.cell? ⟨w.heap.size, 0, none⟩ = some (.int .i64 b0) ∧ W.cell? ⟨w.heap.size, 1, none⟩ = some (.int .i64 b1) ∧ W.cell? ⟨w.heap.size, 2, none⟩ = some (.int .i64 b2) ∧ W.cell? ⟨w.heap.size, 3, none⟩ = some (.int .i64 b3) ∧ W.cell? ⟨w.heap.size, 4, none⟩ = some (.int .i64 b4) ∧ W.cell? ⟨w.heap.size, 5, none⟩ = some (.int .i64 b5)) := fun W hB => by
    have q := (hB.block _ (lt_of_heap N1.out)).trans N1.out
    exact ⟨by rw [cell_of_row _ _ 0 _ _ _ q]; rfl, by rw [cell_of_row _ _ 1 _ _ _ q]; rfl, by rw [cell_of_row _ _ 2 _ _ _ q]; rfl, by rw [cell_of_row _ _ 3 _ _ _ q]; rfl, by rw [cell_of_row _ _ 4 _ _ _ q]; rfl, by rw [cell_of_row _ _ 5 _ _ _ q]; rfl⟩
  obtain ⟨c0, c1, c2, c3, c4, c5⟩ := HB.out w1 (Below.refl _ _)
  have MY := Hid.intro (lmay_any ⟨b0, b1, b2, b3, b4, b5⟩ w1)
  cases hmy : mayB ⟨b0, b1, b2, b3, b4, b5⟩ with
  | false =>
    rw [hmy] at MY
    clear hmy
    go_wp2_with fail
    refine MY.out.mono ?_
    rintro e w2 ⟨rfl, B2⟩
    have B2H := Hid.intro (B1H.out.trans (B2.mono B1H.out.size))
    clear MY B2 c0 c1 c2 c3 c4 c5
    go_wp2
    go_ret
    exact ⟨rfl, B2H.out⟩
  | true =>
    rw [hmy] at MY
    have AO := admit_one (cap := cap) hmy
    have AD := fun (W : World) => ladmit_any (fun _ => True) none 0 [] (by decide) ⟨by decide, fun _ => rfl⟩ ⟨b0, b1, b2, b3, b4, b5⟩ cap (by omega) W (bds_nil _ _ _ _)
    rw [AO] at AD
    have ADH := Hid.intro AD
    have hp := (mayB_true hmy).1
    simp only at hp
    have hpb : 1 ≤ b2 ∧ b2 ≤ 60 := ⟨hp.1, hp.2.1⟩
    have hcp : 0 ≤ cap * b2 ∧ cap * b2 ≤ 600000 := by
      have a1 : cap * b2 ≤ cap * 60 := Int.mul_le_mul_of_nonneg_left hpb.2 (by omega)
      have a2 : 0 ≤ cap * b2 := Int.mul_nonneg (by omega) (by omega)
      omega
    obtain ⟨P, hP⟩ : ∃ P, P = cap * b2 := ⟨_, rfl⟩
    have hw : IntKind.i64.wrap (cap * b2) = P := by rw [hP]; exact IntWalk.i64_in _ (by omega)
    simp only at ADH
    rw [← hP] at ADH hcp
    clear AO AD hp hmy hP
    go_wp2_with fail
    refine MY.out.mono ?_
    rintro e w2 ⟨rfl, B2⟩
    obtain ⟨d0, d1, d2, d3, d4, d5⟩ := HB.out w2 B2
    have B2H := Hid.intro (B1H.out.trans (B2.mono B1H.out.size))
    have B2' := Hid.intro B2
    clear MY B2 c0 c1 c2 c3 c4 c5
    go_wp2_with fail
    refine (ADH.out _).mono ?_
    rintro e w3 ⟨a3, c3, rfl, _, _, B3⟩
    obtain ⟨e0, e1, e2, e3, e4, e5⟩ := HB.out w3 (B2'.out.trans (B3.mono B2'.out.size))
    have B3H := Hid.intro (B2H.out.trans (B3.mono B2H.out.size))
    clear ADH B3 d0 d1 d2 d3 d4 d5 B2' B2H
    by_cases hle : b3 ≤ P
    · rw [if_pos hle]
      go_wp2
      go_ret
      exact ⟨rfl, B3H.out⟩
    · rw [if_neg hle]
      have hle' : P < b3 := by omega
      go_wp2
      go_ret
      exact ⟨by simp [hle], B3H.out⟩

theorem walk (b : Bdd) (cap : Int) (w : World) (_ : (Lit.int .i64 b.bid).wf = true ∧ (Lit.int .i64 b.tx).wf = true ∧ (Lit.int .i64 b.period).wf = true ∧ (Lit.int .i64 b.cost).wf = true ∧ (Lit.int .i64 b.watch).wf = true ∧ (Lit.int .i64 b.prio).wf = true) (_ : (Lit.int .i64 cap).wf = true) :
    Calls Try.prog 8 #[Bv b, .int .i64 cap] w fun e w' => e = .returned (.bool true) ∧ Below w.heap.size w w' := walk_main b.bid b.tx b.period b.cost b.watch b.prio cap w

set_option maxRecDepth 100000 in
theorem lifted (os : Os) (started : os.Started) (H : Type) (enc : TypeId × Value → H) :
    ReturnsInHanded {} Try.checked os 8 .any (Rows.loadOneSpec.pre6 enc Try.prog Try.f8 Rows.loadOneRow.domain false) (Rows.loadOneSpec.post enc Try.prog Try.f8 false true false false) := by
  refine returnsInHanded_of_change (C := Try.checked) own started (by kernel_rfl) Try.func8
    (ChangeSpec.witness6 (enc := enc) (C := Try.checked) false ⟨#[], #[.agg #[.int .i64 0, .int .i64 0, .int .i64 0, .int .i64 0, .int .i64 0, .int .i64 0], .int .i64 0], []⟩ 8 (by kernel_rfl) (by kernel_rfl) (by kernel_rfl) (by kernel_rfl)) ?_
  intro W base args ds gs before hval0 hW hcnd _
  have hval : ∀ (j : Nat) t v, Try.f8.params[j]? = some t → args[j]? = some v → Value.okWide Try.prog W .any base t v := hval0
  have hW' := hW
  obtain ⟨p, q, hA0, hV, rfl, hfz, hnd⟩ := hW
  have hA : DataW.TrodAll enc Try.prog W 0 (fun _ => true) true Try.f8.params.toList args.toList ds p := hA0
  rw [Try.params8] at hA hval
  obtain ⟨v0, vs0, d0, ds0, p0, q0, hargs, rfl, rfl, h0, r0⟩ := trodAll_cons hA
  obtain ⟨v1, vs1, d1, ds1, p1, q1, rfl, rfl, rfl, h1, r1⟩ := trodAll_cons r0
  obtain ⟨rfl, rfl, rfl⟩ := trodAll_nil r1
  obtain rfl : args = #[v0, v1] := by cases args; simp_all
  obtain ⟨rfl, rfl⟩ := trodVars_none hV
  have k0 := h0
  have lt0 : ∀ x ∈ p0, x.block < W.heap.size := by obtain ⟨m, hm⟩ := k0; exact DataW.trod_lt m _ _ _ hm
  obtain ⟨bd0, rfl, w0⟩ := open_bed (hval 0 27 v0 rfl rfl) h0
  obtain ⟨a1, rfl, rfl, rfl, w1⟩ := open_int Try.underlying3 (hval 1 3 v1 rfl rfl) h1
  clear hA0 hval0
  refine (walk bd0 a1 W w0 w1).mono fun e W' ⟨he, bel⟩ => ?_
  subst he
  exact ⟨_, rfl, _, _, _, [], _, [], hW', trodAll_mk1 (shut_bool Try.underlying4 _), (trodAll_cons_mk (Below.trod laidOut (by kernel_rfl) (of_decide_eq_true (by kernel_rfl)) k0 bel lt0) (trodAll_cons_mk (shut_int Try.underlying3 w1) trodAll_mk0)), rfl, bel.frame _, fun h => by cases h⟩

theorem over : Rows.loadOneRow.holds Try.pinned (OpenSpec.ofChange Rows.loadOneSpec) :=
  OpenClaim.holds_of_wide 8 Try.f8 rfl rfl rfl rfl rfl rfl rfl ⟨rfl, rfl, rfl, rfl, rfl⟩ rfl rfl rfl rfl rfl (by kernel_rfl) Try.func8 (by kernel_rfl)
    (of_decide_eq_true (by kernel_rfl)) (by unfold Func.isWrapper; first | (rw [if_pos (by decide +kernel)]; kernel_rfl) | (rw [if_neg (by decide +kernel)]; exact ⟨rfl, rfl⟩))
    (fun os started H enc _ => lifted os started H enc)

end Go.Proofs.Ythofgajchejdfaa.LLoadOne

namespace Go.Proofs.Ythofgajchejdfaa
theorem loadOne_holds : Rows.LoadOneSaid := LLoadOne.over
#print axioms loadOne_holds
end Go.Proofs.Ythofgajchejdfaa
