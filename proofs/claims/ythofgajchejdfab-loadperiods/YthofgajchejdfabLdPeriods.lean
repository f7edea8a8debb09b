/- The statement LoadPeriods: a bed of twice the period and twice the cost has the same load. -/
import Derived.Test.YthofgajchejdfabLdAlive
import Derived.Test.YthofgajchejdfabLdArg
namespace Go.Proofs.Ythofgajchejdfab
open Go.ChangeShapes Go.WideShapes Go.ChangeAt Go.RowKit Go.Joins
open Bt

namespace LLoadPeriods

set_option maxRecDepth 100000 in
set_option maxHeartbeats 4000000 in
theorem walk_main (b0 b1 b2 b3 b4 b5 : Int) (k : Int) (w : World) :
    Calls Try.prog 3 #[.agg #[.int .i64 b0, .int .i64 b1, .int .i64 b2, .int .i64 b3, .int .i64 b4, .int .i64 b5], .int .u8 k] w fun e w' => e = .returned (.bool true) ∧ Below w.heap.size w w' := by
  have BA := (Below.refl _ w).alloc (Nat.le_refl _) (.cells #[.int .i64 b0, .int .i64 b1, .int .i64 b2, .int .i64 b3, .int .i64 b4, .int .i64 b5] 23)
  have nA := heap_alloc_new w (.cells #[.int .i64 b0, .int .i64 b1, .int .i64 b2, .int .i64 b3, .int .i64 b4, .int .i64 b5] 23)
  have AL := Hid.intro (alive11_any (w.alloc (.cells #[.int .i64 b0, .int .i64 b1, .int .i64 b2, .int .i64 b3, .int .i64 b4, .int .i64 b5] 23)))
  have BAH := Hid.intro BA
  have NAH := Hid.intro nA
  clear BA nA
  go_enter Try.func3, Try.ntmps3
  go_wp2_with fail
  refine AL.out.mono ?_
  rintro e w1 ⟨rfl, B1⟩
  have N1 := Hid.intro ((B1.block _ (lt_of_heap NAH.out)).trans NAH.out)
  have B1H := Hid.intro (BAH.out.trans (B1.mono BAH.out.size))
  clear AL B1 NAH BAH
  have HB : Hid (∀ (W : World), Below w1.heap.size w1 W → W.cell? ⟨w.heap.size, 0, none⟩ = some (.int .i64 b0) ∧ W.cell? ⟨w.heap.size, 1, none⟩ = some (.int .i64 b1) ∧ W.cell? ⟨w.heap.size, 2, none⟩ = some (.int .i64 b2) ∧ W.cell? ⟨w.heap.size, 3, none⟩ = some (.int .i64 b3) ∧ W.cell? ⟨w.heap.size, 4, none⟩ = some (.int .i64 b4) ∧ W.cell? ⟨w.heap.size, 5, none⟩ = some (.int .i64 b5)) := fun W hB => by
    have q := (hB.block _ (lt_of_heap N1.out)).trans N1.out
    exact ⟨by rw [cell_of_row _ _ 0 _ _ _ q]; rfl, by rw [cell_of_row _ _ 1 _ _ _ q]; rfl, by rw [cell_of_row _ _ 2 _ _ _ q]; rfl, by rw [cell_of_row _ _ 3 _ _ _ q]; rfl, by rw [cell_of_row _ _ 4 _ _ _ q]; rfl, by rw [cell_of_row _ _ 5 _ _ _ q]; rfl⟩
  obtain ⟨c0, c1, c2, c3, c4, c5⟩ := HB.out w1 (Below.refl _ _)
  have MY := Hid.intro (lmay_any ⟨b0, b1, b2, b3, b4, b5⟩ w1)
  cases hmy : mayB ⟨b0, b1, b2, b3, b4, b5⟩ with
  | false =>
    rw [hmy] at MY
    clear hmy
    go_wp2_with fail
    refine MY.out.mono ?_
    rintro e w2 ⟨rfl, B2⟩
    have B2H := Hid.intro (B1H.out.trans (B2.mono B1H.out.size))
    clear MY B2 c0 c1 c2 c3 c4 c5
    go_wp2
    go_ret
    exact ⟨rfl, B2H.out⟩
  | true =>
  rw [hmy] at MY
  go_wp2_with fail
  refine MY.out.mono ?_
  rintro e w2 ⟨rfl, B2⟩
  have E2 := Hid.intro B2
  have W2 := Hid.intro (B1H.out.trans (B2.mono B1H.out.size))
  clear MY B2 c0 c1 c2 c3 c4 c5
  obtain ⟨c0, c1, c2, c3, c4, c5⟩ := HB.out w2 E2.out
  by_cases h50 : 50 < b3
  · clear hmy
    go_wp2
    go_ret
    exact ⟨rfl, W2.out⟩
  have h50' : ¬ 50 < b3 := h50
  obtain ⟨⟨p1, p2, p3⟩, ⟨i1, i2⟩, ⟨t1, t2⟩, ⟨k1, k2⟩, ⟨v1, v2⟩, ⟨r1, r2⟩⟩ := mayB_true hmy
  simp only at p1 p2 p3 i1 i2 t1 t2 k1 k2 v1 v2 r1 r2
  have MC := Hid.intro (fun W => lmay_any ⟨b0, b1, 2 * b2, 1, 1, 0⟩ W)
  have OB := Hid.intro (fun W => lof_any ⟨b0, b1, b2, b3, b4, b5⟩ W)
  have OC := Hid.intro (fun W => lof_any ⟨b0, b1, 2 * b2, 2 * b3, b4, b5⟩ W)
  have SU := Hid.intro (fun W (v : Value) (h : BdsAt (fun _ => True) W v [⟨b0, b1, b2, b3, b4, b5⟩, ⟨b0, b1, 2 * b2, 2 * b3, b4, b5⟩]) => lsum_any _ v _ (by simp) W h)
  cases hmc : mayB ⟨b0, b1, 2 * b2, 1, 1, 0⟩ with
  | false =>
    rw [hmc] at MC
    clear hmc hmy p3
    go_wp2_with fail
    refine (MC.out _).mono ?_
    rintro e w3 ⟨rfl, B3⟩
    have W3 := Hid.intro (W2.out.trans (B3.mono W2.out.size))
    clear MC B3 c0 c1 c2 c3 c4 c5
    go_wp2
    go_ret
    exact ⟨rfl, W3.out⟩
  | true =>
  rw [hmc] at MC
  obtain ⟨⟨q1, q2, q3⟩, _⟩ := mayB_true hmc
  simp only at q1 q2 q3
  have hmd : mayB ⟨b0, b1, 2 * b2, 2 * b3, b4, b5⟩ = true := decide_eq_true ⟨⟨q1, q2, q3⟩, ⟨i1, i2⟩, ⟨t1, t2⟩, ⟨(show (1 : Int) ≤ 2 * b3 by omega), (show 2 * b3 ≤ (100 : Int) by omega)⟩, ⟨v1, v2⟩, ⟨r1, r2⟩⟩
  have EQ : ofB ⟨b0, b1, 2 * b2, 2 * b3, b4, b5⟩ = ofB ⟨b0, b1, b2, b3, b4, b5⟩ := of_twice hmy hmd rfl rfl
  have PO := ofB_pos hmy
  have BO := (ofB_bounds ⟨b0, b1, b2, b3, b4, b5⟩).2
  have SE : sumB [⟨b0, b1, b2, b3, b4, b5⟩, ⟨b0, b1, 2 * b2, 2 * b3, b4, b5⟩] = 2 * ofB ⟨b0, b1, b2, b3, b4, b5⟩ := by simp only [sumB, EQ]; omega
  rw [SE] at SU
  rw [EQ] at OC
  generalize ofB ⟨b0, b1, b2, b3, b4, b5⟩ = o at OB OC SU PO BO
  clear hmc hmy hmd EQ SE p3 q3
  go_wp2_with fail
  refine (MC.out _).mono ?_
  rintro e w3 ⟨rfl, B3⟩
  have E3 := Hid.intro (E2.out.trans (B3.mono E2.out.size))
  have W3 := Hid.intro (W2.out.trans (B3.mono W2.out.size))
  clear MC B3 c0 c1 c2 c3 c4 c5
  obtain ⟨c0, c1, c2, c3, c4, c5⟩ := HB.out w3 E3.out
  have BX := fun o => (Below.refl _ w3).alloc (Nat.le_refl _) o
  obtain ⟨x0, x1, x2, x3, x4, x5⟩ := HB.out (w3.alloc (.cells #[.int .i64 b0, .int .i64 b1, .int .i64 b2, .int .i64 b3, .int .i64 b4, .int .i64 b5] 23)) (E3.out.trans ((BX _).mono E3.out.size))
  obtain ⟨y0, y1, y2, y3, y4, y5⟩ := HB.out (w3.alloc (.cells #[.int .i64 b0, .int .i64 b1, .int .i64 (2 * b2), .int .i64 b3, .int .i64 b4, .int .i64 b5] 23)) (E3.out.trans ((BX _).mono E3.out.size))
  have nZ := heap_alloc_new w3 (.cells #[.int .i64 b0, .int .i64 b1, .int .i64 (2 * b2), .int .i64 (2 * b3), .int .i64 b4, .int .i64 b5] 23)
  have EZ := E3.out.trans ((BX (.cells #[.int .i64 b0, .int .i64 b1, .int .i64 (2 * b2), .int .i64 (2 * b3), .int .i64 b4, .int .i64 b5] 23)).mono E3.out.size)
  have WZ := Hid.intro (B1H.out.trans (EZ.mono B1H.out.size))
  obtain ⟨Z, hZ⟩ : ∃ Z, Z = w3.alloc (.cells #[.int .i64 b0, .int .i64 b1, .int .i64 (2 * b2), .int .i64 (2 * b3), .int .i64 b4, .int .i64 b5] 23) := ⟨_, rfl⟩
  rw [← hZ] at nZ EZ WZ
  have KEEP : Hid (∀ W, Below Z.heap.size Z W → (W.cell? ⟨w.heap.size, 0, none⟩ = some (.int .i64 b0) ∧ W.cell? ⟨w.heap.size, 1, none⟩ = some (.int .i64 b1) ∧ W.cell? ⟨w.heap.size, 2, none⟩ = some (.int .i64 b2) ∧ W.cell? ⟨w.heap.size, 3, none⟩ = some (.int .i64 b3) ∧ W.cell? ⟨w.heap.size, 4, none⟩ = some (.int .i64 b4) ∧ W.cell? ⟨w.heap.size, 5, none⟩ = some (.int .i64 b5)) ∧ W.cell? ⟨w3.heap.size, 0, none⟩ = some (.int .i64 b0) ∧ W.cell? ⟨w3.heap.size, 1, none⟩ = some (.int .i64 b1) ∧ W.cell? ⟨w3.heap.size, 2, none⟩ = some (.int .i64 (2 * b2)) ∧ W.cell? ⟨w3.heap.size, 3, none⟩ = some (.int .i64 (2 * b3)) ∧ W.cell? ⟨w3.heap.size, 4, none⟩ = some (.int .i64 b4) ∧ W.cell? ⟨w3.heap.size, 5, none⟩ = some (.int .i64 b5)) := fun W hW => by
    have q := (hW.block _ (lt_of_heap nZ)).trans nZ
    exact ⟨HB.out W (EZ.trans (hW.mono EZ.size)), by rw [cell_of_row _ _ 0 _ _ _ q]; rfl, by rw [cell_of_row _ _ 1 _ _ _ q]; rfl, by rw [cell_of_row _ _ 2 _ _ _ q]; rfl, by rw [cell_of_row _ _ 3 _ _ _ q]; rfl, by rw [cell_of_row _ _ 4 _ _ _ q]; rfl, by rw [cell_of_row _ _ 5 _ _ _ q]; rfl⟩
  obtain ⟨⟨z0, z1, z2, z3, z4, z5⟩, z6, z7, z8, z9, za, zb⟩ := KEEP.out Z (Below.refl _ _)
  have ZE := Hid.intro hZ
  rw [hZ] at z0 z1 z2 z3 z4 z5 z6 z7 z8 z9 za zb
  clear BX nZ hZ EZ
  have CB : Hid (∀ W, Calls Try.prog 6 #[.agg #[.int .i64 b0, .int .i64 b1, .int .i64 b2, .int .i64 b3, .int .i64 b4, .int .i64 b5]] W fun e w' => e = .returned (.int .i64 o) ∧ Below W.heap.size W w') := fun W => OB.out W
  have CC : Hid (∀ W, Calls Try.prog 6 #[.agg #[.int .i64 b0, .int .i64 b1, .int .i64 (2 * b2), .int .i64 (2 * b3), .int .i64 b4, .int .i64 b5]] W fun e w' => e = .returned (.int .i64 o) ∧ Below W.heap.size W w') := fun W => OC.out W
  have o0 : (0 : Int) < o := PO
  have hw2 : IntKind.i64.wrap (2 * o) = 2 * o := IntWalk.i64_in _ (by omega)
  go_wp2_with fail
  rw [← ZE.out]
  rw [← ZE.out] at z0 z1 z2 z3 z4 z5 z6 z7 z8 z9 za zb
  clear x0 x1 x2 x3 x4 x5 y0 y1 y2 y3 y4 y5 c0 c1 c2 c3 c4 c5 OB OC
  go_region_held3 (fun W => (W.cell? ⟨w.heap.size, 0, none⟩ = some (.int .i64 b0) ∧ W.cell? ⟨w.heap.size, 1, none⟩ = some (.int .i64 b1) ∧ W.cell? ⟨w.heap.size, 2, none⟩ = some (.int .i64 b2) ∧ W.cell? ⟨w.heap.size, 3, none⟩ = some (.int .i64 b3) ∧ W.cell? ⟨w.heap.size, 4, none⟩ = some (.int .i64 b4) ∧ W.cell? ⟨w.heap.size, 5, none⟩ = some (.int .i64 b5)) ∧ W.cell? ⟨w3.heap.size, 0, none⟩ = some (.int .i64 b0) ∧ W.cell? ⟨w3.heap.size, 1, none⟩ = some (.int .i64 b1) ∧ W.cell? ⟨w3.heap.size, 2, none⟩ = some (.int .i64 (2 * b2)) ∧ W.cell? ⟨w3.heap.size, 3, none⟩ = some (.int .i64 (2 * b3)) ∧ W.cell? ⟨w3.heap.size, 4, none⟩ = some (.int .i64 b4) ∧ W.cell? ⟨w3.heap.size, 5, none⟩ = some (.int .i64 b5))
    (first | exact KEEP.out _ E9 | exact KEEP.out _ E8 | exact KEEP.out _ (E7.alloc E7.size _) | exact KEEP.out _ E7 | exact KEEP.out _ E6 | exact KEEP.out _ E5 | go_keep)
    (first
      | (have _ := E8; go_at_call 6; refine (CB.out _).mono ?_; rintro e w9 ⟨rfl, B9⟩; have E9 := E8.trans (B9.mono E8.size); clear B9)
      | (go_at_call 7; refine (SU.out _ _ (bds_block (l := [⟨b0, b1, b2, b3, b4, b5⟩, ⟨b0, b1, 2 * b2, 2 * b3, b4, b5⟩]) (heap_alloc_new w7 _) 2)).mono ?_; rintro e w8 ⟨rfl, B8⟩; have E8 : Below Z.heap.size Z w8 := (E7.alloc E7.size _).trans (B8.mono (E7.alloc E7.size _).size); clear B8)
      | (have _ := E6; go_at_call 6; refine (CB.out _).mono ?_; rintro e w7 ⟨rfl, B7⟩; have E7 := E6.trans (B7.mono E6.size); clear B7)
      | (have _ := E5; go_at_call 6; refine (CB.out _).mono ?_; rintro e w6 ⟨rfl, B6⟩; have E6 := E5.trans (B6.mono E5.size); clear B6)
      | (go_at_call 6; refine (CC.out _).mono ?_; rintro e w5 ⟨rfl, B5⟩; have E5 : Below Z.heap.size Z w5 := undrewB B5; clear B5))
  all_goals
    go_wp2
    go_ret
    exact ⟨rfl, WZ.out.trans (E9.mono WZ.out.size)⟩

theorem walk (b : Bdd) (k : Int) (w : World) (_ : (Lit.int .i64 b.bid).wf = true ∧ (Lit.int .i64 b.tx).wf = true ∧ (Lit.int .i64 b.period).wf = true ∧ (Lit.int .i64 b.cost).wf = true ∧ (Lit.int .i64 b.watch).wf = true ∧ (Lit.int .i64 b.prio).wf = true) (_ : (Lit.int .u8 k).wf = true) :
    Calls Try.prog 3 #[Bv b, .int .u8 k] w fun e w' => e = .returned (.bool true) ∧ Below w.heap.size w w' := walk_main b.bid b.tx b.period b.cost b.watch b.prio k w

set_option maxRecDepth 100000 in
theorem lifted (os : Os) (started : os.Started) (H : Type) (enc : TypeId × Value → H) :
    ReturnsInHanded {} Try.checked os 3 .any (Rows.loadPeriodsSpec.pre6 enc Try.prog Try.f3 Rows.loadPeriodsRow.domain false) (Rows.loadPeriodsSpec.post enc Try.prog Try.f3 false true false false) := by
  refine returnsInHanded_of_change (C := Try.checked) own started (by kernel_rfl) Try.func3
    (ChangeSpec.witness6 (enc := enc) (C := Try.checked) false ⟨#[], #[.agg #[.int .i64 0, .int .i64 0, .int .i64 0, .int .i64 0, .int .i64 0, .int .i64 0], .int .u8 0], []⟩ 8 (by kernel_rfl) (by kernel_rfl) (by kernel_rfl) (by kernel_rfl)) ?_
  intro W base args ds gs before hval0 hW hcnd _
  have hval : ∀ (j : Nat) t v, Try.f3.params[j]? = some t → args[j]? = some v → Value.okWide Try.prog W .any base t v := hval0
  have hW' := hW
  obtain ⟨p, q, hA0, hV, rfl, hfz, hnd⟩ := hW
  have hA : DataW.TrodAll enc Try.prog W 0 (fun _ => true) true Try.f3.params.toList args.toList ds p := hA0
  rw [Try.params3] at hA hval
  obtain ⟨v0, vs0, d0, ds0, p0, q0, hargs, rfl, rfl, h0, r0⟩ := trodAll_cons hA
  obtain ⟨v1, vs1, d1, ds1, p1, q1, rfl, rfl, rfl, h1, r1⟩ := trodAll_cons r0
  obtain ⟨rfl, rfl, rfl⟩ := trodAll_nil r1
  obtain rfl : args = #[v0, v1] := by cases args; simp_all
  obtain ⟨rfl, rfl⟩ := trodVars_none hV
  have k0 := h0
  have lt0 : ∀ x ∈ p0, x.block < W.heap.size := by obtain ⟨m, hm⟩ := k0; exact DataW.trod_lt m _ _ _ hm
  obtain ⟨bd0, rfl, w0⟩ := open_bed (hval 0 23 v0 rfl rfl) h0
  obtain ⟨a1, rfl, rfl, rfl, w1⟩ := open_int Try.underlying5 (hval 1 5 v1 rfl rfl) h1
  clear hA0 hval0
  refine (walk bd0 a1 W w0 w1).mono fun e W' ⟨he, bel⟩ => ?_
  subst he
  exact ⟨_, rfl, _, _, _, [], _, [], hW', trodAll_mk1 (shut_bool Try.underlying4 _), (trodAll_cons_mk (Below.trod laidOut (by kernel_rfl) (of_decide_eq_true (by kernel_rfl)) k0 bel lt0) (trodAll_cons_mk (shut_int Try.underlying5 w1) trodAll_mk0)), rfl, bel.frame _, fun h => by cases h⟩

theorem over : Rows.loadPeriodsRow.holds Try.pinned (OpenSpec.ofChange Rows.loadPeriodsSpec) :=
  OpenClaim.holds_of_wide 3 Try.f3 rfl rfl rfl rfl rfl rfl rfl ⟨rfl, rfl, rfl, rfl, rfl⟩ rfl rfl rfl rfl rfl (by kernel_rfl) Try.func3 (by kernel_rfl)
    (of_decide_eq_true (by kernel_rfl)) (by unfold Func.isWrapper; first | (rw [if_pos (by decide +kernel)]; kernel_rfl) | (rw [if_neg (by decide +kernel)]; exact ⟨rfl, rfl⟩))
    (fun os started H enc _ => lifted os started H enc)

end Go.Proofs.Ythofgajchejdfab.LLoadPeriods

namespace Go.Proofs.Ythofgajchejdfab
theorem loadPeriods_holds : Rows.LoadPeriodsSaid := LLoadPeriods.over
#print axioms loadPeriods_holds
end Go.Proofs.Ythofgajchejdfab
