/- The statement EdfOne: a job alone is done just if the units are enough. -/
import Derived.Test.YtgcpkploeobafaaEdAlive
import Derived.Test.YtgcpkploeobafaaEdArg
import Derived.Test.YtgcpkploeobafaaEdEq
import Derived.Deep.RegionHeld3
namespace Go.Proofs.Ytgcpkploeobafaa
open Go.ChangeShapes Go.WideShapes Go.ChangeAt Go.RowKit Go.Joins
open Bt

namespace LEdfOne

theorem undrewE {w w' : World} (h : Below w.drew.heap.size w.drew w') : Below w.heap.size w w' := ⟨h.os, h.tape, h.output, h.size, h.block⟩

theorem push_one {j : Jb} (h : mayJ j = true) : pushE' [] j = 0 ∧ pushQ [] j = [j] := by
  have e : pushE' [] j = 0 := by unfold pushE'; rw [if_pos h]; rfl
  exact ⟨e, by unfold pushQ; rw [if_pos e]; rfl⟩

theorem work_yes {j : Jb} {u : Int} (h : mayJ j = true) (hu : j.left ≤ u) : workD [j] u.toNat = [zeroJ j] ∧ workR [j] u.toNat = [] ∧ (workN [j] u.toNat : Int) = u - j.left := by
  have h1 := (mayJ_true h).1
  have z : ¬ u.toNat = 0 := by omega
  have q : j.left ≤ (u.toNat : Int) := by omega
  refine ⟨by rw [workD, if_neg z, if_pos q]; rfl, by rw [workR, if_neg z, if_pos q]; rfl, ?_⟩
  rw [workN, if_neg z, if_pos q]
  simp only [workN]
  omega

theorem work_no {j : Jb} {u : Int} (h0 : 0 ≤ u) (hu : ¬ j.left ≤ u) : workD [j] u.toNat = [] ∧ leftQ (workR [j] u.toNat) = j.left - u ∧ workN [j] u.toNat = 0 := by
  by_cases z : u.toNat = 0
  · refine ⟨by rw [workD, if_pos z], ?_, by rw [workN, if_pos z]⟩
    rw [workR, if_pos z]
    simp only [leftQ]
    omega
  · have q : ¬ j.left ≤ (u.toNat : Int) := by omega
    refine ⟨by rw [workD, if_neg z, if_neg q], ?_, by rw [workN, if_neg z, if_neg q]⟩
    rw [workR, if_neg z, if_neg q]
    simp only [leftQ]
    omega

set_option maxRecDepth 100000 in
set_option maxHeartbeats 4000000 in
theorem walk_main (b0 b1 b2 b3 b4 b5 b6 : Int) (u : Int) (w : World) :
    Calls Try.prog 6 #[Jv ⟨b0, b1, b2, b3, b4, b5, b6⟩, .int .i64 u] w fun e w' => e = .returned (.bool true) ∧ Below w.heap.size w w' := by
  have BA := (Below.refl _ w).alloc (Nat.le_refl _) (.cells #[.int .i64 b0, .int .i64 b1, .int .i64 b2, .int .i64 b3, .int .i64 b4, .int .i64 b5, .int .i64 b6] 38)
  have nA := heap_alloc_new w (.cells #[.int .i64 b0, .int .i64 b1, .int .i64 b2, .int .i64 b3, .int .i64 b4, .int .i64 b5, .int .i64 b6] 38)
  have AL := Hid.intro (alive12_any (w.alloc (.cells #[.int .i64 b0, .int .i64 b1, .int .i64 b2, .int .i64 b3, .int .i64 b4, .int .i64 b5, .int .i64 b6] 38)))
  have BAH := Hid.intro BA
  have NAH := Hid.intro nA
  clear BA nA
  go_enter Try.func6, Try.ntmps6
  go_wp2_with fail
  refine AL.out.mono ?_
  rintro e w1 ⟨rfl, B1⟩
  have N1 := Hid.intro ((B1.block _ (lt_of_heap NAH.out)).trans NAH.out)
  have B1H := Hid.intro (BAH.out.trans (B1.mono BAH.out.size))
  clear AL B1 NAH BAH
  by_cases hc0 : u < 0
  · go_wp2
    go_ret
    exact ⟨rfl, B1H.out⟩
  by_cases hc1 : 5000 < u
  · go_wp2
    go_ret
    exact ⟨rfl, B1H.out⟩
  have HB : Hid (∀ (W : World), Chg (fun k => ¬ k < w1.heap.size) w1 W → W.cell? ⟨w.heap.size, 0, none⟩ = some (.int .i64 b0) ∧ W.cell? ⟨w.heap.size, 1, none⟩ = some (.int .i64 b1) ∧ W.cell? ⟨w.heap.size, 2, none⟩ = some (.int .i64 b2) ∧ W.cell? ⟨w.heap.size, 3, none⟩ = some (.int .i64 b3) ∧ W.cell? ⟨w.heap.size, 4, none⟩ = some (.int .i64 b4) ∧ W.cell? ⟨w.heap.size, 5, none⟩ = some (.int .i64 b5) ∧ W.cell? ⟨w.heap.size, 6, none⟩ = some (.int .i64 b6)) := fun W hB => by
    have q := (hB.block _ (lt_of_heap N1.out) (fun q => q (lt_of_heap N1.out))).trans N1.out
    exact ⟨by rw [cell_of_row _ _ 0 _ _ _ q]; rfl, by rw [cell_of_row _ _ 1 _ _ _ q]; rfl, by rw [cell_of_row _ _ 2 _ _ _ q]; rfl, by rw [cell_of_row _ _ 3 _ _ _ q]; rfl, by rw [cell_of_row _ _ 4 _ _ _ q]; rfl, by rw [cell_of_row _ _ 5 _ _ _ q]; rfl, by rw [cell_of_row _ _ 6 _ _ _ q]; rfl⟩
  obtain ⟨c0, c1, c2, c3, c4, c5, c6⟩ := HB.out w1 (Chg.refl _ _)
  have MY := Hid.intro (emay_any ⟨b0, b1, b2, b3, b4, b5, b6⟩ w1)
  cases hmy : mayJ ⟨b0, b1, b2, b3, b4, b5, b6⟩ with
  | false =>
    rw [hmy] at MY
    clear hmy
    go_wp2_with fail
    refine MY.out.mono ?_
    rintro e w2 ⟨rfl, B2⟩
    have B2H := Hid.intro (B1H.out.trans (B2.mono B1H.out.size))
    clear MY B2 c0 c1 c2 c3 c4 c5 c6
    go_wp2
    go_ret
    exact ⟨rfl, B2H.out⟩
  | true =>
    rw [hmy] at MY
    have PO := push_one hmy
    have hb6 : 1 ≤ b6 ∧ b6 ≤ 1000 := (mayJ_true hmy).1
    have WY : Hid (b6 ≤ u → workD [⟨b0, b1, b2, b3, b4, b5, b6⟩] u.toNat = [zeroJ ⟨b0, b1, b2, b3, b4, b5, b6⟩] ∧ workR [⟨b0, b1, b2, b3, b4, b5, b6⟩] u.toNat = [] ∧ (workN [⟨b0, b1, b2, b3, b4, b5, b6⟩] u.toNat : Int) = u - b6) := fun q => work_yes hmy q
    have WN : Hid (¬ b6 ≤ u → workD [⟨b0, b1, b2, b3, b4, b5, b6⟩] u.toNat = [] ∧ leftQ (workR [⟨b0, b1, b2, b3, b4, b5, b6⟩] u.toNat) = b6 - u ∧ workN [⟨b0, b1, b2, b3, b4, b5, b6⟩] u.toNat = 0) := fun q => work_no (by omega) q
    clear hmy
    go_wp2_with fail
    refine MY.out.mono ?_
    rintro e w2 ⟨rfl, B2⟩
    have B2H := Hid.intro B2
    clear MY B2 c0 c1 c2 c3 c4 c5 c6
    go_wp2_with fail
    refine (enew_any w2).mono ?_
    rintro e w3 ⟨b, F, rfl, hS, hF, B3⟩
    have L3 := ql_new hS hF B3
    have B3H := Hid.intro B3
    have P3 := qlpush ⟨b0, b1, b2, b3, b4, b5, b6⟩ L3
    rw [PO.1, PO.2] at P3
    have P3H := Hid.intro P3
    have K3 : Hid (Chg (fun k => ¬ k < w1.heap.size) w1 w3) := ((below_chg B2H.out).mono (fun k hk => hk.elim)).trans ((below_chg B3).mono (fun k hk => hk.elim)) (fun k q _ => q)
    obtain ⟨c0, c1, c2, c3, c4, c5, c6⟩ := HB.out w3 K3.out
    clear hS hF B3 L3 P3 PO
    go_wp2_with fail
    refine P3H.out.mono ?_
    rintro e w4 ⟨rfl, L4⟩
    have P4H := Hid.intro (qlwork u L4)
    clear P3H L4 c0 c1 c2 c3 c4 c5 c6
    go_wp2_with fail
    refine P4H.out.mono ?_
    rintro e w5 ⟨v5, G5, rfl, g5, s5, L5, M5⟩
    have K5 : Hid (Chg (fun k => ¬ k < w1.heap.size) w1 w5) := K3.out.trans (M5.chg.mono (fun k hk _ q => hk (Nat.lt_of_lt_of_le q B2H.out.size))) (fun k q _ => q)
    obtain ⟨c0, c1, c2, c3, c4, c5, c6⟩ := HB.out w5 K5.out
    have BW5 := Hid.intro (B1H.out.trans (K5.out.below (B := w.heap.size) B1H.out.size (fun k hk => by have := B1H.out.size; omega)))
    have L5H := Hid.intro L5
    clear P4H g5 L5 M5 K5 K3
    by_cases hu : b6 ≤ u
    · obtain ⟨e1, e2, e3⟩ := WY.out (by omega)
      rw [e1] at s5
      rw [e2] at L5H
      rw [e3]
      obtain ⟨pb, off, cc, rfl, r5, j5⟩ := js_one s5
      have LI := Hid.intro (qllist (L5H.out.below ((Below.refl w5.heap.size w5).drew)))
      have K6 : Hid (∀ W, Below w5.heap.size w5 W → (W.cell? ⟨w.heap.size, 0, none⟩ = some (.int .i64 b0) ∧ W.cell? ⟨w.heap.size, 1, none⟩ = some (.int .i64 b1) ∧ W.cell? ⟨w.heap.size, 2, none⟩ = some (.int .i64 b2) ∧ W.cell? ⟨w.heap.size, 3, none⟩ = some (.int .i64 b3) ∧ W.cell? ⟨w.heap.size, 4, none⟩ = some (.int .i64 b4) ∧ W.cell? ⟨w.heap.size, 5, none⟩ = some (.int .i64 b5) ∧ W.cell? ⟨w.heap.size, 6, none⟩ = some (.int .i64 b6)) ∧ (W.cell? ⟨pb, off, none⟩ = some (.int .i64 b0) ∧ W.cell? ⟨pb, off + 1, none⟩ = some (.int .i64 b1) ∧ W.cell? ⟨pb, off + 2, none⟩ = some (.int .i64 b2) ∧ W.cell? ⟨pb, off + 3, none⟩ = some (.int .i64 b3))) := fun W hW => by
        have f : ∀ {a : Addr} {v : Value}, w5.cell? a = some v → W.cell? a = some v := fun h => (hW.cell (cell_lt h)).trans h
        exact ⟨⟨f c0, f c1, f c2, f c3, f c4, f c5, f c6⟩, f j5.1, f j5.2.1, f j5.2.2.1, f j5.2.2.2.1⟩
      have y0 : w5.cell? ⟨pb, off, none⟩ = some (.int .i64 b0) := j5.1
      have y1 : w5.cell? ⟨pb, off + 1, none⟩ = some (.int .i64 b1) := j5.2.1
      have y2 : w5.cell? ⟨pb, off + 2, none⟩ = some (.int .i64 b2) := j5.2.2.1
      have y3 : w5.cell? ⟨pb, off + 3, none⟩ = some (.int .i64 b3) := j5.2.2.2.1
      have se := fun (W : World) => smp_eqJ 9998 b1 b2 b3 b1 b2 b3 W
      have sb : (b1 == b1 && (b2 == b2 && b3 == b3)) = true := by simp
      rw [sb] at se
      have wr1 : IntKind.i64.wrap (u - b6) = u - b6 := by rw [IntKind.wrap_i64]; omega
      have wq : (u - b6 == u - b6) = true := by simp
      have wb : (b0 == b0) = true := by simp
      clear e1 e2 e3 s5 r5 j5 L5H WY WN HB sb
      go_wp2_with fail
      go_region_held3 (fun W => (W.cell? ⟨w.heap.size, 0, none⟩ = some (.int .i64 b0) ∧ W.cell? ⟨w.heap.size, 1, none⟩ = some (.int .i64 b1) ∧ W.cell? ⟨w.heap.size, 2, none⟩ = some (.int .i64 b2) ∧ W.cell? ⟨w.heap.size, 3, none⟩ = some (.int .i64 b3) ∧ W.cell? ⟨w.heap.size, 4, none⟩ = some (.int .i64 b4) ∧ W.cell? ⟨w.heap.size, 5, none⟩ = some (.int .i64 b5) ∧ W.cell? ⟨w.heap.size, 6, none⟩ = some (.int .i64 b6)) ∧ (W.cell? ⟨pb, off, none⟩ = some (.int .i64 b0) ∧ W.cell? ⟨pb, off + 1, none⟩ = some (.int .i64 b1) ∧ W.cell? ⟨pb, off + 2, none⟩ = some (.int .i64 b2) ∧ W.cell? ⟨pb, off + 3, none⟩ = some (.int .i64 b3)))
        (first | exact K6.out _ E6 | go_keep)
        (first
          | (go_at_call 14; refine LI.out.mono ?_; rintro e w6 ⟨v6, rfl, s6, B6⟩; obtain ⟨a6, c6', rfl⟩ := s6.len; have E6 := undrewE B6; clear B6 s6)
          | fail)
      all_goals
        go_wp2
        go_ret
        exact ⟨rfl, BW5.out.trans (E6.mono BW5.out.size)⟩
    · obtain ⟨e1, e2, e3⟩ := WN.out (by omega)
      rw [e1] at s5
      have LE := qlleft (L5H.out.below ((Below.refl w5.heap.size w5).drew))
      rw [e2] at LE
      rw [e3]
      obtain ⟨ao, cc, rfl⟩ := s5.len
      have LEH := Hid.intro LE
      have K6 : Hid (∀ W, Below w5.heap.size w5 W → W.cell? ⟨w.heap.size, 6, none⟩ = some (.int .i64 b6)) := fun W hW => (hW.cell (cell_lt c6)).trans c6
      have wr1 : IntKind.i64.wrap (b6 - u) = b6 - u := by rw [IntKind.wrap_i64]; omega
      have wq : (b6 - u == b6 - u) = true := by simp
      clear e1 e2 e3 s5 LE L5H WY WN HB
      go_wp2_with fail
      go_region_held3 (fun W => W.cell? ⟨w.heap.size, 6, none⟩ = some (.int .i64 b6))
        (first | exact K6.out _ E6 | go_keep)
        (first
          | (go_at_call 15; refine LEH.out.mono ?_; rintro e w6 ⟨rfl, B6⟩; have E6 := undrewE B6; clear B6)
          | fail)
      all_goals
        go_wp2
        go_ret
        exact ⟨rfl, BW5.out.trans (E6.mono BW5.out.size)⟩

theorem walk (j : Jb) (u : Int) (w : World) (_ : JWf j) (_ : (Lit.int .i64 u).wf = true) :
    Calls Try.prog 6 #[Jv j, .int .i64 u] w fun e w' => e = .returned (.bool true) ∧ Below w.heap.size w w' := walk_main j.bed j.kind j.tick j.value j.since j.dl j.left u w

set_option maxRecDepth 100000 in
theorem lifted (os : Os) (started : os.Started) (H : Type) (enc : TypeId × Value → H) :
    ReturnsInHanded {} Try.checked os 6 .any (Rows.edfOneSpec.pre6 enc Try.prog Try.f6 Rows.edfOneRow.domain false) (Rows.edfOneSpec.post enc Try.prog Try.f6 false true false false) := by
  refine returnsInHanded_of_change (C := Try.checked) own started (by kernel_rfl) Try.func6
    (ChangeSpec.witness6 (enc := enc) (C := Try.checked) false ⟨#[], #[.agg #[.int .i64 0, .int .i64 0, .int .i64 0, .int .i64 0, .int .i64 0, .int .i64 0, .int .i64 0], .int .i64 0], []⟩ 8 (by kernel_rfl) (by kernel_rfl) (by kernel_rfl) (by kernel_rfl)) ?_
  intro W base args ds gs before hval0 hW hcnd _
  have hval : ∀ (j : Nat) t v, Try.f6.params[j]? = some t → args[j]? = some v → Value.okWide Try.prog W .any base t v := hval0
  have hW' := hW
  obtain ⟨p, q, hA0, hV, rfl, hfz, hnd⟩ := hW
  have hA : DataW.TrodAll enc Try.prog W 0 (fun _ => true) true Try.f6.params.toList args.toList ds p := hA0
  rw [Try.params6] at hA hval
  obtain ⟨v0, vs0, d0, ds0, p0, q0, hargs, rfl, rfl, h0, r0⟩ := trodAll_cons hA
  obtain ⟨v1, vs1, d1, ds1, p1, q1, rfl, rfl, rfl, h1, r1⟩ := trodAll_cons r0
  obtain ⟨rfl, rfl, rfl⟩ := trodAll_nil r1
  obtain rfl : args = #[v0, v1] := by cases args; simp_all
  obtain ⟨rfl, rfl⟩ := trodVars_none hV
  have k0 := h0
  have lt0 : ∀ x ∈ p0, x.block < W.heap.size := by obtain ⟨m, hm⟩ := k0; exact DataW.trod_lt m _ _ _ hm
  obtain ⟨jb0, rfl, w0⟩ := open_job (hval 0 38 v0 rfl rfl) h0
  obtain ⟨a1, rfl, rfl, rfl, w1⟩ := open_int Try.underlying3 (hval 1 3 v1 rfl rfl) h1
  clear hA0 hval0
  refine (walk jb0 a1 W w0 w1).mono fun e W' ⟨he, bel⟩ => ?_
  subst he
  exact ⟨_, rfl, _, _, _, [], _, [], hW', trodAll_mk1 (shut_bool Try.underlying4 _), (trodAll_cons_mk (Below.trod laidOut (by kernel_rfl) (of_decide_eq_true (by kernel_rfl)) k0 bel lt0) (trodAll_cons_mk (shut_int Try.underlying3 w1) trodAll_mk0)), rfl, bel.frame _, fun h => by cases h⟩

theorem over : Rows.edfOneRow.holds Try.pinned (OpenSpec.ofChange Rows.edfOneSpec) :=
  OpenClaim.holds_of_wide 6 Try.f6 rfl rfl rfl rfl rfl rfl rfl ⟨rfl, rfl, rfl, rfl, rfl⟩ rfl rfl rfl rfl rfl (by kernel_rfl) Try.func6 (by kernel_rfl)
    (of_decide_eq_true (by kernel_rfl)) (by unfold Func.isWrapper; first | (rw [if_pos (by decide +kernel)]; kernel_rfl) | (rw [if_neg (by decide +kernel)]; exact ⟨rfl, rfl⟩))
    (fun os started H enc _ => lifted os started H enc)

end Go.Proofs.Ytgcpkploeobafaa.LEdfOne

namespace Go.Proofs.Ytgcpkploeobafaa
theorem edfOne_holds : Rows.EdfOneSaid := LEdfOne.over
#print axioms edfOne_holds
end Go.Proofs.Ytgcpkploeobafaa
