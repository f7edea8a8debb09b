/- The statement LimitCount: an alarm comes with the value that is the Count-th one beyond its limit, one behind the other, and goes with the first one within. -/
import Derived.Test.YtcloneccfbcclaaLmOne
import Derived.Deep.RegionHeld3
namespace Go.Proofs.Ytcloneccfbcclaa
open Go.ChangeShapes Go.WideShapes Go.ChangeAt Go.RowKit
open Bt

namespace LLimitCount

theorem out_eq (l : Lm) (v : Int) : outK l v = (decide (v < l.lo) || decide (l.hi < v)) := rfl

set_option maxRecDepth 100000 in
set_option maxHeartbeats 4000000 in
theorem walk (l : Lm) (a : Option Addr) (len cap : Nat) (zs : List Int) (w : World) (_ : LmW l) (hz : IsRow .i64 w a len cap zs) :
    Calls Try.prog 4 #[Lv l, .slice a len cap] w fun e w' => e = .returned (.bool true) ∧ Below w.heap.size w w' := by
  have lmx : len ≤ 9223372036854775807 := by have := hz.le_cap; have := hz.cap_le; omega
  have HZ := Hid.intro (fun h0 => hz.ints h0)
  obtain ⟨x0, x1, x2, x3, x4⟩ := l
  have B0 := (Below.refl w.heap.size w).alloc (Nat.le_refl _) (.cells #[.int .i64 x0, .int .i64 x1, .int .i64 x2, .int .i64 x3, .int .i64 x4] 30)
  have LA0 := limC (l := ⟨x0, x1, x2, x3, x4⟩) (heap_alloc_new w (.cells #[.int .i64 x0, .int .i64 x1, .int .i64 x2, .int .i64 x3, .int .i64 x4] 30))
  have AL := Hid.intro (alive14_any (w.alloc (.cells #[.int .i64 x0, .int .i64 x1, .int .i64 x2, .int .i64 x3, .int .i64 x4] 30)))
  have LAH := Hid.intro LA0
  have B0H := Hid.intro B0
  clear LA0 B0 hz
  go_enter Try.func4, Try.ntmps4
  go_wp2_with fail
  refine AL.out.mono ?_
  rintro e w1 ⟨rfl, B1⟩
  have LB := LAH.out.below B1
  have lbl : w.heap.size < w1.heap.size := cell_lt LB.1
  have LA := Hid.intro LB
  have B2 := Hid.intro (B0H.out.trans (B1.mono B0H.out.size))
  clear AL B1 LAH B0H
  go_wp2_with fail
  refine (lnew_any w1).mono ?_
  rintro e w2 ⟨b, T, rfl, hS, hF, BN⟩
  have O1 := one_new (P := TB b [] 0) hS hF BN
  obtain ⟨c0, c1, c2, c3, c4⟩ := LB.below BN
  simp only [Nat.zero_add] at c0 c1 c2 c3 c4
  by_cases hlen : 200 < len
  · have hl2 : (200 : Int) < (len : Int) := by omega
    have FI := Hid.intro (B2.out.trans ((O1.out (Nat.le_refl _)).mono B2.out.size))
    clear hS hF BN O1 LB c0 c1 c2 c3 c4
    go_wp2
    go_ret
    exact ⟨rfl, FI.out⟩
  have hl2 : ¬ (200 : Int) < (len : Int) := by omega
  cases hm : mayL ⟨x0, x1, x2, x3, x4⟩ with
  | false =>
    have P1 := tset ⟨x0, x1, x2, x3, x4⟩ O1
    rw [(t1_not hm).1] at P1
    have PH := Hid.intro P1
    clear hS hF BN O1 P1 LB hm
    go_wp2_with fail
    refine PH.out.mono ?_
    rintro e w3 ⟨rfl, l3⟩
    have FI := Hid.intro (B2.out.trans ((l3.out (Nat.le_refl _)).mono B2.out.size))
    clear l3 PH c0 c1 c2 c3 c4
    go_wp2
    go_ret
    exact ⟨rfl, FI.out⟩
  | true =>
  have P1 := tset ⟨x0, x1, x2, x3, x4⟩ O1
  rw [(t1_set hm).1, (t1_set hm).2] at P1
  have PH := Hid.intro P1
  have ho := okO_may hm
  have hb := mayL_true hm
  simp only at hb
  have cp : decide (x4 ≤ ((0 : Nat) : Int)) = false := decide_eq_false (by omega)
  have CP := Hid.intro cp
  clear hS hF BN O1 P1 LB hm cp
  go_wp2_with fail
  refine PH.out.mono ?_
  rintro e w3 ⟨rfl, l3⟩
  have L3 := Hid.intro l3
  clear l3 PH c0 c1 c2 c3 c4
  go_wp2_with fail
  go_loopw [6, 7, 8] (fun nv ov iv ws => ∃ t N : Nat, t ≤ len ∧ N ≤ t ∧ nv = .int .i64 N ∧ ov = .bool (decide (x4 ≤ (N : Int))) ∧ iv = .int .i64 t ∧ One (TB b [⟨⟨x0, x1, x2, x3, x4⟩, N⟩] t) (fun k => k < w1.heap.size) w1 ws) (fun _ _ iv _ => len - (intOf iv).toNat)
  case atStart => exact ⟨0, 0, by omega, by omega, rfl, by rw [CP.out], rfl, L3.out⟩
  case round =>
    clear L3
    obtain ⟨t, N, ht, hN, rfl, rfl, rfl, hL⟩ := hrel
    have LH := Hid.intro hL
    obtain ⟨c0, c1, c2, c3, c4⟩ := one_lm hL LA.out lbl
    simp only [Nat.zero_add] at c0 c1 c2 c3 c4
    by_cases hlt : t < len
    · obtain ⟨vb, off, ea, _, hcell⟩ := HZ.out (by omega)
      subst ea
      have v0 := hcell t hlt
      have vbl : vb < w.heap.size := cell_lt v0
      have V1 := Hid.intro (show w1.cell? ⟨vb, off + t, none⟩ = some (.int .i64 (zs.getD t 0)) ∧ vb < w1.heap.size from ⟨(B2.out.cell (cell_lt v0)).trans v0, by omega⟩)
      have v1 : wr.cell? ⟨vb, off + t, none⟩ = some (.int .i64 (zs.getD t 0)) := hL.cell ((B2.out.cell (cell_lt v0)).trans v0) (show vb < w1.heap.size by omega)
      have t0 : (0 : Int) ≤ (t : Int) := by omega
      have t1 : (t : Int) < (len : Int) := by omega
      generalize zs.getD t 0 = z at *
      obtain ⟨K, hK⟩ : ∃ K, K = if outK ⟨x0, x1, x2, x3, x4⟩ z = true then N + 1 else 0 := ⟨_, rfl⟩
      have KN : K ≤ t + 1 := by rw [hK]; split <;> omega
      have HKK := Hid.intro hK
      have hlt2 : t < 200 := by omega
      rw [out_eq] at hK
      simp only at hK
      clear hL hcell v0
      by_cases z1 : z < x2
      · have e1 : K = N + 1 := by rw [hK, decide_eq_true z1]; rfl
        subst e1
        clear hK
        go_wp2_with fail
        go_quiet (fail)
        generalize hq : wr.drewN _ = wq
        have Bq : Below wr.heap.size wr wq := by rw [← hq]; exact ⟨rfl, rfl, rfl, Nat.le_refl _, fun _ _ => rfl⟩
        have LQ := LH.out.below (tb_owned _ _ _) Bq
        have LQ2 := LQ.below (tb_owned _ _ _) (w' := wq.drew) (Below.refl _ _).drew
        have v2 := (Bq.cell (cell_lt v1)).trans v1
        obtain ⟨d0, d1, d2, d3, d4⟩ := one_lm LQ LA.out lbl
        simp only [Nat.zero_add] at d0 d1 d2 d3 d4
        have SE := Hid.intro (t1_step (l := ⟨x0, x1, x2, x3, x4⟩) z ho LQ2 HKK.out)
        clear LQ LQ2 Bq hq LH c0 c1 c2 c3 c4 v1
        go_wp2_with fail
        go_region_held3 (fun W => W.cell? ⟨w.heap.size, 0, none⟩ = some (.int .i64 x0) ∧ W.cell? ⟨w.heap.size, 1, none⟩ = some (.int .i64 x1) ∧ W.cell? ⟨vb, off + t, none⟩ = some (.int .i64 z))
          (first | exact KK.out | go_keep)
          (first
            | (go_at_call 10; refine SE.out.mono ?_; rintro e w4 ⟨rfl, l4⟩; have KK := Hid.intro (show w4.cell? ⟨w.heap.size, 0, none⟩ = some (.int .i64 x0) ∧ w4.cell? ⟨w.heap.size, 1, none⟩ = some (.int .i64 x1) ∧ w4.cell? ⟨vb, off + t, none⟩ = some (.int .i64 z) from ⟨by have q := (one_lm l4 LA.out lbl).1; exact q, by have q := (one_lm l4 LA.out lbl).2.1; simpa using q, l4.cell V1.out.1 V1.out.2⟩); have L4 := Hid.intro l4; clear l4)
            | fail)
        all_goals
          obtain ⟨c0, c1, c2, c3, c4⟩ := one_lm L4.out LA.out lbl
          simp only [Nat.zero_add] at c0 c1 c2 c3 c4
          have BE := tbey x0 x1 ho L4.out
          rw [t1_bey ⟨x0, x1, x2, x3, x4⟩] at BE
          have BEH := Hid.intro BE
          clear L4 BE SE KK d0 d1 d2 d3 d4 v2
          go_wp2_with fail
          refine BEH.out.mono ?_
          rintro e w5 ⟨rfl, l5⟩
          have L5 := Hid.intro l5
          clear l5 BEH c0 c1 c2 c3 c4
          go_wp2
          go_roundw
          case rel => exact ⟨t + 1, N + 1, by omega, by omega, by go_num, rfl, by go_num, L5.out⟩
          case measure => simp [intOf]; omega
      · by_cases z2 : x3 < z
        · have e1 : K = N + 1 := by rw [hK, decide_eq_true z2, Bool.or_true]; rfl
          subst e1
          clear hK
          go_wp2_with fail
          go_quiet (fail)
          generalize hq : wr.drewN _ = wq
          have Bq : Below wr.heap.size wr wq := by rw [← hq]; exact ⟨rfl, rfl, rfl, Nat.le_refl _, fun _ _ => rfl⟩
          have LQ := LH.out.below (tb_owned _ _ _) Bq
          have LQ2 := LQ.below (tb_owned _ _ _) (w' := wq.drew) (Below.refl _ _).drew
          have v2 := (Bq.cell (cell_lt v1)).trans v1
          obtain ⟨d0, d1, d2, d3, d4⟩ := one_lm LQ LA.out lbl
          simp only [Nat.zero_add] at d0 d1 d2 d3 d4
          have SE := Hid.intro (t1_step (l := ⟨x0, x1, x2, x3, x4⟩) z ho LQ2 HKK.out)
          clear LQ LQ2 Bq hq LH c0 c1 c2 c3 c4 v1
          go_wp2_with fail
          go_region_held3 (fun W => W.cell? ⟨w.heap.size, 0, none⟩ = some (.int .i64 x0) ∧ W.cell? ⟨w.heap.size, 1, none⟩ = some (.int .i64 x1) ∧ W.cell? ⟨vb, off + t, none⟩ = some (.int .i64 z))
            (first | exact KK.out | go_keep)
            (first
              | (go_at_call 10; refine SE.out.mono ?_; rintro e w4 ⟨rfl, l4⟩; have KK := Hid.intro (show w4.cell? ⟨w.heap.size, 0, none⟩ = some (.int .i64 x0) ∧ w4.cell? ⟨w.heap.size, 1, none⟩ = some (.int .i64 x1) ∧ w4.cell? ⟨vb, off + t, none⟩ = some (.int .i64 z) from ⟨by have q := (one_lm l4 LA.out lbl).1; exact q, by have q := (one_lm l4 LA.out lbl).2.1; simpa using q, l4.cell V1.out.1 V1.out.2⟩); have L4 := Hid.intro l4; clear l4)
              | fail)
          all_goals
            obtain ⟨c0, c1, c2, c3, c4⟩ := one_lm L4.out LA.out lbl
            simp only [Nat.zero_add] at c0 c1 c2 c3 c4
            have BE := tbey x0 x1 ho L4.out
            rw [t1_bey ⟨x0, x1, x2, x3, x4⟩] at BE
            have BEH := Hid.intro BE
            clear L4 BE SE KK d0 d1 d2 d3 d4 v2
            go_wp2_with fail
            refine BEH.out.mono ?_
            rintro e w5 ⟨rfl, l5⟩
            have L5 := Hid.intro l5
            clear l5 BEH c0 c1 c2 c3 c4
            go_wp2
            go_roundw
            case rel => exact ⟨t + 1, N + 1, by omega, by omega, by go_num, rfl, by go_num, L5.out⟩
            case measure => simp [intOf]; omega
        · have e1 : K = 0 := by rw [hK, decide_eq_false z1, decide_eq_false z2]; rfl
          subst e1
          clear hK
          go_wp2_with fail
          go_quiet (fail)
          generalize hq : wr.drewN _ = wq
          have Bq : Below wr.heap.size wr wq := by rw [← hq]; exact ⟨rfl, rfl, rfl, Nat.le_refl _, fun _ _ => rfl⟩
          have LQ := LH.out.below (tb_owned _ _ _) Bq
          have LQ2 := LQ.below (tb_owned _ _ _) (w' := wq.drew) (Below.refl _ _).drew
          have v2 := (Bq.cell (cell_lt v1)).trans v1
          obtain ⟨d0, d1, d2, d3, d4⟩ := one_lm LQ LA.out lbl
          simp only [Nat.zero_add] at d0 d1 d2 d3 d4
          have SE := Hid.intro (t1_step (l := ⟨x0, x1, x2, x3, x4⟩) z ho LQ2 HKK.out)
          clear LQ LQ2 Bq hq LH c0 c1 c2 c3 c4 v1
          go_wp2_with fail
          go_region_held3 (fun W => W.cell? ⟨w.heap.size, 0, none⟩ = some (.int .i64 x0) ∧ W.cell? ⟨w.heap.size, 1, none⟩ = some (.int .i64 x1) ∧ W.cell? ⟨vb, off + t, none⟩ = some (.int .i64 z))
            (first | exact KK.out | go_keep)
            (first
              | (go_at_call 10; refine SE.out.mono ?_; rintro e w4 ⟨rfl, l4⟩; have KK := Hid.intro (show w4.cell? ⟨w.heap.size, 0, none⟩ = some (.int .i64 x0) ∧ w4.cell? ⟨w.heap.size, 1, none⟩ = some (.int .i64 x1) ∧ w4.cell? ⟨vb, off + t, none⟩ = some (.int .i64 z) from ⟨by have q := (one_lm l4 LA.out lbl).1; exact q, by have q := (one_lm l4 LA.out lbl).2.1; simpa using q, l4.cell V1.out.1 V1.out.2⟩); have L4 := Hid.intro l4; clear l4)
              | fail)
          all_goals
            obtain ⟨c0, c1, c2, c3, c4⟩ := one_lm L4.out LA.out lbl
            simp only [Nat.zero_add] at c0 c1 c2 c3 c4
            have BE := tbey x0 x1 ho L4.out
            rw [t1_bey ⟨x0, x1, x2, x3, x4⟩] at BE
            have BEH := Hid.intro BE
            clear L4 BE SE KK d0 d1 d2 d3 d4 v2
            go_wp2_with fail
            refine BEH.out.mono ?_
            rintro e w5 ⟨rfl, l5⟩
            have L5 := Hid.intro l5
            clear l5 BEH c0 c1 c2 c3 c4
            go_wp2
            go_roundw
            case rel => exact ⟨t + 1, 0, by omega, by omega, by go_num, rfl, by go_num, L5.out⟩
            case measure => simp [intOf]; omega
    · obtain rfl : t = len := by omega
      have t1 : ¬ (t : Int) < (t : Int) := by omega
      have ON := ton x0 x1 ho hL
      rw [t1_on ⟨x0, x1, x2, x3, x4⟩] at ON
      have ONH := Hid.intro ON
      clear hL ON
      go_wp2_with fail
      refine ONH.out.mono ?_
      rintro e w4 ⟨rfl, l4⟩
      have FI := Hid.intro (B2.out.trans ((l4.out (Nat.le_refl _)).mono B2.out.size))
      clear l4 ONH c0 c1 c2 c3 c4
      go_wp2
      go_ret
      exact ⟨rfl, FI.out⟩

set_option maxRecDepth 100000 in
theorem lifted (os : Os) (started : os.Started) (H : Type) (enc : TypeId × Value → H) :
    ReturnsInHanded {} Try.checked os 4 .any (Rows.limitCountSpec.pre6 enc Try.prog Try.f4 Rows.limitCountRow.domain false) (Rows.limitCountSpec.post enc Try.prog Try.f4 false true false false) := by
  refine returnsInHanded_of_change (C := Try.checked) own started (by kernel_rfl) Try.func4
    (ChangeSpec.witness6 (enc := enc) (C := Try.checked) false ⟨#[], #[.agg #[.int .i64 0, .int .i64 0, .int .i64 0, .int .i64 0, .int .i64 0], .slice none 0 0], []⟩ 8 (by kernel_rfl) (by kernel_rfl) (by kernel_rfl) (by kernel_rfl)) ?_
  intro W base args ds gs before hval0 hW hcnd _
  have hval : ∀ (j : Nat) t v, Try.f4.params[j]? = some t → args[j]? = some v → Value.okWide Try.prog W .any base t v := hval0
  have hW' := hW
  obtain ⟨p, q, hA0, hV, rfl, hfz, hnd⟩ := hW
  have hA : DataW.TrodAll enc Try.prog W 0 (fun _ => true) true Try.f4.params.toList args.toList ds p := hA0
  rw [Try.params4] at hA hval
  obtain ⟨v0, vs0, d0, ds0, p0, q0, hargs, rfl, rfl, h0, r0⟩ := trodAll_cons hA
  obtain ⟨v1, vs1, d1, ds1, p1, q1, rfl, rfl, rfl, h1, r1⟩ := trodAll_cons r0
  obtain ⟨rfl, rfl, rfl⟩ := trodAll_nil r1
  obtain rfl : args = #[v0, v1] := by cases args; simp_all
  obtain ⟨rfl, rfl⟩ := trodVars_none hV
  have k0 := h0
  have lt0 : ∀ x ∈ p0, x.block < W.heap.size := by obtain ⟨m, hm⟩ := k0; exact DataW.trod_lt m _ _ _ hm
  obtain ⟨lm0, rfl, w0⟩ := open_limit (hval 0 30 v0 rfl rfl) h0
  obtain ⟨a1, len1, cap1, rfl⟩ := okWide_slice Try.underlying46 (hval 1 46 v1 rfl rfl)
  have k1 := h1
  have lt1 : ∀ x ∈ p1, x.block < W.heap.size := by obtain ⟨m, hm⟩ := k1; exact DataW.trod_lt m _ _ _ hm
  obtain ⟨z1, w1⟩ : ∃ zs, IsRow .i64 W a1 len1 cap1 zs := by
    obtain ⟨fuel, hf⟩ := h1
    rcases open_ints Try.underlying46 Try.underlying3 (by kernel_rfl) hf with ⟨hcs, _⟩ | ⟨x, l, c, zs, hcs, _, hl, hm, hz, _, hcell, hwz⟩
    · simp [Value.cells] at hcs
      obtain ⟨rfl, rfl, rfl⟩ := hcs
      exact ⟨[], .inl ⟨rfl, rfl, rfl, rfl⟩⟩
    · simp [Value.cells] at hcs
      obtain ⟨rfl, rfl, rfl⟩ := hcs
      exact ⟨zs, .inr ⟨_, rfl, hl, hm, by simpa using hz, hcell, hwz⟩⟩
  clear hA0 hval0
  refine (walk lm0 a1 len1 cap1 z1 W w0 w1).mono fun e W' ⟨he, bel⟩ => ?_
  subst he
  exact ⟨_, rfl, _, _, _, [], _, [], hW', trodAll_mk1 (shut_bool Try.underlying4 _), (trodAll_cons_mk (Below.trod laidOut (by kernel_rfl) (of_decide_eq_true (by kernel_rfl)) k0 bel lt0) (trodAll_cons_mk (Below.trod laidOut (by kernel_rfl) (of_decide_eq_true (by kernel_rfl)) k1 bel lt1) trodAll_mk0)), rfl, bel.frame _, fun h => by cases h⟩

theorem over : Rows.limitCountRow.holds Try.pinned (OpenSpec.ofChange Rows.limitCountSpec) :=
  OpenClaim.holds_of_wide 4 Try.f4 rfl rfl rfl rfl rfl rfl rfl ⟨rfl, rfl, rfl, rfl, rfl⟩ rfl rfl rfl rfl rfl (by kernel_rfl) Try.func4 (by kernel_rfl)
    (of_decide_eq_true (by kernel_rfl)) (by unfold Func.isWrapper; first | (rw [if_pos (by decide +kernel)]; kernel_rfl) | (rw [if_neg (by decide +kernel)]; exact ⟨rfl, rfl⟩))
    (fun os started H enc _ => lifted os started H enc)

end Go.Proofs.Ytcloneccfbcclaa.LLimitCount

namespace Go.Proofs.Ytcloneccfbcclaa
theorem limitCount_holds : Rows.LimitCountSaid := LLimitCount.over
#print axioms limitCount_holds
end Go.Proofs.Ytcloneccfbcclaa
