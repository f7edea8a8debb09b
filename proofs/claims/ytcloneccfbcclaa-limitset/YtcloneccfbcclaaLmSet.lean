/- The statement LimitSet: a limit that is set anew forgets what came, and is the only one of its bed and kind. -/
import Derived.Test.YtcloneccfbcclaaLmOne
import Derived.Test.YtcloneccfbcclaaLmEq
import Derived.Deep.RegionHeld3
namespace Go.Proofs.Ytcloneccfbcclaa
open Go.ChangeShapes Go.WideShapes Go.ChangeAt Go.RowKit
open Bt

namespace LLimitSet

theorem t1_there {l m : Lm} (n : Nat) (hb : m.bed = l.bed) (hk : m.kind = l.kind) (h : mayL m = true) : setE [⟨l, n⟩] m = 0 ∧ setT [⟨l, n⟩] m = [⟨m, 0⟩] := by
  have hf : findK [⟨l, n⟩] m.bed m.kind = some ⟨l, n⟩ := by simp [findK, isK, hb, hk]
  obtain ⟨e1, e2⟩ := setT_there h hf
  exact ⟨e1, by rw [e2]; simp [isK, hb, hk]⟩

theorem tbeyB {F : Nat → Prop} {w0 w : World} {b : Nat} {L : List Kp} {n : Nat} (bed kind : Int) (ho : okO (bed, kind)) (h : One (TB b L n) F w0 w) :
    Calls Try.prog 13 #[.pointer (some ⟨b, 0, none⟩), .int .i64 bed, .int .i64 kind] w fun e w' => e = .returned (.int .i64 (beyK L bed kind : Int)) ∧ One (TB b L n) F w0 w' ∧ Below w.heap.size w w' := by
  have h0 := h
  obtain ⟨S, h1, _⟩ := h
  exact (lbey_any b bed kind ho S L n w h1).mono fun e w' ⟨he, hb⟩ => ⟨he, h0.below (tb_owned b L n) hb, hb⟩

theorem tonB {F : Nat → Prop} {w0 w : World} {b : Nat} {L : List Kp} {n : Nat} (bed kind : Int) (ho : okO (bed, kind)) (h : One (TB b L n) F w0 w) :
    Calls Try.prog 12 #[.pointer (some ⟨b, 0, none⟩), .int .i64 bed, .int .i64 kind] w fun e w' => e = .returned (.bool (onK L bed kind)) ∧ One (TB b L n) F w0 w' ∧ Below w.heap.size w w' := by
  have h0 := h
  obtain ⟨S, h1, _⟩ := h
  exact (lon_any b bed kind ho S L n w h1).mono fun e w' ⟨he, hb⟩ => ⟨he, h0.below (tb_owned b L n) hb, hb⟩

set_option maxRecDepth 100000 in
set_option maxHeartbeats 4000000 in
theorem walk (l m : Lm) (a : Option Addr) (len cap : Nat) (zs : List Int) (w : World) (_ : LmW l) (_ : LmW m) (hz : IsRow .i64 w a len cap zs) :
    Calls Try.prog 6 #[Lv l, Lv m, .slice a len cap] w fun e w' => e = .returned (.bool true) ∧ Below w.heap.size w w' := by
  have mixed : Try.prog.follows Departure.mixedOrders = true := by kernel_rfl
  have lmx : len ≤ 9223372036854775807 := by have := hz.le_cap; have := hz.cap_le; omega
  have HZ := Hid.intro (fun h0 => hz.ints h0)
  obtain ⟨x0, x1, x2, x3, x4⟩ := l
  obtain ⟨y0, y1, y2, y3, y4⟩ := m
  have B0 := (Below.refl w.heap.size w).alloc (Nat.le_refl _) (.cells #[.int .i64 x0, .int .i64 x1, .int .i64 x2, .int .i64 x3, .int .i64 x4] 30)
  have B00 := B0.alloc B0.size (.cells #[.int .i64 y0, .int .i64 y1, .int .i64 y2, .int .i64 y3, .int .i64 y4] 30)
  have LA0 : ((w.alloc (.cells #[.int .i64 x0, .int .i64 x1, .int .i64 x2, .int .i64 x3, .int .i64 x4] 30)).alloc (.cells #[.int .i64 y0, .int .i64 y1, .int .i64 y2, .int .i64 y3, .int .i64 y4] 30)).heap[w.heap.size]? = some (.cells #[.int .i64 x0, .int .i64 x1, .int .i64 x2, .int .i64 x3, .int .i64 x4] 30 (0, 0)) := (Below.heap_alloc _ _ _ (by simp)).trans (heap_alloc_new w _)
  have sz : (w.alloc (.cells #[.int .i64 x0, .int .i64 x1, .int .i64 x2, .int .i64 x3, .int .i64 x4] 30)).heap.size = w.heap.size + 1 := by simp
  have MA0 : ((w.alloc (.cells #[.int .i64 x0, .int .i64 x1, .int .i64 x2, .int .i64 x3, .int .i64 x4] 30)).alloc (.cells #[.int .i64 y0, .int .i64 y1, .int .i64 y2, .int .i64 y3, .int .i64 y4] 30)).heap[w.heap.size + 1]? = some (.cells #[.int .i64 y0, .int .i64 y1, .int .i64 y2, .int .i64 y3, .int .i64 y4] 30 (0, 0)) := by rw [← sz]; exact heap_alloc_new _ _
  have AL := Hid.intro (alive14_any ((w.alloc (.cells #[.int .i64 x0, .int .i64 x1, .int .i64 x2, .int .i64 x3, .int .i64 x4] 30)).alloc (.cells #[.int .i64 y0, .int .i64 y1, .int .i64 y2, .int .i64 y3, .int .i64 y4] 30)))
  have LAH := Hid.intro LA0
  have MAH := Hid.intro MA0
  have B0H := Hid.intro B00
  clear LA0 MA0 B0 B00 hz sz
  go_enter Try.func6, Try.ntmps6
  go_wp2_with fail
  refine AL.out.mono ?_
  rintro e w1 ⟨rfl, B1⟩
  have LB := (B1.block _ (lt_of_heap LAH.out)).trans LAH.out
  have MB := (B1.block _ (lt_of_heap MAH.out)).trans MAH.out
  have mbl : w.heap.size + 1 < w1.heap.size := lt_of_heap MB
  have LA := Hid.intro (limC (l := ⟨x0, x1, x2, x3, x4⟩) LB)
  have MA := Hid.intro MB
  have B2 := Hid.intro (B0H.out.trans (B1.mono B0H.out.size))
  clear AL B1 LAH B0H MAH LB MB
  go_wp2_with fail
  refine (lnew_any w1).mono ?_
  rintro e w2 ⟨b, T, rfl, hS, hF, BN⟩
  have O1 := one_new (P := TB b [] 0) hS hF BN
  obtain ⟨c0, c1, c2, c3, c4⟩ := LA.out.below BN
  simp only [Nat.zero_add] at c0 c1 c2 c3 c4
  by_cases hlen : 100 < len
  · have hl2 : (100 : Int) < (len : Int) := by omega
    have FI := Hid.intro (B2.out.trans ((O1.out (Nat.le_refl _)).mono B2.out.size))
    clear hS hF BN O1 c0 c1 c2 c3 c4
    go_wp2
    go_ret
    exact ⟨rfl, FI.out⟩
  have hl2 : ¬ (100 : Int) < (len : Int) := by omega
  cases hm : mayL ⟨x0, x1, x2, x3, x4⟩ with
  | false =>
    have P1 := tset ⟨x0, x1, x2, x3, x4⟩ O1
    rw [(t1_not hm).1] at P1
    have PH := Hid.intro P1
    clear hS hF BN O1 P1 hm
    go_wp2_with fail
    refine PH.out.mono ?_
    rintro e w3 ⟨rfl, l3⟩
    have FI := Hid.intro (B2.out.trans ((l3.out (Nat.le_refl _)).mono B2.out.size))
    clear l3 PH c0 c1 c2 c3 c4
    go_wp2
    go_ret
    exact ⟨rfl, FI.out⟩
  | true =>
  have P1 := tset ⟨x0, x1, x2, x3, x4⟩ O1
  rw [(t1_set hm).1, (t1_set hm).2] at P1
  have PH := Hid.intro P1
  have ho := okO_may hm
  clear hS hF BN O1 P1 hm
  go_wp2_with fail
  refine PH.out.mono ?_
  rintro e w3 ⟨rfl, l3⟩
  have L3 := Hid.intro l3
  clear l3 PH c0 c1 c2 c3 c4
  go_wp2_with fail
  go_loopw [8] (fun iv ws => ∃ t N : Nat, t ≤ len ∧ iv = .int .i64 t ∧ One (TB b [⟨⟨x0, x1, x2, x3, x4⟩, N⟩] t) (fun k => k < w1.heap.size) w1 ws) (fun iv _ => len - (intOf iv).toNat)
  case atStart => exact ⟨0, 0, by omega, rfl, L3.out⟩
  case round =>
    clear L3
    obtain ⟨t, N, ht, rfl, hL⟩ := hrel
    have LH := Hid.intro hL
    obtain ⟨c0, c1, c2, c3, c4⟩ := one_lm hL LA.out (show w.heap.size < w1.heap.size by omega)
    simp only [Nat.zero_add] at c0 c1 c2 c3 c4
    by_cases hlt : t < len
    · obtain ⟨vb, off, ea, _, hcell⟩ := HZ.out (by omega)
      subst ea
      have v0 := hcell t hlt
      have vbl : vb < w.heap.size := cell_lt v0
      have v1 : wr.cell? ⟨vb, off + t, none⟩ = some (.int .i64 (zs.getD t 0)) := hL.cell ((B2.out.cell (cell_lt v0)).trans v0) (show vb < w1.heap.size by omega)
      have t0 : (0 : Int) ≤ (t : Int) := by omega
      have t1 : (t : Int) < (len : Int) := by omega
      generalize zs.getD t 0 = z at *
      obtain ⟨K, hK⟩ : ∃ K, K = if outK ⟨x0, x1, x2, x3, x4⟩ z = true then N + 1 else 0 := ⟨_, rfl⟩
      have hlt2 : t < 200 := by omega
      have LQ2 := hL.below (tb_owned _ _ _) (w' := wr.drew) (Below.refl _ _).drew
      have SE := Hid.intro (t1_step (l := ⟨x0, x1, x2, x3, x4⟩) z ho LQ2 hK)
      clear hL hcell v0 LQ2 hK LH
      go_wp2_with fail
      go_still_tail 9, mixed
      go_wp2_with fail
      refine SE.out.mono ?_
      rintro e w4 ⟨rfl, l4⟩
      have L4 := Hid.intro l4
      clear l4 SE c0 c1 c2 c3 c4 v1
      go_wp2
      go_roundw
      case rel => exact ⟨t + 1, K, by omega, by go_num, L4.out⟩
      case measure => simp [intOf]; omega
    · obtain rfl : t = len := by omega
      have t1 : ¬ (t : Int) < (t : Int) := by omega
      have g0 := hL.block (k := w.heap.size + 1) (show w.heap.size + 1 < w1.heap.size from mbl)
      have m0 := g0.trans MA.out
      have q0 : wr.cell? ⟨w.heap.size + 1, 0, none⟩ = some (.int .i64 y0) := by rw [cell_of_row _ _ 0 _ _ _ m0]; rfl
      have q1 : wr.cell? ⟨w.heap.size + 1, 1, none⟩ = some (.int .i64 y1) := by rw [cell_of_row _ _ 1 _ _ _ m0]; rfl
      have qf : ∀ j, wr.frozen? ⟨w.heap.size + 1, j, none⟩ = false := fun j => frozen_of_row wr _ j _ _ m0
      have l1 := hL.write (tb_owned _ _ _) (p := ⟨w.heap.size + 1, 0, none⟩) mbl (.int .i64 x0)
      have l2 := l1.write (tb_owned _ _ _) (p := ⟨w.heap.size + 1, 1, none⟩) mbl (.int .i64 x1)
      have m1 : (wr.setCell ⟨w.heap.size + 1, 0, none⟩ (.int .i64 x0)).heap[w.heap.size + 1]? = some (.cells #[.int .i64 x0, .int .i64 y1, .int .i64 y2, .int .i64 y3, .int .i64 y4] 30 (0, 0)) := by rw [heap_setCell_same wr _ 0 _ _ _ m0]; rfl
      have m2 : ((wr.setCell ⟨w.heap.size + 1, 0, none⟩ (.int .i64 x0)).setCell ⟨w.heap.size + 1, 1, none⟩ (.int .i64 x1)).heap[w.heap.size + 1]? = some (.cells #[.int .i64 x0, .int .i64 x1, .int .i64 y2, .int .i64 y3, .int .i64 y4] 30 (0, 0)) := by rw [heap_setCell_same _ _ 1 _ _ _ m1]; rfl
      have nl : w.heap.size ≠ w.heap.size + 1 := by omega
      have LW : Hid (LmAt ((wr.setCell ⟨w.heap.size + 1, 0, none⟩ (.int .i64 x0)).setCell ⟨w.heap.size + 1, 1, none⟩ (.int .i64 x1)) w.heap.size 0 ⟨x0, x1, x2, x3, x4⟩) := by
        have cg : Chg (fun k => k = w.heap.size + 1) wr ((wr.setCell ⟨w.heap.size + 1, 0, none⟩ (.int .i64 x0)).setCell ⟨w.heap.size + 1, 1, none⟩ (.int .i64 x1)) := ((Chg.refl (fun k => k = w.heap.size + 1) wr).setCell (fun _ => rfl) _).setCell (fun _ => rfl) _
        exact (one_lm hL LA.out (show w.heap.size < w1.heap.size by omega)).chg cg nl
      have BWr := Hid.intro (show Below w.heap.size w ((wr.setCell ⟨w.heap.size + 1, 0, none⟩ (.int .i64 x0)).setCell ⟨w.heap.size + 1, 1, none⟩ (.int .i64 x1)) from (((B2.out.trans ((hL.out (Nat.le_refl _)).mono B2.out.size)).setCell (p := ⟨w.heap.size + 1, 0, none⟩) (by simp) _).setCell (p := ⟨w.heap.size + 1, 1, none⟩) (by simp) _))
      have f1 : (wr.setCell ⟨w.heap.size + 1, 0, none⟩ (.int .i64 x0)).cell? ⟨w.heap.size, 1, none⟩ = some (.int .i64 x1) := cell_chg (Chg.setCell (S := fun k => k = w.heap.size + 1) (Chg.refl _ wr) (fun _ => rfl) _) c1 nl
      have f2 : (wr.setCell ⟨w.heap.size + 1, 0, none⟩ (.int .i64 x0)).cell? ⟨w.heap.size + 1, 1, none⟩ = some (.int .i64 y1) := by rw [cell_of_row _ _ 1 _ _ _ m1]; rfl
      have f3 : (wr.setCell ⟨w.heap.size + 1, 0, none⟩ (.int .i64 x0)).frozen? ⟨w.heap.size + 1, 1, none⟩ = false := frozen_of_row _ _ 1 _ _ m1
      have qf0 := qf 0
      obtain ⟨n0, n1, n2, n3, n4⟩ := limC (l := ⟨x0, x1, y2, y3, y4⟩) m2
      simp only [Nat.zero_add] at n0 n1 n2 n3 n4
      have M2 := Hid.intro m2
      have L2 := Hid.intro l2
      have se := fun (l' : Lm) => setT_not (L := [⟨⟨x0, x1, x2, x3, x4⟩, N⟩]) (l := l')
      have TS2 := Hid.intro (tset ⟨x0, x1, y2, y3, y4⟩ l2)
      have HN := Hid.intro (fun h => setT_not (L := [⟨⟨x0, x1, x2, x3, x4⟩, N⟩]) (l := ⟨x0, x1, y2, y3, y4⟩) h)
      have HY := Hid.intro (fun h => t1_there (l := ⟨x0, x1, x2, x3, x4⟩) (m := ⟨x0, x1, y2, y3, y4⟩) N rfl rfl h)
      clear l1 l2 m1 m2 hL LH g0 m0 se qf
      have HMC : Hid (mayL ⟨x0, x1, y2, y3, y4⟩ = true → 1 ≤ y4) := fun h => (mayL_true h).2.2.2.2.2.2.2.1
      cases hm2 : mayL ⟨x0, x1, y2, y3, y4⟩ with
      | false =>
        have E := HN.out hm2
        rw [E.1, E.2] at TS2
        clear E HN HY hm2
        go_wp2_with fail
        refine TS2.out.mono ?_
        rintro e w5 ⟨rfl, l5⟩
        have LW5 := Hid.intro (LW.out.chg l5.chg (fun q => q (show w.heap.size < w1.heap.size by omega)))
        have B5 := Hid.intro (BWr.out.trans (l5.chg.below (B := w.heap.size) (Nat.le_trans BWr.out.size (Nat.le_refl _)) (fun k hk => by
          rcases Nat.lt_or_ge k w.heap.size with q | q
          · exact absurd (show k < w1.heap.size by omega) hk
          · exact q)))
        obtain ⟨c0, c1, c2, c3, c4⟩ := LW5.out
        simp only [Nat.zero_add] at c0 c1 c2 c3 c4
        have L5 := l5.below (tb_owned _ _ _) (w' := w5.drew) (Below.refl _ _).drew
        have P1 := Hid.intro (tlist L5)
        have LD5 := Hid.intro (show LmAt w5.drew w.heap.size 0 ⟨x0, x1, x2, x3, x4⟩ from LW5.out)
        have BD5 := Hid.intro B5.out.drew
        have eqq := lim_eq x0 x1 x2 x3 x4 x0 x1 x2 x3 x4
        simp only [beq_self_eq_true, Bool.and_self] at eqq
        have len1 : (listT [(⟨⟨x0, x1, x2, x3, x4⟩, N⟩ : Kp)]).length = 1 := rfl
        clear TS2 l5 L5 LW5 B5 n0 n1 n2 n3 n4 f1 f2 f3 qf0 q0 q1 M2 L2 LW BWr
        go_wp2_with fail
        go_region_with (first
            | (have _ := H6; go_at_call 15; refine P2.out.mono ?_; rintro e w7 ⟨v7, rfl, h7, l7, b7⟩; obtain ⟨a7, k7, hv7⟩ := h7.len; subst hv7; obtain ⟨pb, po, ea7, _, d0, d1, d2, d3, d4⟩ := h7.at (t := 0) (by simp [listT]); subst ea7; obtain ⟨i0, i1, i2, i3, i4⟩ := LD6.out.below b7; have B7 := Hid.intro (BD6.out.trans (b7.mono BD6.out.size)); simp only [Nat.zero_mul, Nat.zero_add, Nat.add_zero, listT, List.map_cons, List.map_nil, List.getElem_cons_zero] at d0 d1 d2 d3 d4 i0 i1 i2 i3 i4; clear h7 l7 b7)
            | (go_at_call 15; refine P1.out.mono ?_; rintro e w6 ⟨v6, rfl, h6, l6, b6⟩; obtain ⟨a6, k6, hv6⟩ := h6.len; subst hv6; obtain ⟨j0, j1, j2, j3, j4⟩ := LD5.out.below b6; simp only [Nat.zero_add] at j0 j1 j2 j3 j4; have LD6 := Hid.intro (LD5.out.below b6); have BD6 := Hid.intro (BD5.out.trans (b6.mono BD5.out.size)); have P2 := Hid.intro (tlist l6); have H6 := Hid.intro l6; clear h6 l6 b6)
            | fail)
        all_goals
          clear P1 P2 LD5 LD6 BD5 BD6 H6
          go_wp2
          go_ret
          exact ⟨rfl, B7.out⟩
      | true =>
        have E := HY.out hm2
        rw [E.1, E.2] at TS2
        have mc := Hid.intro (HMC.out hm2)
        clear E HN HY hm2 HMC
        go_wp2_with fail
        refine TS2.out.mono ?_
        rintro e w5 ⟨rfl, l5⟩
        have LW5 := LW.out.chg l5.chg (fun q => q (show w.heap.size < w1.heap.size by omega))
        have MW5 := (limC (l := ⟨x0, x1, y2, y3, y4⟩) M2.out).chg l5.chg (fun q => q (show w.heap.size + 1 < w1.heap.size by omega))
        have B5 := Hid.intro (BWr.out.trans (l5.chg.below (B := w.heap.size) (Nat.le_trans BWr.out.size (Nat.le_refl _)) (fun k hk => by
          rcases Nat.lt_or_ge k w.heap.size with q | q
          · exact absurd (show k < w1.heap.size by omega) hk
          · exact q)))
        have LW5H := Hid.intro LW5
        have MW5H := Hid.intro MW5
        have P1 := Hid.intro (tlist l5)
        clear TS2 l5 LW5 MW5 n0 n1 n2 n3 n4 f1 f2 f3 qf0 q0 q1 M2 L2 LW BWr c0 c1 c2 c3 c4
        go_wp2_with fail
        refine P1.out.mono ?_
        rintro e w6 ⟨v6, rfl, h6, l6, b6⟩
        obtain ⟨a6, k6, hv6⟩ := h6.len
        subst hv6
        obtain ⟨pb, po, ea6, _, d0, d1, d2, d3, d4⟩ := h6.at (t := 0) (by simp [listT])
        subst ea6
        obtain ⟨i0, i1, i2, i3, i4⟩ := LW5H.out.below b6
        obtain ⟨n0, n1, n2, n3, n4⟩ := MW5H.out.below b6
        simp only [Nat.zero_mul, Nat.zero_add, Nat.add_zero, listT, List.map_cons, List.map_nil, List.getElem_cons_zero] at d0 d1 d2 d3 d4 i0 i1 n0 n1 n2 n3 n4
        have B6 := Hid.intro (B5.out.trans (b6.mono B5.out.size)).drew
        have l6d := l6.below (tb_owned _ _ _) (w' := w6.drew) (Below.refl _ _).drew
        have BE := tbeyB x0 x1 ho l6d
        rw [t1_bey ⟨x0, x1, y2, y3, y4⟩] at BE
        have BEH := Hid.intro BE
        have len1 : (listT [(⟨⟨x0, x1, y2, y3, y4⟩, 0⟩ : Kp)]).length = 1 := rfl
        have eqq := lim_eq x0 x1 y2 y3 y4 x0 x1 y2 y3 y4
        simp only [beq_self_eq_true, Bool.and_self] at eqq
        clear P1 h6 l6 b6 B5 LW5H MW5H l6d BE i2 i3 i4
        go_wp2_with fail
        go_region_held3 (fun W => W.cell? ⟨w.heap.size + 1, 0, none⟩ = some (.int .i64 x0) ∧ W.cell? ⟨w.heap.size + 1, 1, none⟩ = some (.int .i64 x1) ∧ W.cell? ⟨w.heap.size + 1, 2, none⟩ = some (.int .i64 y2) ∧ W.cell? ⟨w.heap.size + 1, 3, none⟩ = some (.int .i64 y3) ∧ W.cell? ⟨w.heap.size + 1, 4, none⟩ = some (.int .i64 y4) ∧ W.cell? ⟨w.heap.size, 0, none⟩ = some (.int .i64 x0) ∧ W.cell? ⟨w.heap.size, 1, none⟩ = some (.int .i64 x1) ∧ W.cell? ⟨pb, po, none⟩ = some (.int .i64 x0) ∧ W.cell? ⟨pb, po + 1, none⟩ = some (.int .i64 x1) ∧ W.cell? ⟨pb, po + 2, none⟩ = some (.int .i64 y2) ∧ W.cell? ⟨pb, po + 3, none⟩ = some (.int .i64 y3) ∧ W.cell? ⟨pb, po + 4, none⟩ = some (.int .i64 y4))
          (first | exact KKw8.out | exact KKw7.out | go_keep)
          (first
            | (go_at_call 13; refine BEH.out.mono ?_; rintro e w7 ⟨rfl, l7, b7⟩; have KKw7 := Hid.intro (show w7.cell? ⟨w.heap.size + 1, 0, none⟩ = some (.int .i64 x0) ∧ w7.cell? ⟨w.heap.size + 1, 1, none⟩ = some (.int .i64 x1) ∧ w7.cell? ⟨w.heap.size + 1, 2, none⟩ = some (.int .i64 y2) ∧ w7.cell? ⟨w.heap.size + 1, 3, none⟩ = some (.int .i64 y3) ∧ w7.cell? ⟨w.heap.size + 1, 4, none⟩ = some (.int .i64 y4) ∧ w7.cell? ⟨w.heap.size, 0, none⟩ = some (.int .i64 x0) ∧ w7.cell? ⟨w.heap.size, 1, none⟩ = some (.int .i64 x1) ∧ w7.cell? ⟨pb, po, none⟩ = some (.int .i64 x0) ∧ w7.cell? ⟨pb, po + 1, none⟩ = some (.int .i64 x1) ∧ w7.cell? ⟨pb, po + 2, none⟩ = some (.int .i64 y2) ∧ w7.cell? ⟨pb, po + 3, none⟩ = some (.int .i64 y3) ∧ w7.cell? ⟨pb, po + 4, none⟩ = some (.int .i64 y4) from ⟨cell_chg (below_chg b7) n0 id, cell_chg (below_chg b7) n1 id, cell_chg (below_chg b7) n2 id, cell_chg (below_chg b7) n3 id, cell_chg (below_chg b7) n4 id, cell_chg (below_chg b7) i0 id, cell_chg (below_chg b7) i1 id, cell_chg (below_chg b7) d0 id, cell_chg (below_chg b7) d1 id, cell_chg (below_chg b7) d2 id, cell_chg (below_chg b7) d3 id, cell_chg (below_chg b7) d4 id⟩); have B7 := Hid.intro (B6.out.trans (b7.mono B6.out.size)); have OO := tonB x0 x1 ho l7; rw [t1_on ⟨x0, x1, y2, y3, y4⟩, decide_eq_false (show ¬ y4 ≤ ((0 : Nat) : Int) by have := mc.out; omega)] at OO; have OOH := Hid.intro OO; clear OO l7 b7)
            | (go_at_call 12; refine OOH.out.mono ?_; rintro e w8 ⟨rfl, l8, b8⟩; have KKw8 := Hid.intro (show w8.cell? ⟨w.heap.size + 1, 0, none⟩ = some (.int .i64 x0) ∧ w8.cell? ⟨w.heap.size + 1, 1, none⟩ = some (.int .i64 x1) ∧ w8.cell? ⟨w.heap.size + 1, 2, none⟩ = some (.int .i64 y2) ∧ w8.cell? ⟨w.heap.size + 1, 3, none⟩ = some (.int .i64 y3) ∧ w8.cell? ⟨w.heap.size + 1, 4, none⟩ = some (.int .i64 y4) ∧ w8.cell? ⟨w.heap.size, 0, none⟩ = some (.int .i64 x0) ∧ w8.cell? ⟨w.heap.size, 1, none⟩ = some (.int .i64 x1) ∧ w8.cell? ⟨pb, po, none⟩ = some (.int .i64 x0) ∧ w8.cell? ⟨pb, po + 1, none⟩ = some (.int .i64 x1) ∧ w8.cell? ⟨pb, po + 2, none⟩ = some (.int .i64 y2) ∧ w8.cell? ⟨pb, po + 3, none⟩ = some (.int .i64 y3) ∧ w8.cell? ⟨pb, po + 4, none⟩ = some (.int .i64 y4) from by obtain ⟨g0, g1, g2, g3, g4, g5, g6, g7, g8, g9, ga, gb⟩ := KKw7.out; exact ⟨cell_chg (below_chg b8) g0 id, cell_chg (below_chg b8) g1 id, cell_chg (below_chg b8) g2 id, cell_chg (below_chg b8) g3 id, cell_chg (below_chg b8) g4 id, cell_chg (below_chg b8) g5 id, cell_chg (below_chg b8) g6 id, cell_chg (below_chg b8) g7 id, cell_chg (below_chg b8) g8 id, cell_chg (below_chg b8) g9 id, cell_chg (below_chg b8) ga id, cell_chg (below_chg b8) gb id⟩); have B8 := Hid.intro (B7.out.trans (b8.mono B7.out.size)); clear l8 b8)
            | fail)
        all_goals
          clear BEH KKw7 KKw8 OOH
          go_wp2
          go_ret
          exact ⟨rfl, B8.out⟩

set_option maxRecDepth 100000 in
theorem lifted (os : Os) (started : os.Started) (H : Type) (enc : TypeId × Value → H) :
    ReturnsInHanded {} Try.checked os 6 .any (Rows.limitSetSpec.pre6 enc Try.prog Try.f6 Rows.limitSetRow.domain false) (Rows.limitSetSpec.post enc Try.prog Try.f6 false true false false) := by
  refine returnsInHanded_of_change (C := Try.checked) own started (by kernel_rfl) Try.func6
    (ChangeSpec.witness6 (enc := enc) (C := Try.checked) false ⟨#[], #[.agg #[.int .i64 0, .int .i64 0, .int .i64 0, .int .i64 0, .int .i64 0], .agg #[.int .i64 0, .int .i64 0, .int .i64 0, .int .i64 0, .int .i64 0], .slice none 0 0], []⟩ 8 (by kernel_rfl) (by kernel_rfl) (by kernel_rfl) (by kernel_rfl)) ?_
  intro W base args ds gs before hval0 hW hcnd _
  have hval : ∀ (j : Nat) t v, Try.f6.params[j]? = some t → args[j]? = some v → Value.okWide Try.prog W .any base t v := hval0
  have hW' := hW
  obtain ⟨p, q, hA0, hV, rfl, hfz, hnd⟩ := hW
  have hA : DataW.TrodAll enc Try.prog W 0 (fun _ => true) true Try.f6.params.toList args.toList ds p := hA0
  rw [Try.params6] at hA hval
  obtain ⟨v0, vs0, d0, ds0, p0, q0, hargs, rfl, rfl, h0, r0⟩ := trodAll_cons hA
  obtain ⟨v1, vs1, d1, ds1, p1, q1, rfl, rfl, rfl, h1, r1⟩ := trodAll_cons r0
  obtain ⟨v2, vs2, d2, ds2, p2, q2, rfl, rfl, rfl, h2, r2⟩ := trodAll_cons r1
  obtain ⟨rfl, rfl, rfl⟩ := trodAll_nil r2
  obtain rfl : args = #[v0, v1, v2] := by cases args; simp_all
  obtain ⟨rfl, rfl⟩ := trodVars_none hV
  have k0 := h0
  have lt0 : ∀ x ∈ p0, x.block < W.heap.size := by obtain ⟨m, hm⟩ := k0; exact DataW.trod_lt m _ _ _ hm
  obtain ⟨lm0, rfl, w0⟩ := open_limit (hval 0 30 v0 rfl rfl) h0
  have k1 := h1
  have lt1 : ∀ x ∈ p1, x.block < W.heap.size := by obtain ⟨m, hm⟩ := k1; exact DataW.trod_lt m _ _ _ hm
  obtain ⟨lm1, rfl, w1⟩ := open_limit (hval 1 30 v1 rfl rfl) h1
  obtain ⟨a2, len2, cap2, rfl⟩ := okWide_slice Try.underlying46 (hval 2 46 v2 rfl rfl)
  have k2 := h2
  have lt2 : ∀ x ∈ p2, x.block < W.heap.size := by obtain ⟨m, hm⟩ := k2; exact DataW.trod_lt m _ _ _ hm
  obtain ⟨z2, w2⟩ : ∃ zs, IsRow .i64 W a2 len2 cap2 zs := by
    obtain ⟨fuel, hf⟩ := h2
    rcases open_ints Try.underlying46 Try.underlying3 (by kernel_rfl) hf with ⟨hcs, _⟩ | ⟨x, l, c, zs, hcs, _, hl, hm, hz, _, hcell, hwz⟩
    · simp [Value.cells] at hcs
      obtain ⟨rfl, rfl, rfl⟩ := hcs
      exact ⟨[], .inl ⟨rfl, rfl, rfl, rfl⟩⟩
    · simp [Value.cells] at hcs
      obtain ⟨rfl, rfl, rfl⟩ := hcs
      exact ⟨zs, .inr ⟨_, rfl, hl, hm, by simpa using hz, hcell, hwz⟩⟩
  clear hA0 hval0
  refine (walk lm0 lm1 a2 len2 cap2 z2 W w0 w1 w2).mono fun e W' ⟨he, bel⟩ => ?_
  subst he
  exact ⟨_, rfl, _, _, _, [], _, [], hW', trodAll_mk1 (shut_bool Try.underlying4 _), (trodAll_cons_mk (Below.trod laidOut (by kernel_rfl) (of_decide_eq_true (by kernel_rfl)) k0 bel lt0) (trodAll_cons_mk (Below.trod laidOut (by kernel_rfl) (of_decide_eq_true (by kernel_rfl)) k1 bel lt1) (trodAll_cons_mk (Below.trod laidOut (by kernel_rfl) (of_decide_eq_true (by kernel_rfl)) k2 bel lt2) trodAll_mk0))), rfl, bel.frame _, fun h => by cases h⟩

theorem over : Rows.limitSetRow.holds Try.pinned (OpenSpec.ofChange Rows.limitSetSpec) :=
  OpenClaim.holds_of_wide 6 Try.f6 rfl rfl rfl rfl rfl rfl rfl ⟨rfl, rfl, rfl, rfl, rfl⟩ rfl rfl rfl rfl rfl (by kernel_rfl) Try.func6 (by kernel_rfl)
    (of_decide_eq_true (by kernel_rfl)) (by unfold Func.isWrapper; first | (rw [if_pos (by decide +kernel)]; kernel_rfl) | (rw [if_neg (by decide +kernel)]; exact ⟨rfl, rfl⟩))
    (fun os started H enc _ => lifted os started H enc)

end Go.Proofs.Ytcloneccfbcclaa.LLimitSet

namespace Go.Proofs.Ytcloneccfbcclaa
theorem limitSet_holds : Rows.LimitSetSaid := LLimitSet.over
#print axioms limitSet_holds
end Go.Proofs.Ytcloneccfbcclaa
