/- The statement DeviceAnew: a device that begins anew is as a new one, but for its session and its time. -/
import Derived.Test.YthhggjakenalpaaGreatDoorDvTwo
import Derived.Test.YthhggjakenalpaaGreatDoorDvFew
import Derived.Deep.RegionHeld3
namespace Go.Proofs.YthhggjakenalpaaGreatDoor
set_option maxRecDepth 100000
open Go.ChangeShapes Go.WideShapes Go.ChangeAt Go.RowKit Go.Joins
open Bt

namespace LDeviceAnew

open Classical in
set_option maxRecDepth 100000 in
theorem walk_nil (tx k n s wt ms : Int) (ao : Option Addr) (cap : Nat) (l : List Act18) (w : World) (hW : Wd w) (h : mayD tx k n s wt ms = false) (hr : ActsAt18 w ao l) :
    Calls Tryz.prog 8 #[.int .i64 tx, Lk k n s wt ms, .slice ao l.length cap] w fun e w' => e = .returned (.bool true) ∧ Below w.heap.size w w' := by
  have NO := Hid.intro (fun w hw => dnew_no tx k n s wt ms h w hw)
  have B0 := Hid.intro ((Below.refl _ w).alloc (Nat.le_refl _) (.cells #[.int .i64 k, .int .i64 n, .int .i64 s, .int .i64 wt, .int .i64 ms] 25))
  have b0 := Hid.intro (heap_alloc_new w (.cells #[.int .i64 k, .int .i64 n, .int .i64 s, .int .i64 wt, .int .i64 ms] 25))
  have W0 := Hid.intro (hW.below B0.out)
  have FW := Hid.intro (fun (W : World) (hB : Below w.heap.size w W) => few18_any ao cap l W (acts_below hr hB))
  generalize l.length = ln at *
  generalize decide (fewB18 l) = fb at FW
  clear h hW hr
  go_enter Tryz.func8, Tryz.ntmps8
  go_wp2_with fail
  refine (alive_any _ W0.out).mono ?_
  rintro e w1 ⟨rfl, B1⟩
  have W1 := Hid.intro (W0.out.below B1)
  have b1 := (B1.block _ (lt_of_heap b0.out)).trans b0.out
  have B1H := Hid.intro (B0.out.trans (B1.mono B0.out.size))
  obtain ⟨c0, c1, c2, c3, c4⟩ := lk_cells b1
  clear b1 B1 B0 W0 b0
  have KQ := Hid.intro (fun (W : World) (hW : Below w1.heap.size w1 W) => (show W.cell? ⟨w.heap.size, 0, none⟩ = some (.int .i64 k) ∧ W.cell? ⟨w.heap.size, 1, none⟩ = some (.int .i64 n) ∧ W.cell? ⟨w.heap.size, 2, none⟩ = some (.int .i64 s) ∧ W.cell? ⟨w.heap.size, 3, none⟩ = some (.int .i64 wt) ∧ W.cell? ⟨w.heap.size, 4, none⟩ = some (.int .i64 ms) from ⟨cellD hW c0, cellD hW c1, cellD hW c2, cellD hW c3, cellD hW c4⟩))
  go_wp2_with fail
  go_region_held3 (fun W => W.cell? ⟨w.heap.size, 0, none⟩ = some (.int .i64 k) ∧ W.cell? ⟨w.heap.size, 1, none⟩ = some (.int .i64 n) ∧ W.cell? ⟨w.heap.size, 2, none⟩ = some (.int .i64 s) ∧ W.cell? ⟨w.heap.size, 3, none⟩ = some (.int .i64 wt) ∧ W.cell? ⟨w.heap.size, 4, none⟩ = some (.int .i64 ms))
    (first | exact QR.out | exact QQ.out | go_keep)
    ((first
      | (go_at_call 11; have _ := B5; refine (NO.out _ (W1.out.below B5)).mono ?_; rintro e w3 ⟨rfl, B6⟩; have B7 : Below w1.heap.size w1 w3 := B5.trans (B6.mono B5.size); have QR := Hid.intro (KQ.out w3 B7); have BZ := Hid.intro (B1H.out.trans (B7.mono B1H.out.size)); clear B6 B7)
      | (go_at_call 11; refine (NO.out _ (W1.out.below (Below.refl _ w1).drew)).mono ?_; rintro e w2 ⟨rfl, B4⟩; have B5 : Below w1.heap.size w1 w2 := ⟨B4.os, B4.tape, B4.output, B4.size, B4.block⟩; have QQ := Hid.intro (KQ.out w2 B5); clear B4)))
  all_goals
    clear c0 c1 c2 c3 c4
    go_wp2_with fail
    refine (FW.out w3 BZ.out).mono ?_
    rintro e w4 ⟨rfl, B8⟩
    have BY := Hid.intro (BZ.out.trans (B8.mono BZ.out.size))
    clear B8 BZ FW
    cases fb
    all_goals
      go_wp2
      go_ret
      exact ⟨rfl, BY.out⟩

open Classical in
set_option maxRecDepth 100000 in
theorem walk_far (tx K N S wt ms : Nat) (ao : Option Addr) (cap : Nat) (l : List Act18) (hl : ¬ fewB18 l) (w : World) (hW : Wd w) (h : mayD tx K N S wt ms = true) (hr : ActsAt18 w ao l) :
    Calls Tryz.prog 8 #[.int .i64 (tx : Int), Lk K N S wt ms, .slice ao l.length cap] w fun e w' => e = .returned (.bool true) ∧ Below w.heap.size w w' := by
  have NO := Hid.intro (fun w hw => dnew_yes tx K N S wt ms h w hw)
  have B0 := Hid.intro ((Below.refl _ w).alloc (Nat.le_refl _) (.cells #[.int .i64 (K : Int), .int .i64 (N : Int), .int .i64 (S : Int), .int .i64 (wt : Int), .int .i64 (ms : Int)] 25))
  have b0 := Hid.intro (heap_alloc_new w (.cells #[.int .i64 (K : Int), .int .i64 (N : Int), .int .i64 (S : Int), .int .i64 (wt : Int), .int .i64 (ms : Int)] 25))
  have W0 := Hid.intro (hW.below B0.out)
  have FW := Hid.intro (fun (W : World) (hB : Below w.heap.size w W) => few18_any ao cap l W (acts_below hr hB))
  rw [decide_eq_false hl] at FW
  generalize l.length = ln at *
  clear h hW hr hl
  go_enter Tryz.func8, Tryz.ntmps8
  go_wp2_with fail
  refine (alive_any _ W0.out).mono ?_
  rintro e w1 ⟨rfl, B1⟩
  have W1 := Hid.intro (W0.out.below B1)
  have b1 := (B1.block _ (lt_of_heap b0.out)).trans b0.out
  have B1H := Hid.intro (B0.out.trans (B1.mono B0.out.size))
  obtain ⟨c0, c1, c2, c3, c4⟩ := lk_cells b1
  clear b1 B1 B0 W0 b0
  have KQ := Hid.intro (fun (W : World) (hW : Below w1.heap.size w1 W) => (show W.cell? ⟨w.heap.size, 0, none⟩ = some (.int .i64 (K : Int)) ∧ W.cell? ⟨w.heap.size, 1, none⟩ = some (.int .i64 (N : Int)) ∧ W.cell? ⟨w.heap.size, 2, none⟩ = some (.int .i64 (S : Int)) ∧ W.cell? ⟨w.heap.size, 3, none⟩ = some (.int .i64 (wt : Int)) ∧ W.cell? ⟨w.heap.size, 4, none⟩ = some (.int .i64 (ms : Int)) from ⟨cellD hW c0, cellD hW c1, cellD hW c2, cellD hW c3, cellD hW c4⟩))
  go_wp2_with fail
  go_region_held3 (fun W => W.cell? ⟨w.heap.size, 0, none⟩ = some (.int .i64 (K : Int)) ∧ W.cell? ⟨w.heap.size, 1, none⟩ = some (.int .i64 (N : Int)) ∧ W.cell? ⟨w.heap.size, 2, none⟩ = some (.int .i64 (S : Int)) ∧ W.cell? ⟨w.heap.size, 3, none⟩ = some (.int .i64 (wt : Int)) ∧ W.cell? ⟨w.heap.size, 4, none⟩ = some (.int .i64 (ms : Int)))
    (first | exact QR.out | exact QQ.out | go_keep)
    ((first
      | (go_at_call 11; have _ := B5; refine (NO.out _ (W1.out.below B5)).mono ?_; rintro e w3 ⟨b', F', rfl, hS', hF', B6⟩; have B7 : Below w1.heap.size w1 w3 := B5.trans (B6.mono B5.size); have QR := Hid.intro (KQ.out w3 B7); have BZ := Hid.intro (B1H.out.trans (B7.mono B1H.out.size)); have B7H := Hid.intro B7; have TT := Hid.intro (two_new (B := w1.heap.size) (R := fun k => k < w1.heap.size) (dvO 0 b (dev0 tx K N S wt ms)) HS.out HF.out hS' hF' B5 B6 (Nat.le_refl _) (fun _ => id)); clear B6 B7 hS' hF')
      | (go_at_call 11; refine (NO.out _ (W1.out.below (Below.refl _ w1).drew)).mono ?_; rintro e w2 ⟨b, F, rfl, hS, hF, B4⟩; have B5 : Below w1.heap.size w1 w2 := ⟨B4.os, B4.tape, B4.output, B4.size, B4.block⟩; have QQ := Hid.intro (KQ.out w2 B5); have HS := Hid.intro hS; have HF : Hid (∀ k, F k → w1.heap.size ≤ k) := Hid.intro hF; clear B4 hS hF)))
  all_goals
    clear c0 c1 c2 c3 c4 TT HS HF
    go_wp2_with fail
    refine (FW.out w3 BZ.out).mono ?_
    rintro e w4 ⟨rfl, B8⟩
    have BY := Hid.intro (BZ.out.trans (B8.mono BZ.out.size))
    clear B8 BZ FW
    go_wp2
    go_ret
    exact ⟨rfl, BY.out⟩

open Classical in
set_option maxRecDepth 100000 in
set_option maxHeartbeats 4000000 in
theorem walk_near (tx K N S wt ms : Nat) (ao : Option Addr) (cap : Nat) (l : List Act18) (hl : fewB18 l) (w : World) (hW : Wd w) (h : mayD tx K N S wt ms = true) (hr : ActsAt18 w ao l) :
    Calls Tryz.prog 8 #[.int .i64 (tx : Int), Lk K N S wt ms, .slice ao l.length cap] w fun e w' => e = .returned (.bool true) ∧ Below w.heap.size w w' := by
  have NO := Hid.intro (fun w hw => dnew_yes tx K N S wt ms h w hw)
  have B0 := Hid.intro ((Below.refl _ w).alloc (Nat.le_refl _) (.cells #[.int .i64 (K : Int), .int .i64 (N : Int), .int .i64 (S : Int), .int .i64 (wt : Int), .int .i64 (ms : Int)] 25))
  have b0 := Hid.intro (heap_alloc_new w (.cells #[.int .i64 (K : Int), .int .i64 (N : Int), .int .i64 (S : Int), .int .i64 (wt : Int), .int .i64 (ms : Int)] 25))
  have W0 := Hid.intro (hW.below B0.out)
  have FW := Hid.intro (fun (W : World) (hB : Below w.heap.size w W) => few18_any ao cap l W (acts_below hr hB))
  rw [decide_eq_true hl] at FW
  have RR := Hid.intro hr
  have z2 := hW.two
  have hl80 := hl.1
  obtain ⟨n, hn⟩ : ∃ n, n = l.length := ⟨_, rfl⟩
  rw [← hn] at FW hl80 ⊢
  have HN := Hid.intro hn
  clear h hW hr hl hn
  go_enter Tryz.func8, Tryz.ntmps8
  go_wp2_with fail
  refine (alive_any _ W0.out).mono ?_
  rintro e w1 ⟨rfl, B1⟩
  have W1 := Hid.intro (W0.out.below B1)
  have b1 := (B1.block _ (lt_of_heap b0.out)).trans b0.out
  have B1H := Hid.intro (B0.out.trans (B1.mono B0.out.size))
  obtain ⟨c0, c1, c2, c3, c4⟩ := lk_cells b1
  clear b1 B1 B0 W0 b0
  have KQ := Hid.intro (fun (W : World) (hW : Below w1.heap.size w1 W) => (show W.cell? ⟨w.heap.size, 0, none⟩ = some (.int .i64 (K : Int)) ∧ W.cell? ⟨w.heap.size, 1, none⟩ = some (.int .i64 (N : Int)) ∧ W.cell? ⟨w.heap.size, 2, none⟩ = some (.int .i64 (S : Int)) ∧ W.cell? ⟨w.heap.size, 3, none⟩ = some (.int .i64 (wt : Int)) ∧ W.cell? ⟨w.heap.size, 4, none⟩ = some (.int .i64 (ms : Int)) from ⟨cellD hW c0, cellD hW c1, cellD hW c2, cellD hW c3, cellD hW c4⟩))
  go_wp2_with fail
  go_region_held3 (fun W => W.cell? ⟨w.heap.size, 0, none⟩ = some (.int .i64 (K : Int)) ∧ W.cell? ⟨w.heap.size, 1, none⟩ = some (.int .i64 (N : Int)) ∧ W.cell? ⟨w.heap.size, 2, none⟩ = some (.int .i64 (S : Int)) ∧ W.cell? ⟨w.heap.size, 3, none⟩ = some (.int .i64 (wt : Int)) ∧ W.cell? ⟨w.heap.size, 4, none⟩ = some (.int .i64 (ms : Int)))
    (first | exact QR.out | exact QQ.out | go_keep)
    ((first
      | (go_at_call 11; have _ := B5; refine (NO.out _ (W1.out.below B5)).mono ?_; rintro e w3 ⟨b', F', rfl, hS', hF', B6⟩; have B7 : Below w1.heap.size w1 w3 := B5.trans (B6.mono B5.size); have QR := Hid.intro (KQ.out w3 B7); have BZ := Hid.intro (B1H.out.trans (B7.mono B1H.out.size)); have B7H := Hid.intro B7; have TT := Hid.intro (two_new (B := w1.heap.size) (R := fun k => k < w1.heap.size) (dvO 0 b (dev0 tx K N S wt ms)) HS.out HF.out hS' hF' B5 B6 (Nat.le_refl _) (fun _ => id)); clear B6 B7 hS' hF')
      | (go_at_call 11; refine (NO.out _ (W1.out.below (Below.refl _ w1).drew)).mono ?_; rintro e w2 ⟨b, F, rfl, hS, hF, B4⟩; have B5 : Below w1.heap.size w1 w2 := ⟨B4.os, B4.tape, B4.output, B4.size, B4.block⟩; have QQ := Hid.intro (KQ.out w2 B5); have HS := Hid.intro hS; have HF : Hid (∀ k, F k → w1.heap.size ≤ k) := Hid.intro hF; clear B4 hS hF)))
  all_goals
    have zz : 2 ≤ w1.heap.size := by have := B1H.out.size; omega
    clear c0 c1 c2 c3 c4 HS HF NO KQ QQ QR B5
    go_wp2_with fail
    refine (FW.out w3 BZ.out).mono ?_
    rintro e w4 ⟨rfl, B8⟩
    have T4 := Hid.intro (Two.below (dvO _ _ _) (dvO _ _ _) TT.out B8)
    have B4 := Hid.intro (B7H.out.trans (B8.mono B7H.out.size))
    clear B8 BZ FW TT B7H
    go_wp2_with fail
    go_loopw [9] (fun i wr => ∃ (t : Nat) (x y : Dev), t ≤ n ∧ i = .int .i64 t ∧ anewD x = anewD y ∧ x.session = 0 ∧ TD t b x t b' y (fun k => k < w1.heap.size) w1.heap.size wr ∧ Below w1.heap.size w1 wr) (fun i _ => n - (intOf i).toNat)
    case atStart => exact ⟨0, _, _, by omega, rfl, rfl, rfl, T4.out, B4.out⟩
    case round =>
      clear T4 B4
      obtain ⟨t, x, y, htn, rfl, hxy, hx0, TX, BX⟩ := hrel
      have hR : ∀ k, k < w1.heap.size → k < wr.heap.size := fun k hk => Nat.lt_of_lt_of_le hk BX.size
      have hBB := BX.size
      by_cases hlt : t < n
      · have hlf : t < l.length := by have := HN.out; omega
        obtain ⟨pb, off, rfl, hq⟩ := RR.out (by omega)
        obtain ⟨v, x0, x1, x2, x3, x4, x5⟩ := hq t hlf
        generalize l[t] = A at *
        obtain ⟨kd, sm, bs⟩ := A
        dsimp only at x0 x1 x2 x3 x5
        have k0 := cellD BX (cellD B1H.out x0)
        have k1 := cellD BX (cellD B1H.out x1)
        have k2 := cellD BX (cellD B1H.out x2)
        have k3 := cellD BX (cellD B1H.out x3)
        have i0 : (0 : Int) ≤ (t : Int) := by omega
        have i1 : (t : Int) < (n : Int) := by omega
        have BXH := Hid.intro BX
        have HXY := Hid.intro hxy
        have HX0 := Hid.intro hx0
        clear hq x0 x1 x2 x3 x4 x5 hxy hx0
        by_cases e0 : kd = 0
        · subst e0
          have TK := Hid.intro (td_take sm TX hR hBB)
          clear TX BX
          go_wp2_with fail
          refine TK.out.mono ?_
          rintro e w5 ⟨rfl, T5, C5⟩
          have T5H := Hid.intro T5
          have B5 := Hid.intro (BXH.out.trans (chg_out C5 hBB (Nat.le_refl _)))
          clear T5 C5 TK k0 k1 k2 k3
          go_wp2_with fail
          go_roundw
          case rel => exact ⟨t + 1, _, _, by omega, by go_num, (anew_take x sm).trans HXY.out, (take_same x sm).1.trans HX0.out, Two.imp T5H.out (fun _ h => h.more (by omega)) (fun _ h => h.more (by omega)), B5.out⟩
          case measure => simp [intOf]; omega
        · have e0' : (kd == 0) = false := by rw [beq_eq_false_iff_ne]; exact e0
          by_cases e1 : kd = 1
          · subst e1
            have TI := Hid.intro (td_tick TX hR hBB zz (W1.out.below BX) (by omega))
            clear TX BX e0 e0'
            go_wp2_with fail
            refine TI.out.mono ?_
            rintro e w5 ⟨v5, R5, rfl, r1, r2, RV, T5, C5⟩
            have B5 := chg_out C5 hBB (Nat.le_refl w1.heap.size)
            have B5X := BXH.out.trans B5
            have T5' := T5.less r1
            have TJ := Hid.intro (td_tick2 T5' (fun k hk => Nat.lt_of_lt_of_le hk B5X.size) B5X.size zz (W1.out.below B5X) (by omega))
            have B5H := Hid.intro B5X
            obtain ⟨oa, oc, e5⟩ := RV.len
            subst e5
            clear RV T5 C5 T5' TI r1 r2 B5 B5X k0 k1 k2 k3
            go_wp2_with fail
            refine TJ.out.mono ?_
            rintro e w6 ⟨v6, R6, rfl, r1, r2, RV, T6, C6⟩
            have T6H := Hid.intro (T6.less r1)
            have B6 := Hid.intro (B5H.out.trans (chg_out C6 B5H.out.size (Nat.le_refl w1.heap.size)))
            obtain ⟨oa6, oc6, e6⟩ := RV.len
            subst e6
            clear RV T6 C6 r1 r2 TJ
            go_wp2_with fail
            go_roundw
            case rel => exact ⟨t + 1, _, _, by omega, by go_num, by rw [anew_tick, anew_tick, HXY.out], (tick_same x).1.trans HX0.out, T6H.out, B6.out⟩
            case measure => simp [intOf]; omega
          · have e1' : (kd == 1) = false := by rw [beq_eq_false_iff_ne]; exact e1
            have TXH := Hid.intro TX
            clear TX BX
            go_wp2_with fail
            go_roundw
            case rel => exact ⟨t + 1, _, _, by omega, by go_num, HXY.out, HX0.out, Two.imp TXH.out (fun _ h => h.more (by omega)) (fun _ h => h.more (by omega)), BXH.out⟩
            case measure => simp [intOf]; omega
      · obtain rfl : t = n := by omega
        have i1 : ¬ (t : Int) < (t : Int) := by omega
        have RS := Hid.intro (td_reset TX hR hBB zz (W1.out.below BX))
        have BXH := Hid.intro BX
        have HXY := Hid.intro hxy
        have SE := Hid.intro (show (anewD x).session = 1 by show (x.session + 1) % 256 = 1; rw [hx0])
        have LO := Hid.intro (show (anewD x).snd.lost = 0 from rfl)
        clear TX BX hxy hx0
        go_wp2_with fail
        refine RS.out.mono ?_
        rintro e w5 ⟨rfl, T5, C5⟩
        have B5X := BXH.out.trans (chg_out C5 hBB (Nat.le_refl w1.heap.size))
        have RT := Hid.intro (td_reset2 T5 (fun k hk => Nat.lt_of_lt_of_le hk B5X.size) B5X.size zz (W1.out.below B5X))
        have B5H := Hid.intro B5X
        clear T5 C5 B5X RS
        go_wp2_with fail
        refine RT.out.mono ?_
        rintro e w6 ⟨rfl, T6, C6⟩
        have B6 := Hid.intro (B5H.out.trans (chg_out C6 B5H.out.size (Nat.le_refl w1.heap.size)))
        rw [← HXY.out] at T6
        generalize anewD x = z0 at T6 SE LO
        have T6H := Hid.intro (Two.imp (P' := DvS 80 b z0) (Q' := DvS 80 b' z0) T6 (fun _ h => h.more (by omega)) (fun _ h => h.more (by omega)))
        clear T6 C6 RT B5H
        go_wp2_with fail
        go_loopw [10] (fun i wr => ∃ (j : Nat) (z : Dev), j ≤ 4 ∧ i = .int .i64 j ∧ z.session = 1 ∧ z.snd.lost = 0 ∧ TD (80 + j) b z (80 + j) b' z (fun k => k < w1.heap.size) w1.heap.size wr ∧ Below w1.heap.size w1 wr) (fun i _ => 4 - (intOf i).toNat)
        case atStart => exact ⟨0, z0, by omega, rfl, SE.out, LO.out, T6H.out, B6.out⟩
        case round =>
          clear T6H B6 SE LO
          obtain ⟨j, z, hj4, rfl, hz1, hz2, TZ, BZ⟩ := hrel
          have hBZ := BZ.size
          by_cases hj : j < 4
          · have j1 : (j : Int) < 4 := by omega
            have BA := (Below.refl _ wr).alloc (Nat.le_refl _) (.cells #[.int .i64 1, .int .i64 (j : Int), .int .i64 (j : Int)] 35)
            have ba := heap_alloc_new wr (.cells #[.int .i64 1, .int .i64 (j : Int), .int .i64 (j : Int)] 35)
            have sa := World.size_alloc wr (.cells #[.int .i64 1, .int .i64 (j : Int), .int .i64 (j : Int)] 35)
            have TA := (Two.grow (dvO _ _ _) (dvO _ _ _) TZ BA).less (G := fun k => k < w1.heap.size ∨ k = wr.heap.size) (fun k hk => by
              rcases hk with q | q
              · exact .inl q
              · subst q; exact .inr (Nat.le_refl _))
            generalize hWA : wr.alloc (.cells #[.int .i64 1, .int .i64 (j : Int), .int .i64 (j : Int)] 35) = WA at BA ba sa TA
            have rA : ∀ k, (k < w1.heap.size ∨ k = wr.heap.size) → k < WA.heap.size := fun k hk => by
              rcases hk with q | q
              · have := BZ.size; omega
              · omega
            have BWA := BZ.trans (BA.mono BZ.size)
            have TK := Hid.intro (td_take ⟨1, j, j⟩ TA rA BWA.size)
            have RA := Hid.intro rA
            have BWH := Hid.intro BWA
            have BAH := Hid.intro ba
            have HZ1 := Hid.intro hz1
            have HZ2 := Hid.intro hz2
            have q0 : WA.cell? ⟨wr.heap.size, 0, none⟩ = some (.int .i64 1) := by rw [cell_of_row _ _ 0 _ _ _ ba]; rfl
            have q1 : WA.cell? ⟨wr.heap.size, 1, none⟩ = some (.int .i64 (j : Int)) := by rw [cell_of_row _ _ 1 _ _ _ ba]; rfl
            have q2 : WA.cell? ⟨wr.heap.size, 2, none⟩ = some (.int .i64 (j : Int)) := by rw [cell_of_row _ _ 2 _ _ _ ba]; rfl
            clear BA ba TA rA BWA TZ BZ hz1 hz2
            go_wp2_with fail
            clear hWA
            refine TK.out.mono ?_
            rintro e w7 ⟨rfl, T7, C7⟩
            have d0 := cell_chg C7 q0 (fun q => q.2 (.inr rfl))
            have d1 := cell_chg C7 q1 (fun q => q.2 (.inr rfl))
            have d2 := cell_chg C7 q2 (fun q => q.2 (.inr rfl))
            have B7 := BWH.out.trans (chg_out C7 BWH.out.size (Nat.le_refl w1.heap.size))
            have s7 := C7.size
            have TK2 := Hid.intro (td_take2 ⟨1, j, j⟩ T7 (fun k hk => Nat.lt_of_lt_of_le (RA.out k hk) s7) B7.size)
            have B7H := Hid.intro B7
            have ZT := Hid.intro (take_same z ⟨1, j, j⟩)
            clear q0 q1 q2 T7 C7 B7 s7 TK
            go_wp2_with fail
            refine TK2.out.mono ?_
            rintro e w8 ⟨rfl, T8, C8⟩
            have B8 := B7H.out.trans (chg_out C8 B7H.out.size (Nat.le_refl w1.heap.size))
            have T8' := T8.less (G := fun k => k < w1.heap.size) (fun k hk => .inl hk)
            have Z1 := Hid.intro (ZT.out.1.trans HZ1.out)
            have Z2 := Hid.intro (ZT.out.2.trans HZ2.out)
            generalize takeD z ⟨1, j, j⟩ = z2 at T8' Z1 Z2
            have TI := Hid.intro (td_tick T8' (fun k hk => Nat.lt_of_lt_of_le hk B8.size) B8.size zz (W1.out.below B8) (by omega))
            have B8H := Hid.intro B8
            clear d0 d1 d2 T8 T8' C8 B8 TK2 ZT HZ1 HZ2
            go_wp2_with fail
            refine TI.out.mono ?_
            rintro e w9 ⟨v9, R9, rfl, r1, r2, RV, T9, C9⟩
            have B9 := B8H.out.trans (chg_out C9 B8H.out.size (Nat.le_refl w1.heap.size))
            have TJ := Hid.intro (td_tick2 T9 r2 B9.size zz (W1.out.below B9) (by omega))
            obtain ⟨oa, oc, e9⟩ := RV.len
            subst e9
            have LEN9 : ((tickO z2).map frmY).length = (tickO z2).length := List.length_map ..
            rw [LEN9] at RV ⊢
            have RVH := Hid.intro RV
            have B9H := Hid.intro B9
            have L9H := Hid.intro LEN9
            have R1H := Hid.intro r1
            have OL := Hid.intro (tickO_len (two_okD T9))
            clear RV T9 C9 B9 TI r1 r2 LEN9
            generalize hol : (tickO z2).length = ol at L9H RVH OL ⊢
            clear hol
            go_wp2_with fail
            refine TJ.out.mono ?_
            rintro e w10 ⟨v10, R10, rfl, r1, r2, RV10, T10, C10⟩
            obtain ⟨oa2, oc2, e10⟩ := RV10.len
            subst e10
            rw [L9H.out] at RV10 ⊢
            have L1 := (RVH.out.kept C10 (fun k hk q => q.2 hk)).reads
            have L2 := RV10.reads
            have LS := Hid.intro (fun hlen => refLists_true oa oa2 oc oc2 ((tickO z2).map frmY) hlen w10 L1 L2)
            have LSH := Hid.intro (LS.out (by rw [L9H.out]; have := OL.out; omega))
            rw [L9H.out] at LSH
            have B10 := Hid.intro (B9H.out.trans (chg_out C10 B9H.out.size (Nat.le_refl w1.heap.size)))
            have T10H := Hid.intro ((T10.less r1).less R1H.out)
            clear L1 L2 RV10 T10 C10 RVH TJ r1 r2 LS
            go_wp2_with fail
            refine LSH.out.mono ?_
            rintro e w11 ⟨rfl, B11⟩
            have T11 := Two.below (dvO _ _ _) (dvO _ _ _) T10H.out B11
            have B11H := Hid.intro (B10.out.trans (B11.mono B10.out.size))
            have KA := Hid.intro (td_kept T11)
            have KB := Hid.intro (fun (W : World) (hW : Below w11.heap.size w11 W) => td_kept (Two.below (dvO _ _ _) (dvO _ _ _) T11 hW).swap)
            have OA := Hid.intro (fun (W : World) (hW : Below w11.heap.size w11 W) => td_out (Two.below (dvO _ _ _) (dvO _ _ _) T11 hW))
            have OB := Hid.intro (fun (W : World) (hW : Below w11.heap.size w11 W) => td_out (Two.below (dvO _ _ _) (dvO _ _ _) T11 hW).swap)
            have TF := Hid.intro (fun (W : World) (hW : Below w11.heap.size w11 W) => Two.below (dvO _ _ _) (dvO _ _ _) T11 hW)
            have S1 := Hid.intro ((tick_same z2).1.trans Z1.out)
            have S2 := Hid.intro ((tick_same z2).2.trans Z2.out)
            generalize (tickD z2).kept.length = kl at KA KB
            generalize (tickD z2).snd.fl.length = fl at OA OB
            generalize tickD z2 = z3 at *
            clear T11 B11 LSH T10H
            go_wp2_with fail
            refine KA.out.mono ?_
            rintro e w12 ⟨rfl, B12⟩
            have B12H := Hid.intro B12
            have KBH := Hid.intro (KB.out w12 B12)
            clear B12 KA KB
            go_wp2_with fail
            refine KBH.out.mono ?_
            rintro e w13 ⟨rfl, B13⟩
            have B13H := Hid.intro (B12H.out.trans (B13.mono B12H.out.size))
            have OAH := Hid.intro (OA.out w13 B13H.out)
            clear B13 KBH OA
            go_wp2_with fail
            refine OAH.out.mono ?_
            rintro e w14 ⟨rfl, B14⟩
            have B14H := Hid.intro (B13H.out.trans (B14.mono B13H.out.size))
            have OBH := Hid.intro (OB.out w14 B14H.out)
            clear B14 OAH OB
            go_wp2_with fail
            refine OBH.out.mono ?_
            rintro e w15 ⟨rfl, B15⟩
            have B15H := Hid.intro (B14H.out.trans (B15.mono B14H.out.size))
            have TFH := Hid.intro (TF.out w15 B15H.out)
            have BFH := Hid.intro (B11H.out.trans (B15H.out.mono B11H.out.size))
            clear B15 OBH TF
            go_wp2_with fail
            go_roundw
            case rel => exact ⟨j + 1, z3, by omega, by go_num, S1.out, S2.out, TFH.out, BFH.out⟩
            case measure => simp [intOf]; omega
          · obtain rfl : j = 4 := by omega
            have j1 : ¬ ((4 : Nat) : Int) < 4 := by decide
            have SS := td_sess TZ
            rw [hz1] at SS
            have SSH := Hid.intro SS
            have LL := Hid.intro (fun (W : World) (hW : Below wr.heap.size wr W) => td_lost (Two.below (dvO _ _ _) (dvO _ _ _) TZ hW))
            rw [hz2] at LL
            have BZH := Hid.intro BZ
            clear SS TZ BZ
            go_wp2_with fail
            refine SSH.out.mono ?_
            rintro e w7 ⟨rfl, B7⟩
            have LLH := Hid.intro (LL.out w7 B7)
            have B7H := Hid.intro (BZH.out.trans (B7.mono BZH.out.size))
            clear B7 LL SSH
            go_wp2_with fail
            refine LLH.out.mono ?_
            rintro e w8 ⟨rfl, B8⟩
            have BY := Hid.intro (B1H.out.trans ((B7H.out.trans (B8.mono B7H.out.size)).mono B1H.out.size))
            clear B8 LLH
            go_wp2_with fail
            go_ret
            exact ⟨rfl, BY.out⟩

theorem walk (tx k n s wt ms : Int) (ao : Option Addr) (len cap : Nat) (l : List Act18) (w : World) (_ : (Lit.int .i64 tx).wf = true) (_ : (Lit.int .i64 k).wf = true ∧ (Lit.int .i64 n).wf = true ∧ (Lit.int .i64 s).wf = true ∧ (Lit.int .i64 wt).wf = true ∧ (Lit.int .i64 ms).wf = true) (ha : l.length = len ∧ (∀ x ∈ l, Byt x.bs) ∧ ActsAt18 w ao l ∧ len ≤ maxLen) (hW : Wd w) :
    Calls Tryz.prog 8 #[.int .i64 tx, Lk k n s wt ms, .slice ao len cap] w fun e w' => e = .returned (.bool true) ∧ Below w.heap.size w w' := by
  obtain ⟨rfl, _, hr, _⟩ := ha
  rcases hn : mayD tx k n s wt ms with _ | _
  · exact walk_nil tx k n s wt ms ao cap l w hW hn hr
  · obtain ⟨T, K, N, S, A, B, rfl, rfl, rfl, rfl, rfl, rfl⟩ := dev_nums hn
    by_cases hf : fewB18 l
    · exact walk_near T K N S A B ao cap l hf w hW hn hr
    · exact walk_far T K N S A B ao cap l hf w hW hn hr

set_option maxRecDepth 100000 in
theorem lifted (os : Os) (started : os.Started) (H : Type) (enc : TypeId × Value → H) :
    ReturnsInHanded {} Tryz.checked os 8 .any (fun w args => (Rows.deviceAnewSpec.pre enc Tryz.prog Tryz.f8 [] false w args ∧ laidMetH Tryz.prog LW w) ∧ sizedMet enc Tryz.prog Tryz.f8 (OpenSpec.ofChange Rows.deviceAnewSpec) false w args) (Rows.deviceAnewSpec.post enc Tryz.prog Tryz.f8 false true false false) := by
  refine returnsInHanded_of_change_and (C := Tryz.checked) (X := fun w _ => laidMetH Tryz.prog LW w) (fun _ _ _ hh h => h.of_heap hh) own started (by kernel_rfl) Tryz.func8
    (ChangeSpec.witness_shaped (enc := enc) (C := Tryz.checked) (os := os) (X := fun w _ => laidMetH Tryz.prog LW w) false (World.doorLaid Tryz.prog 400 os) #[.int .i64 0, .agg #[.int .i64 0, .int .i64 0, .int .i64 0, .int .i64 0, .int .i64 0], .slice none 0 0] 8 rfl (World.shaped_of_RefB (by kernel_rfl) (by kernel_rfl)) (by kernel_rfl) (by kernel_rfl) (by kernel_rfl) (door_met os _)) ?_
  intro W base args ds gs before hval0 hW _ _ hL _
  have hval : ∀ (j : Nat) t v, Tryz.f8.params[j]? = some t → args[j]? = some v → Value.okWide Tryz.prog W .any base t v := hval0
  have hW' := hW
  obtain ⟨p, q, hA0, hV, rfl, hfz, hnd⟩ := hW
  have hA : DataW.TrodAll enc Tryz.prog W 0 (fun _ => true) true Tryz.f8.params.toList args.toList ds p := hA0
  rw [Tryz.params8] at hA hval
  obtain ⟨v0, vs0, d0, ds0, p0, q0, hargs, rfl, rfl, h0, r0⟩ := trodAll_cons hA
  obtain ⟨v1, vs1, d1, ds1, p1, q1, rfl, rfl, rfl, h1, r1⟩ := trodAll_cons r0
  obtain ⟨v2, vs2, d2, ds2, p2, q2, rfl, rfl, rfl, h2, r2⟩ := trodAll_cons r1
  obtain ⟨rfl, rfl, rfl⟩ := trodAll_nil r2
  obtain rfl : args = #[v0, v1, v2] := by cases args; simp_all
  obtain ⟨rfl, rfl⟩ := trodVars_none hV
  obtain ⟨a0, rfl, rfl, rfl, w0⟩ := open_int Tryz.underlying3 (hval 0 3 v0 rfl rfl) h0
  have k1 := h1
  have lt1 : ∀ x ∈ p1, x.block < W.heap.size := by obtain ⟨m, hm⟩ := k1; exact DataW.trod_lt m _ _ _ hm
  obtain ⟨kc1, nc1, sc1, wc1, mc1, rfl, w1⟩ := open_link (hval 1 25 v1 rfl rfl) h1
  have k2 := h2
  have lt2 : ∀ x ∈ p2, x.block < W.heap.size := by obtain ⟨m, hm⟩ := k2; exact DataW.trod_lt m _ _ _ hm
  obtain ⟨a2, len2, cap2, rfl⟩ := okWide_slice Tryz.underlying26 (hval 2 26 v2 rfl rfl)
  obtain ⟨z2, w2⟩ := open_acts h2
  clear hA0 hval0
  refine (walk a0 kc1 nc1 sc1 wc1 mc1 a2 len2 cap2 z2 W w0 w1 w2 (laid_fact hL)).mono fun e W' ⟨he, bel⟩ => ?_
  subst he
  exact ⟨_, rfl, _, _, _, [], _, [], hW', trodAll_mk1 (shut_bool Tryz.underlying4 _), (trodAll_cons_mk (shut_int Tryz.underlying3 w0) (trodAll_cons_mk (Below.trod laidOut (by kernel_rfl) (of_decide_eq_true (by kernel_rfl)) k1 bel lt1) (trodAll_cons_mk (Below.trod laidOut (by kernel_rfl) (of_decide_eq_true (by kernel_rfl)) k2 bel lt2) trodAll_mk0))), rfl, bel.frame _, fun h => by cases h⟩

theorem over : Rows.deviceAnewRow.holds Tryz.pinned (OpenSpec.ofChange Rows.deviceAnewSpec) :=
  OpenClaim.holds_of_wide 8 Tryz.f8 rfl rfl rfl rfl rfl rfl rfl ⟨rfl, rfl, rfl, rfl, rfl⟩ rfl rfl rfl rfl rfl (by kernel_rfl) Tryz.func8 (by kernel_rfl)
    (of_decide_eq_true (by kernel_rfl)) (by unfold Func.isWrapper; first | (rw [if_pos (by decide +kernel)]; kernel_rfl) | (rw [if_neg (by decide +kernel)]; exact ⟨rfl, rfl⟩))
    (fun os started H enc _ => lifted os started H enc)

end Go.Proofs.YthhggjakenalpaaGreatDoor.LDeviceAnew

namespace Go.Proofs.YthhggjakenalpaaGreatDoor
theorem deviceAnew_holds : Rows.DeviceAnewCardSaid :=
  Claim7.holds_tied_plain_at .later [] [.data, .data] true (true, "671a4a5651a09961722f6897a23331ce75446318de0b513f6ea364801e92ed89") false
    LDeviceAnew.over (fun _ h => by cases h) (by kernel_rfl) (fun _ h => by cases h) deviceAnew_row_tie rfl ⟨rfl, rfl⟩ (by kernel_rfl) rfl
    (fun f fn hf hfn => by
      obtain rfl : f = 8 := Option.some.inj ((show Tryz.prog.funcNamed "gurney/gurneylaw18.DeviceAnew" = some 8 by kernel_rfl).symm.trans hf) |>.symm
      obtain rfl : fn = Tryz.f8 := (Option.some.inj (Tryz.func8.symm.trans hfn)).symm
      exact ⟨by kernel_rfl, fun j t ht => by
        rw [Tryz.params8] at ht
        have hm : t ∈ [3, 25, 26] := by simpa using Array.mem_of_getElem? ht
        have hall : ([3, 25, 26].all fun u => !Tryz.prog.wantsStandIn u) = true := by kernel_rfl
        exact (show Tryz.prog.wantsStandIn t = false by simpa using List.all_eq_true.1 hall t hm)⟩)
    (by kernel_rfl)
#print axioms deviceAnew_holds
end Go.Proofs.YthhggjakenalpaaGreatDoor
