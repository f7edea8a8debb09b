/- The statement DeviceGreets: a device that isn't acked greets at each tick, with its session. -/
import Derived.Test.YthhggjakenalpaaGreatDoorDvLaw
namespace Go.Proofs.YthhggjakenalpaaGreatDoor
set_option maxRecDepth 100000
open Go.ChangeShapes Go.WideShapes Go.ChangeAt Go.RowKit Go.Joins
open Bt

namespace LDeviceGreets

theorem walk_nil (tx k n s wt ms : Int) (m : Int) (w : World) (hW : Wd w) (h : mayD tx k n s wt ms = false) :
    Calls Tryz.prog 7 #[.int .i64 tx, Lk k n s wt ms, .int .u8 m] w fun e w' => e = .returned (.bool true) ∧ Below w.heap.size w w' := by
  have NO := Hid.intro (fun w hw => dnew_no tx k n s wt ms h w hw)
  have B0 := Hid.intro ((Below.refl _ w).alloc (Nat.le_refl _) (.cells #[.int .i64 k, .int .i64 n, .int .i64 s, .int .i64 wt, .int .i64 ms] 25))
  have b0 := Hid.intro (heap_alloc_new w (.cells #[.int .i64 k, .int .i64 n, .int .i64 s, .int .i64 wt, .int .i64 ms] 25))
  have W0 := Hid.intro (hW.below B0.out)
  clear h hW
  go_enter Tryz.func7, Tryz.ntmps7
  go_wp2_with fail
  refine (alive_any _ W0.out).mono ?_
  rintro e w1 ⟨rfl, B1⟩
  have W1 := Hid.intro (W0.out.below B1)
  have b1 := (B1.block _ (lt_of_heap b0.out)).trans b0.out
  have B1H := Hid.intro (B0.out.trans (B1.mono B0.out.size))
  obtain ⟨c0, c1, c2, c3, c4⟩ := lk_cells b1
  clear b1 B1 B0 W0 b0
  go_wp2_with fail
  refine (NO.out w1 W1.out).mono ?_
  rintro e w2 ⟨rfl, B2⟩
  have B2H := Hid.intro (B1H.out.trans (B2.mono B1H.out.size))
  clear B2 B1H NO c0 c1 c2 c3 c4
  go_wp2
  go_ret
  exact ⟨rfl, B2H.out⟩

set_option maxRecDepth 100000 in
set_option maxHeartbeats 4000000 in
theorem walk_near (tx K N S wt ms m : Nat) (hm : m ≤ 255) (w : World) (hW : Wd w) (h : mayD tx K N S wt ms = true) :
    Calls Tryz.prog 7 #[.int .i64 (tx : Int), Lk K N S wt ms, .int .u8 (m : Int)] w fun e w' => e = .returned (.bool true) ∧ Below w.heap.size w w' := by
  have NW := Hid.intro (fun w hw => dlnew tx K N S wt ms h w hw)
  have htx := isTx_true (mayD_true h).2.1
  obtain ⟨q, hq⟩ : ∃ q, q = m % 40 := ⟨_, rfl⟩
  have hq2 : q < 40 := by omega
  have hmod : (m : Int).tmod 40 = (q : Int) := by rw [hq, Int.tmod_eq_emod_of_nonneg (by omega)]; omega
  have hmod2 : (m : Int) % 40 = (q : Int) := by rw [hq]; omega
  have r5 : IntKind.i64.wrap (m : Int) = (m : Int) := IntWalk.i64_in _ (by omega)
  have B0 := Hid.intro ((Below.refl _ w).alloc (Nat.le_refl _) (.cells #[.int .i64 (K : Int), .int .i64 (N : Int), .int .i64 (S : Int), .int .i64 (wt : Int), .int .i64 (ms : Int)] 25))
  have b0 := Hid.intro (heap_alloc_new w (.cells #[.int .i64 (K : Int), .int .i64 (N : Int), .int .i64 (S : Int), .int .i64 (wt : Int), .int .i64 (ms : Int)] 25))
  have W0 := Hid.intro (hW.below B0.out)
  have z2 := hW.two
  clear hW h hq
  go_enter Tryz.func7, Tryz.ntmps7
  go_wp2_with fail
  refine (alive_any _ W0.out).mono ?_
  rintro e w1 ⟨rfl, B1⟩
  have b1 := (B1.block _ (lt_of_heap b0.out)).trans b0.out
  have B1H := Hid.intro (B0.out.trans (B1.mono B0.out.size))
  have W1 := Hid.intro (W0.out.below B1)
  obtain ⟨c0, c1, c2, c3, c4⟩ := lk_cells b1
  clear b1 B1 B0 W0 b0
  go_wp2_with fail
  refine (NW.out w1 W1.out).mono ?_
  rintro e w2 ⟨b, rfl, L1⟩
  have L1H := Hid.intro L1
  have zz : 2 ≤ w1.heap.size := by have := B1H.out.size; omega
  clear L1 NW c0 c1 c2 c3 c4
  go_wp2_with fail
  go_loopw [8] (fun i wr => ∃ (t : Nat) (x : Dev), t ≤ q ∧ i = .int .i64 t ∧ Bare x ∧ x.tx = tx ∧ DL t b x (fun k => k < w1.heap.size) w1 wr) (fun i _ => q - (intOf i).toNat)
  case atStart => exact ⟨0, _, by omega, rfl, dev0_bare _ _ _ _ _ _, rfl, L1H.out⟩
  case round =>
    clear L1H
    obtain ⟨t, x, htq, rfl, hB, hx, LX⟩ := hrel
    by_cases hlt : t < q
    · have t1 : (t : Int) < (q : Int) := by omega
      have z0 : (fun k => k < w1.heap.size) 0 := show 0 < w1.heap.size by omega
      have z1 : (fun k => k < w1.heap.size) 1 := show 1 < w1.heap.size by omega
      by_cases h7 : t % 7 = 6
      · have m7 : (t : Int).tmod 7 = 6 := by rw [Int.tmod_eq_emod_of_nonneg (by omega)]; omega
        have m7' : (t : Int) % 7 = 6 := by omega
        have RS := Hid.intro (dlreset LX (wd_one LX W1.out z0 z1) z0)
        have HB := Hid.intro (anew_bare x)
        have HX : Hid ((anewD x).tx = tx) := Hid.intro hx
        clear LX hB hx
        go_wp2_with fail
        refine RS.out.mono ?_
        rintro e w3 ⟨rfl, L3⟩
        generalize anewD x = y at HB HX L3
        have L3H := Hid.intro L3
        clear L3 RS m7 m7'
        have TI := Hid.intro (dltick L3H.out (wd_one L3H.out W1.out z0 z1) z0 z1 (by omega))
        have RW := Hid.intro (show (tickO y).map frmY = [frmY ⟨tx, 0, 0, 0, 3, [y.session]⟩] by rw [HB.out.out, HX.out]; rfl)
        have HS := Hid.intro (HB.out.ticked)
        have HX2 := Hid.intro (show (tickD y).tx = tx by rw [HB.out.tick]; exact HX.out)
        have HSE := Hid.intro (show (tickD y).session = y.session by rw [HB.out.tick])
        have hse := L3H.out.ok.session
        rw [RW.out] at TI
        clear L3H HB HX RW
        go_wp2_with fail
        refine TI.out.mono ?_
        rintro e w4 ⟨v4, G, rfl, _, RV, _, L4⟩
        obtain ⟨g4, c4, u, rfl, hg4, k4, ru⟩ := RV.row (t := 0) Nat.zero_lt_one
        have W4 := wd_one L4 W1.out z0 z1
        have hfr : isFrm (tx : Int) 0 0 0 3 ([y.session] : List Nat).length = true := by
          rw [isFrm_iff]
          simp only [List.length_singleton]
          omega
        have PR := Hid.intro (parse_row (f := ⟨tx, 0, 0, 0, 3, [y.session]⟩) hfr (fun z hz => by rw [List.mem_singleton.1 hz]; exact hse) u w4 W4.f ru)
        obtain ⟨ua, uc, hu, _⟩ := ru
        subst hu
        generalize tickD y = y2 at L4 HS HX2 HSE
        generalize y.session = ss at *
        have L4H := Hid.intro L4
        clear RV L4 W4 TI hfr
        go_wp2_with fail
        refine PR.out.mono ?_
        rintro e w5 ⟨ao, cc, rfl, r5', _, hcc, _, B5⟩
        obtain ⟨bb, off, rfl, hc5⟩ := reads_at r5' Nat.zero_lt_one
        have d5 : w5.cell? ⟨bb, off, none⟩ = some (.int .u8 (ss : Int)) := by simpa [U] using hc5 0 Nat.zero_lt_one
        have BA := (Below.refl _ w5).alloc (Nat.le_refl _) (.cells #[.int .i64 (tx : Int), .int .i64 0, .int .i64 0, .int .i64 0, .int .i64 3, .slice (some ⟨bb, off, none⟩) 1 cc] 55)
        have ba := heap_alloc_new w5 (.cells #[.int .i64 (tx : Int), .int .i64 0, .int .i64 0, .int .i64 0, .int .i64 3, .slice (some ⟨bb, off, none⟩) 1 cc] 55)
        have L5 := One.below (dvO _ _ _) (One.below (dvO _ _ _) L4H.out B5) BA
        have e5 := cellD BA d5
        have L5H := Hid.intro L5
        have cc1 : 1 ≤ cc := hcc.1
        clear r5' hc5 L4H B5 BA PR k4 d5 L5
        go_wp2_with fail
        generalize w5.alloc (.cells #[.int .i64 (tx : Int), .int .i64 0, .int .i64 0, .int .i64 0, .int .i64 3, .slice (some ⟨bb, off, none⟩) 1 cc] 55) = W5 at e5 L5H ba ⊢
        have q0 : W5.cell? ⟨w5.heap.size, 0, none⟩ = some (.int .i64 (tx : Int)) := by rw [cell_of_row _ _ 0 _ _ _ ba]; rfl
        have q1 : W5.cell? ⟨w5.heap.size, 1, none⟩ = some (.int .i64 0) := by rw [cell_of_row _ _ 1 _ _ _ ba]; rfl
        have q4 : W5.cell? ⟨w5.heap.size, 4, none⟩ = some (.int .i64 3) := by rw [cell_of_row _ _ 4 _ _ _ ba]; rfl
        have q5 : W5.cell? ⟨w5.heap.size, 5, none⟩ = some (.slice (some ⟨bb, off, none⟩) 1 cc) := by rw [cell_of_row _ _ 5 _ _ _ ba]; rfl
        have KQ := Hid.intro (fun (W : World) (hW : Below W5.heap.size W5 W) => (show W.cell? ⟨w5.heap.size, 0, none⟩ = some (.int .i64 (tx : Int)) ∧ W.cell? ⟨w5.heap.size, 1, none⟩ = some (.int .i64 0) ∧ W.cell? ⟨w5.heap.size, 4, none⟩ = some (.int .i64 3) ∧ W.cell? ⟨w5.heap.size, 5, none⟩ = some (.slice (some ⟨bb, off, none⟩) 1 cc) ∧ W.cell? ⟨bb, off, none⟩ = some (.int .u8 (ss : Int)) from ⟨cellD hW q0, cellD hW q1, cellD hW q4, cellD hW q5, cellD hW e5⟩))
        have SE := Hid.intro (fun (W : World) (hW : Below W5.heap.size W5 W) => dlsessB (One.below (dvO _ _ _) L5H.out hW))
        rw [HSE.out] at SE
        have rs5 : IntKind.i64.wrap (ss : Int) = (ss : Int) := IntWalk.i64_in _ (by omega)
        clear ba HSE
        go_region_held3 (fun W => W.cell? ⟨w5.heap.size, 0, none⟩ = some (.int .i64 (tx : Int)) ∧ W.cell? ⟨w5.heap.size, 1, none⟩ = some (.int .i64 0) ∧ W.cell? ⟨w5.heap.size, 4, none⟩ = some (.int .i64 3) ∧ W.cell? ⟨w5.heap.size, 5, none⟩ = some (.slice (some ⟨bb, off, none⟩) 1 cc) ∧ W.cell? ⟨bb, off, none⟩ = some (.int .u8 (ss : Int)))
          (first | exact QQ.out | go_keep)
          ((go_at_call 20; refine (SE.out _ (Below.refl _ W5).drew).mono ?_; rintro e w6 ⟨rfl, B6⟩; have C6 : Below W5.heap.size W5 w6 := ⟨B6.os, B6.tape, B6.output, B6.size, B6.block⟩; have QQ := Hid.intro (KQ.out w6 C6); have L6 := Hid.intro (One.below (dvO _ _ _) L5H.out C6); clear B6))
        all_goals
          clear KQ SE L5H q0 q1 q4 q5 e5
          go_wp2_with fail
          go_roundw
          case rel => exact ⟨t + 1, _, by omega, by go_num, HS.out, HX2.out, L6.out⟩
          case measure => simp [intOf]; omega
      · have m7 : ((t : Int).tmod 7 == 6) = false := by rw [beq_eq_false_iff_ne, Int.tmod_eq_emod_of_nonneg (by omega)]; omega
        have m7' : ((t : Int) % 7 == 6) = false := by rw [beq_eq_false_iff_ne]; omega
        have HB := Hid.intro hB
        have HX := Hid.intro hx
        have L3H := Hid.intro LX
        clear LX hB hx
        have TI := Hid.intro (dltick L3H.out (wd_one L3H.out W1.out z0 z1) z0 z1 (by omega))
        have RW := Hid.intro (show (tickO x).map frmY = [frmY ⟨tx, 0, 0, 0, 3, [x.session]⟩] by rw [HB.out.out, HX.out]; rfl)
        have HS := Hid.intro (HB.out.ticked)
        have HX2 := Hid.intro (show (tickD x).tx = tx by rw [HB.out.tick]; exact HX.out)
        have HSE := Hid.intro (show (tickD x).session = x.session by rw [HB.out.tick])
        have hse := L3H.out.ok.session
        rw [RW.out] at TI
        clear L3H HB HX RW
        go_wp2_with fail
        refine TI.out.mono ?_
        rintro e w4 ⟨v4, G, rfl, _, RV, _, L4⟩
        obtain ⟨g4, c4, u, rfl, hg4, k4, ru⟩ := RV.row (t := 0) Nat.zero_lt_one
        have W4 := wd_one L4 W1.out z0 z1
        have hfr : isFrm (tx : Int) 0 0 0 3 ([x.session] : List Nat).length = true := by
          rw [isFrm_iff]
          simp only [List.length_singleton]
          omega
        have PR := Hid.intro (parse_row (f := ⟨tx, 0, 0, 0, 3, [x.session]⟩) hfr (fun z hz => by rw [List.mem_singleton.1 hz]; exact hse) u w4 W4.f ru)
        obtain ⟨ua, uc, hu, _⟩ := ru
        subst hu
        generalize tickD x = y2 at L4 HS HX2 HSE
        generalize x.session = ss at *
        have L4H := Hid.intro L4
        clear RV L4 W4 TI hfr
        go_wp2_with fail
        refine PR.out.mono ?_
        rintro e w5 ⟨ao, cc, rfl, r5', _, hcc, _, B5⟩
        obtain ⟨bb, off, rfl, hc5⟩ := reads_at r5' Nat.zero_lt_one
        have d5 : w5.cell? ⟨bb, off, none⟩ = some (.int .u8 (ss : Int)) := by simpa [U] using hc5 0 Nat.zero_lt_one
        have BA := (Below.refl _ w5).alloc (Nat.le_refl _) (.cells #[.int .i64 (tx : Int), .int .i64 0, .int .i64 0, .int .i64 0, .int .i64 3, .slice (some ⟨bb, off, none⟩) 1 cc] 55)
        have ba := heap_alloc_new w5 (.cells #[.int .i64 (tx : Int), .int .i64 0, .int .i64 0, .int .i64 0, .int .i64 3, .slice (some ⟨bb, off, none⟩) 1 cc] 55)
        have L5 := One.below (dvO _ _ _) (One.below (dvO _ _ _) L4H.out B5) BA
        have e5 := cellD BA d5
        have L5H := Hid.intro L5
        have cc1 : 1 ≤ cc := hcc.1
        clear r5' hc5 L4H B5 BA PR k4 d5 L5
        go_wp2_with fail
        generalize w5.alloc (.cells #[.int .i64 (tx : Int), .int .i64 0, .int .i64 0, .int .i64 0, .int .i64 3, .slice (some ⟨bb, off, none⟩) 1 cc] 55) = W5 at e5 L5H ba ⊢
        have q0 : W5.cell? ⟨w5.heap.size, 0, none⟩ = some (.int .i64 (tx : Int)) := by rw [cell_of_row _ _ 0 _ _ _ ba]; rfl
        have q1 : W5.cell? ⟨w5.heap.size, 1, none⟩ = some (.int .i64 0) := by rw [cell_of_row _ _ 1 _ _ _ ba]; rfl
        have q4 : W5.cell? ⟨w5.heap.size, 4, none⟩ = some (.int .i64 3) := by rw [cell_of_row _ _ 4 _ _ _ ba]; rfl
        have q5 : W5.cell? ⟨w5.heap.size, 5, none⟩ = some (.slice (some ⟨bb, off, none⟩) 1 cc) := by rw [cell_of_row _ _ 5 _ _ _ ba]; rfl
        have KQ := Hid.intro (fun (W : World) (hW : Below W5.heap.size W5 W) => (show W.cell? ⟨w5.heap.size, 0, none⟩ = some (.int .i64 (tx : Int)) ∧ W.cell? ⟨w5.heap.size, 1, none⟩ = some (.int .i64 0) ∧ W.cell? ⟨w5.heap.size, 4, none⟩ = some (.int .i64 3) ∧ W.cell? ⟨w5.heap.size, 5, none⟩ = some (.slice (some ⟨bb, off, none⟩) 1 cc) ∧ W.cell? ⟨bb, off, none⟩ = some (.int .u8 (ss : Int)) from ⟨cellD hW q0, cellD hW q1, cellD hW q4, cellD hW q5, cellD hW e5⟩))
        have SE := Hid.intro (fun (W : World) (hW : Below W5.heap.size W5 W) => dlsessB (One.below (dvO _ _ _) L5H.out hW))
        rw [HSE.out] at SE
        have rs5 : IntKind.i64.wrap (ss : Int) = (ss : Int) := IntWalk.i64_in _ (by omega)
        clear ba HSE
        go_region_held3 (fun W => W.cell? ⟨w5.heap.size, 0, none⟩ = some (.int .i64 (tx : Int)) ∧ W.cell? ⟨w5.heap.size, 1, none⟩ = some (.int .i64 0) ∧ W.cell? ⟨w5.heap.size, 4, none⟩ = some (.int .i64 3) ∧ W.cell? ⟨w5.heap.size, 5, none⟩ = some (.slice (some ⟨bb, off, none⟩) 1 cc) ∧ W.cell? ⟨bb, off, none⟩ = some (.int .u8 (ss : Int)))
          (first | exact QQ.out | go_keep)
          ((go_at_call 20; refine (SE.out _ (Below.refl _ W5).drew).mono ?_; rintro e w6 ⟨rfl, B6⟩; have C6 : Below W5.heap.size W5 w6 := ⟨B6.os, B6.tape, B6.output, B6.size, B6.block⟩; have QQ := Hid.intro (KQ.out w6 C6); have L6 := Hid.intro (One.below (dvO _ _ _) L5H.out C6); clear B6))
        all_goals
          clear KQ SE L5H q0 q1 q4 q5 e5
          go_wp2_with fail
          go_roundw
          case rel => exact ⟨t + 1, _, by omega, by go_num, HS.out, HX2.out, L6.out⟩
          case measure => simp [intOf]; omega
    · obtain rfl : t = q := by omega
      have t1 : ¬ (t : Int) < (t : Int) := by omega
      have OU := dlout LX
      rw [show x.snd.fl.length = 0 by rw [hB.fl]; rfl] at OU
      have OUH := Hid.intro OU
      clear OU LX
      go_wp2_with fail
      refine OUH.out.mono ?_
      rintro e w3 ⟨rfl, L3⟩
      have BZ := Hid.intro (B1H.out.trans ((One.out L3 (Nat.le_refl _)).mono B1H.out.size))
      clear L3 OUH
      go_wp2_with fail
      go_ret
      exact ⟨rfl, BZ.out⟩

theorem walk (tx k n s wt ms m : Int) (w : World) (_ : (Lit.int .i64 tx).wf = true) (_ : (Lit.int .i64 k).wf = true ∧ (Lit.int .i64 n).wf = true ∧ (Lit.int .i64 s).wf = true ∧ (Lit.int .i64 wt).wf = true ∧ (Lit.int .i64 ms).wf = true) (hm : (Lit.int .u8 m).wf = true) (hW : Wd w) :
    Calls Tryz.prog 7 #[.int .i64 tx, Lk k n s wt ms, .int .u8 m] w fun e w' => e = .returned (.bool true) ∧ Below w.heap.size w w' := by
  rcases hn : mayD tx k n s wt ms with _ | _
  · exact walk_nil tx k n s wt ms m w hW hn
  · have h8 := bounds_u8 hm
    obtain ⟨T, K, N, S, A, B, rfl, rfl, rfl, rfl, rfl, rfl⟩ := dev_nums hn
    obtain ⟨C, rfl⟩ := Int.eq_ofNat_of_zero_le h8.1
    exact walk_near T K N S A B C (by omega) w hW hn

set_option maxRecDepth 100000 in
theorem lifted (os : Os) (started : os.Started) (H : Type) (enc : TypeId × Value → H) :
    ReturnsInHanded {} Tryz.checked os 7 .any (fun w args => (Rows.deviceGreetsSpec.pre enc Tryz.prog Tryz.f7 [] false w args ∧ laidMetH Tryz.prog LW w) ∧ sizedMet enc Tryz.prog Tryz.f7 (OpenSpec.ofChange Rows.deviceGreetsSpec) false w args) (Rows.deviceGreetsSpec.post enc Tryz.prog Tryz.f7 false true false false) := by
  refine returnsInHanded_of_change_and (C := Tryz.checked) (X := fun w _ => laidMetH Tryz.prog LW w) (fun _ _ _ hh h => h.of_heap hh) own started (by kernel_rfl) Tryz.func7
    (ChangeSpec.witness_shaped (enc := enc) (C := Tryz.checked) (os := os) (X := fun w _ => laidMetH Tryz.prog LW w) false (World.doorLaid Tryz.prog 400 os) #[.int .i64 0, .agg #[.int .i64 0, .int .i64 0, .int .i64 0, .int .i64 0, .int .i64 0], .int .u8 0] 8 rfl (World.shaped_of_RefB (by kernel_rfl) (by kernel_rfl)) (by kernel_rfl) (by kernel_rfl) (by kernel_rfl) (door_met os _)) ?_
  intro W base args ds gs before hval0 hW _ _ hL _
  have hval : ∀ (j : Nat) t v, Tryz.f7.params[j]? = some t → args[j]? = some v → Value.okWide Tryz.prog W .any base t v := hval0
  have hW' := hW
  obtain ⟨p, q, hA0, hV, rfl, hfz, hnd⟩ := hW
  have hA : DataW.TrodAll enc Tryz.prog W 0 (fun _ => true) true Tryz.f7.params.toList args.toList ds p := hA0
  rw [Tryz.params7] at hA hval
  obtain ⟨v0, vs0, d0, ds0, p0, q0, hargs, rfl, rfl, h0, r0⟩ := trodAll_cons hA
  obtain ⟨v1, vs1, d1, ds1, p1, q1, rfl, rfl, rfl, h1, r1⟩ := trodAll_cons r0
  obtain ⟨v2, vs2, d2, ds2, p2, q2, rfl, rfl, rfl, h2, r2⟩ := trodAll_cons r1
  obtain ⟨rfl, rfl, rfl⟩ := trodAll_nil r2
  obtain rfl : args = #[v0, v1, v2] := by cases args; simp_all
  obtain ⟨rfl, rfl⟩ := trodVars_none hV
  obtain ⟨a0, rfl, rfl, rfl, w0⟩ := open_int Tryz.underlying3 (hval 0 3 v0 rfl rfl) h0
  have k1 := h1
  have lt1 : ∀ x ∈ p1, x.block < W.heap.size := by obtain ⟨m, hm⟩ := k1; exact DataW.trod_lt m _ _ _ hm
  obtain ⟨kc1, nc1, sc1, wc1, mc1, rfl, w1⟩ := open_link (hval 1 25 v1 rfl rfl) h1
  obtain ⟨a2, rfl, rfl, rfl, w2⟩ := open_int Tryz.underlying5 (hval 2 5 v2 rfl rfl) h2
  clear hA0 hval0
  refine (walk a0 kc1 nc1 sc1 wc1 mc1 a2 W w0 w1 w2 (laid_fact hL)).mono fun e W' ⟨he, bel⟩ => ?_
  subst he
  exact ⟨_, rfl, _, _, _, [], _, [], hW', trodAll_mk1 (shut_bool Tryz.underlying4 _), (trodAll_cons_mk (shut_int Tryz.underlying3 w0) (trodAll_cons_mk (Below.trod laidOut (by kernel_rfl) (of_decide_eq_true (by kernel_rfl)) k1 bel lt1) (trodAll_cons_mk (shut_int Tryz.underlying5 w2) trodAll_mk0))), rfl, bel.frame _, fun h => by cases h⟩

theorem over : Rows.deviceGreetsRow.holds Tryz.pinned (OpenSpec.ofChange Rows.deviceGreetsSpec) :=
  OpenClaim.holds_of_wide 7 Tryz.f7 rfl rfl rfl rfl rfl rfl rfl ⟨rfl, rfl, rfl, rfl, rfl⟩ rfl rfl rfl rfl rfl (by kernel_rfl) Tryz.func7 (by kernel_rfl)
    (of_decide_eq_true (by kernel_rfl)) (by unfold Func.isWrapper; first | (rw [if_pos (by decide +kernel)]; kernel_rfl) | (rw [if_neg (by decide +kernel)]; exact ⟨rfl, rfl⟩))
    (fun os started H enc _ => lifted os started H enc)

end Go.Proofs.YthhggjakenalpaaGreatDoor.LDeviceGreets

namespace Go.Proofs.YthhggjakenalpaaGreatDoor
theorem deviceGreets_holds : Rows.DeviceGreetsCardSaid :=
  Claim7.holds_tied_plain_at .later [] [.data, .data] true (true, "671a4a5651a09961722f6897a23331ce75446318de0b513f6ea364801e92ed89") false
    LDeviceGreets.over (fun _ h => by cases h) (by kernel_rfl) (fun _ h => by cases h) deviceGreets_row_tie rfl ⟨rfl, rfl⟩ (by kernel_rfl) rfl
    (fun f fn hf hfn => by
      obtain rfl : f = 7 := Option.some.inj ((show Tryz.prog.funcNamed "gurney/gurneylaw18.DeviceGreets" = some 7 by kernel_rfl).symm.trans hf) |>.symm
      obtain rfl : fn = Tryz.f7 := (Option.some.inj (Tryz.func7.symm.trans hfn)).symm
      exact ⟨by kernel_rfl, fun j t ht => by
        rw [Tryz.params7] at ht
        have hm : t ∈ [3, 25, 5] := by simpa using Array.mem_of_getElem? ht
        have hall : ([3, 25, 5].all fun u => !Tryz.prog.wantsStandIn u) = true := by kernel_rfl
        exact (show Tryz.prog.wantsStandIn t = false by simpa using List.all_eq_true.1 hall t hm)⟩)
    (by kernel_rfl)
#print axioms deviceGreets_holds
end Go.Proofs.YthhggjakenalpaaGreatDoor
