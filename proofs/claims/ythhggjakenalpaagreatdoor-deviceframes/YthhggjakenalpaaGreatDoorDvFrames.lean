/- The statement DeviceFrames: all bytes are a frame's of this transmitter, of a kind that is its. -/
import Derived.Test.YthhggjakenalpaaGreatDoorDvLaw
import Derived.Test.YthhggjakenalpaaGreatDoorDvFew
import Derived.BigQuiet
namespace Go.Proofs.YthhggjakenalpaaGreatDoor
set_option maxRecDepth 100000
open Go.ChangeShapes Go.WideShapes Go.ChangeAt Go.RowKit Go.Joins
open Bt

namespace LDeviceFrames

open Classical in
theorem walk_nil (tx k n s wt ms : Int) (ao : Option Addr) (cap : Nat) (l : List Act18) (w : World) (hW : Wd w) (h : mayD tx k n s wt ms = false) (hr : ActsAt18 w ao l) :
    Calls Tryz.prog 4 #[.int .i64 tx, Lk k n s wt ms, .slice ao l.length cap] w fun e w' => e = .returned (.bool true) ∧ Below w.heap.size w w' := by
  have NO := Hid.intro (fun w hw => dnew_no tx k n s wt ms h w hw)
  have B0 := Hid.intro ((Below.refl _ w).alloc (Nat.le_refl _) (.cells #[.int .i64 k, .int .i64 n, .int .i64 s, .int .i64 wt, .int .i64 ms] 25))
  have b0 := Hid.intro (heap_alloc_new w (.cells #[.int .i64 k, .int .i64 n, .int .i64 s, .int .i64 wt, .int .i64 ms] 25))
  have W0 := Hid.intro (hW.below B0.out)
  have FW := Hid.intro (fun (W : World) (hB : Below w.heap.size w W) => few18_any ao cap l W (acts_below hr hB))
  generalize l.length = ln at *
  generalize decide (fewB18 l) = fb at FW
  clear h hW hr
  go_enter Tryz.func4, Tryz.ntmps4
  go_wp2_with fail
  refine (alive_any _ W0.out).mono ?_
  rintro e w1 ⟨rfl, B1⟩
  have W1 := Hid.intro (W0.out.below B1)
  have b1 := (B1.block _ (lt_of_heap b0.out)).trans b0.out
  have B1H := Hid.intro (B0.out.trans (B1.mono B0.out.size))
  obtain ⟨c0, c1, c2, c3, c4⟩ := lk_cells b1
  clear b1 B1 B0 W0 b0
  go_wp2_with fail
  refine (NO.out w1 W1.out).mono ?_
  rintro e w2 ⟨rfl, B2⟩
  have B2H := Hid.intro (B1H.out.trans (B2.mono B1H.out.size))
  clear B2 B1H NO c0 c1 c2 c3 c4
  go_wp2_with fail
  refine (FW.out w2 B2H.out).mono ?_
  rintro e w3 ⟨rfl, B3⟩
  have B3H := Hid.intro (B2H.out.trans (B3.mono B2H.out.size))
  clear B3 B2H FW
  cases fb
  all_goals
    go_wp2
    go_ret
    exact ⟨rfl, B3H.out⟩

open Classical in
theorem walk_far (tx K N S wt ms : Nat) (ao : Option Addr) (cap : Nat) (l : List Act18) (hl : ¬ fewB18 l) (w : World) (hW : Wd w) (h : mayD tx K N S wt ms = true) (hr : ActsAt18 w ao l) :
    Calls Tryz.prog 4 #[.int .i64 (tx : Int), Lk K N S wt ms, .slice ao l.length cap] w fun e w' => e = .returned (.bool true) ∧ Below w.heap.size w w' := by
  have NO := Hid.intro (fun w hw => dlnew tx K N S wt ms h w hw)
  have B0 := Hid.intro ((Below.refl _ w).alloc (Nat.le_refl _) (.cells #[.int .i64 (K : Int), .int .i64 (N : Int), .int .i64 (S : Int), .int .i64 (wt : Int), .int .i64 (ms : Int)] 25))
  have b0 := Hid.intro (heap_alloc_new w (.cells #[.int .i64 (K : Int), .int .i64 (N : Int), .int .i64 (S : Int), .int .i64 (wt : Int), .int .i64 (ms : Int)] 25))
  have W0 := Hid.intro (hW.below B0.out)
  have FW := Hid.intro (fun (W : World) (hB : Below w.heap.size w W) => few18_any ao cap l W (acts_below hr hB))
  rw [decide_eq_false hl] at FW
  generalize l.length = ln at *
  clear h hW hr hl
  go_enter Tryz.func4, Tryz.ntmps4
  go_wp2_with fail
  refine (alive_any _ W0.out).mono ?_
  rintro e w1 ⟨rfl, B1⟩
  have W1 := Hid.intro (W0.out.below B1)
  have b1 := (B1.block _ (lt_of_heap b0.out)).trans b0.out
  have B1H := Hid.intro (B0.out.trans (B1.mono B0.out.size))
  obtain ⟨c0, c1, c2, c3, c4⟩ := lk_cells b1
  clear b1 B1 B0 W0 b0
  go_wp2_with fail
  refine (NO.out w1 W1.out).mono ?_
  rintro e w2 ⟨b, rfl, L2⟩
  have B2H := Hid.intro (B1H.out.trans ((One.out L2 (Nat.le_refl _)).mono B1H.out.size))
  clear L2 B1H NO c0 c1 c2 c3 c4
  go_wp2_with fail
  refine (FW.out w2 B2H.out).mono ?_
  rintro e w3 ⟨rfl, B3⟩
  have B3H := Hid.intro (B2H.out.trans (B3.mono B2H.out.size))
  clear B3 B2H FW
  go_wp2
  go_ret
  exact ⟨rfl, B3H.out⟩

open Classical in
set_option maxRecDepth 100000 in
set_option maxHeartbeats 4000000 in
theorem walk_near (tx K N S wt ms : Nat) (ao : Option Addr) (cap : Nat) (l : List Act18) (hl : fewB18 l) (w : World) (hW : Wd w) (h : mayD tx K N S wt ms = true) (hY : ∀ x ∈ l, Byt x.bs) (hr : ActsAt18 w ao l) :
    Calls Tryz.prog 4 #[.int .i64 (tx : Int), Lk K N S wt ms, .slice ao l.length cap] w fun e w' => e = .returned (.bool true) ∧ Below w.heap.size w w' := by
  have NO := Hid.intro (fun w hw => dlnew tx K N S wt ms h w hw)
  have B0 := Hid.intro ((Below.refl _ w).alloc (Nat.le_refl _) (.cells #[.int .i64 (K : Int), .int .i64 (N : Int), .int .i64 (S : Int), .int .i64 (wt : Int), .int .i64 (ms : Int)] 25))
  have b0 := Hid.intro (heap_alloc_new w (.cells #[.int .i64 (K : Int), .int .i64 (N : Int), .int .i64 (S : Int), .int .i64 (wt : Int), .int .i64 (ms : Int)] 25))
  have W0 := Hid.intro (hW.below B0.out)
  have FW := Hid.intro (fun (W : World) (hB : Below w.heap.size w W) => few18_any ao cap l W (acts_below hr hB))
  rw [decide_eq_true hl] at FW
  have RR := Hid.intro hr
  have FE := Hid.intro hl.2
  have YY := Hid.intro hY
  have z2 := hW.two
  have htx := isTx_true (mayD_true h).2.1
  have hl80 := hl.1
  obtain ⟨n, hn⟩ : ∃ n, n = l.length := ⟨_, rfl⟩
  rw [← hn] at FW hl80 ⊢
  have HN := Hid.intro hn
  clear h hW hr hl hY hn
  go_enter Tryz.func4, Tryz.ntmps4
  go_wp2_with fail
  refine (alive_any _ W0.out).mono ?_
  rintro e w1' ⟨rfl, B1⟩
  have W1' := Hid.intro (W0.out.below B1)
  have b1 := (B1.block _ (lt_of_heap b0.out)).trans b0.out
  have B1H := Hid.intro (B0.out.trans (B1.mono B0.out.size))
  obtain ⟨c0, c1, c2, c3, c4⟩ := lk_cells b1
  clear b1 B1 B0 W0 b0
  go_wp2_with fail
  refine (NO.out w1' W1'.out).mono ?_
  rintro e w2 ⟨b, rfl, L2⟩
  have B2H := Hid.intro (B1H.out.trans ((One.out L2 (Nat.le_refl _)).mono B1H.out.size))
  have L2H := Hid.intro L2
  clear L2 NO c0 c1 c2 c3 c4
  go_wp2_with fail
  refine (FW.out w2 B2H.out).mono ?_
  rintro e w3 ⟨rfl, B3⟩
  obtain ⟨w1, hw1⟩ : ∃ w1, w1 = w1' := ⟨_, rfl⟩
  rw [← hw1] at W1' L2H B1H
  have L3 := Hid.intro (One.below (dvO _ _ _) L2H.out B3)
  have W1 := Hid.intro W1'.out
  have zz : 2 ≤ w1.heap.size := by have := B1H.out.size; omega
  clear B3 B2H FW L2H W1' hw1
  go_wp2_with fail
  go_loopw [8] (fun i wr => ∃ (t : Nat) (x : Dev), t ≤ n ∧ i = .int .i64 t ∧ x.tx = tx ∧ DL (4 * t) b x (fun k => k < w1.heap.size) w1 wr) (fun i _ => n - (intOf i).toNat)
  case atStart => exact ⟨0, _, by omega, rfl, rfl, L3.out⟩
  case round =>
    clear L3
    obtain ⟨t, x, htn, rfl, hx, LX⟩ := hrel
    have z0 : (fun k => k < w1.heap.size) 0 := show 0 < w1.heap.size by omega
    have z1 : (fun k => k < w1.heap.size) 1 := show 1 < w1.heap.size by omega
    by_cases hlt : t < n
    · have hlf : t < l.length := by have := HN.out; omega
      obtain ⟨pb, off, rfl, hq⟩ := RR.out (by omega)
      obtain ⟨v, x0, x1, x2, x3, x4, x5⟩ := hq t hlf
      have SF : pb < w1.heap.size := Nat.lt_of_lt_of_le (cell_lt x0) B1H.out.size
      have YA := YY.out _ (List.getElem_mem hlf)
      have FA := FE.out _ (List.getElem_mem hlf)
      generalize l[t] = A at *
      obtain ⟨kd, sm, bs⟩ := A
      dsimp only at x0 x1 x2 x3 x5 YA FA
      have D0 := Hid.intro (cellD B1H.out x0)
      have D1 := Hid.intro (cellD B1H.out x1)
      have D2 := Hid.intro (cellD B1H.out x2)
      have D3 := Hid.intro (cellD B1H.out x3)
      have D4 := Hid.intro (cellD B1H.out x4)
      have k0 := One.cell LX D0.out SF
      have i0 : (0 : Int) ≤ (t : Int) := by omega
      have i1 : (t : Int) < (n : Int) := by omega
      have RB := Hid.intro (x5.kept (below_chg B1H.out) (fun _ _ => id))
      have HXH := Hid.intro hx
      clear hq x0 x1 x2 x3 x4 x5
      by_cases e0 : kd = 0
      · subst e0
        have k1 := One.cell LX D1.out SF
        have k2 := One.cell LX D2.out SF
        have k3 := One.cell LX D3.out SF
        have TK := Hid.intro (dltake sm LX)
        have HX2 := Hid.intro ((takeD_tx x sm).trans hx)
        clear LX D1 D2 D3 D4 RB hx
        go_wp2_with fail
        refine TK.out.mono ?_
        rintro e w4 ⟨rfl, L4⟩
        have q0 := One.cell L4 D0.out SF
        have L4H := Hid.intro L4
        clear L4 TK k0 k1 k2 k3
        go_wp2_with fail
        go_roundw
        case rel => exact ⟨t + 1, _, by omega, by go_num, HX2.out, DL.more L4H.out (by omega)⟩
        case measure => simp [intOf]; omega
      · have e0' : (kd == 0) = false := by rw [beq_eq_false_iff_ne]; exact e0
        by_cases e2 : kd = 2
        · subst e2
          have k4 := One.cell LX D4.out SF
          have RBX := RB.out.kept (One.chg LX) (fun k hk q => q (Nat.lt_of_lt_of_le hk B1H.out.size))
          obtain ⟨va, vc, hv, _⟩ := RB.out
          have HE := Hid.intro (dlhear v bs (by omega) YA LX (wd_one LX W1.out z0 z1) RBX (by omega))
          subst hv
          have HX2 := Hid.intro ((hearD_tx x bs).trans hx)
          clear LX D1 D2 D3 D4 RB RBX hx e0 e0'
          go_wp2_with fail
          refine HE.out.mono ?_
          rintro e w4 ⟨rfl, L4⟩
          have q0 := One.cell L4 D0.out SF
          have L4H := Hid.intro L4
          clear L4 HE k0 k4
          go_wp2_with fail
          go_roundw
          case rel => exact ⟨t + 1, _, by omega, by go_num, HX2.out, DL.more L4H.out (by omega)⟩
          case measure => simp [intOf]; omega
        · have e2' : (kd == 2) = false := by rw [beq_eq_false_iff_ne]; exact e2
          by_cases e3 : kd = 3
          · subst e3
            have RS := Hid.intro (dlreset LX (wd_one LX W1.out z0 z1) z0)
            have HX2 := Hid.intro ((anewD_tx x).trans hx)
            clear LX D1 D2 D3 D4 RB hx e0 e0' e2 e2'
            go_wp2_with fail
            refine RS.out.mono ?_
            rintro e w4 ⟨rfl, L4⟩
            have q0 := One.cell L4 D0.out SF
            have L4H := Hid.intro L4
            clear L4 RS k0
            go_wp2_with fail
            go_roundw
            case rel => exact ⟨t + 1, _, by omega, by go_num, HX2.out, DL.more L4H.out (by omega)⟩
            case measure => simp [intOf]; omega
          · have e3' : (kd == 3) = false := by rw [beq_eq_false_iff_ne]; exact e3
            by_cases e1 : kd = 1
            · subst e1
              have TI := Hid.intro (dltick LX (wd_one LX W1.out z0 z1) z0 z1 (by omega))
              have OK := LX.ok
              have HLEN := Hid.intro (tickO_len OK)
              have SENT := Hid.intro (tickO_sent OK)
              have HX2 := Hid.intro ((tickD_tx x).trans hx)
              clear LX D1 D2 D3 D4 RB hx e0 e0' e2 e2' e3 e3' OK
              go_wp2_with fail
              refine TI.out.mono ?_
              rintro e w4 ⟨v4, G, rfl, hG, RV, L4, L4'⟩
              obtain ⟨oa, oc, e4⟩ := RV.len
              subst e4
              have W4 := Hid.intro (wd_one L4' W1.out z0 z1)
              have RVH := Hid.intro RV
              have L4H := Hid.intro L4
              have L4H' := Hid.intro L4'
              have LEN : ((tickO x).map frmY).length = (tickO x).length := List.length_map ..
              rw [LEN] at RVH ⊢
              have RG := Hid.intro (fun (k : Nat) (hk : k < (tickO x).length) => rows_getD (tickO x) hk)
              have SES := Hid.intro (fun (W : World) (hW : Below w4.heap.size w4 W) => dlsessB (One.below (dvO _ _ _) L4H.out hW))
              have LEN2 : Hid (((tickO x).map frmY).length = (tickO x).length) := Hid.intro LEN
              generalize tickO x = O at *
              generalize tickD x = y at *
              obtain ⟨m, hm⟩ : ∃ m, m = O.length := ⟨_, rfl⟩
              rw [← hm]
              have HM := Hid.intro hm
              rw [← hm] at HLEN RVH
              clear RV L4 L4' TI k0 LEN hm
              go_wp2_with fail
              go_loopw [10] (fun kv wr2 => ∃ k : Nat, k ≤ m ∧ kv = .int .i64 k ∧ Below w4.heap.size w4 wr2) (fun kv _ => m - (intOf kv).toNat)
              case atStart => exact ⟨0, by omega, rfl, Below.refl _ _⟩
              case round =>
                obtain ⟨k, hkm, rfl, hB⟩ := hrel
                have HBH := Hid.intro hB
                by_cases hk : k < m
                · have hm41 : m ≤ 41 := HLEN.out
                  have hkO : k < O.length := by have := HM.out; omega
                  obtain ⟨g4, c4, u, hv, hg4, k4, ru⟩ := RVH.out.row (t := k) (by rw [LEN2.out]; exact hkO)
                  obtain ⟨rfl⟩ : oa = some ⟨g4, 0, none⟩ := by simp only [Value.slice.injEq] at hv; exact hv.1
                  have k5 := cellD hB k4
                  have ST := SENT.out k hkO
                  rw [RG.out k hkO] at ru
                  generalize O.getD k ⟨0, 0, 0, 0, 0, []⟩ = f at ST ru
                  have PR := Hid.intro (parse_row ST.frm ST.byt u wr (W4.out.f.below hB) (ru.kept (below_chg hB) (fun _ _ => id)))
                  obtain ⟨ua, uc, hu, _⟩ := ru
                  subst hu
                  have s1 := ST.tx
                  have s2 := ST.ack
                  have s3 := ST.hello
                  have hyt := HX2.out
                  obtain ⟨ftx, fsq, fan, frs, fkd, fd⟩ := f
                  dsimp only at PR s1 s2 s3
                  rw [hyt] at s1
                  subst s1
                  have j0 : (0 : Int) ≤ (k : Int) := by omega
                  have j1 : (k : Int) < (m : Int) := by omega
                  have n1 : (fkd == 1) = false := by rw [beq_eq_false_iff_ne]; exact s2
                  have S3 := Hid.intro s3
                  clear hv hB k4 ST s2 s3 hyt
                  go_wp2_with fail
                  refine PR.out.mono ?_
                  rintro e w5 ⟨ao5, cc, rfl, r5, _, hcc, _, B5⟩
                  have BA := (Below.refl _ w5).alloc (Nat.le_refl _) (.cells #[.int .i64 (tx : Int), .int .i64 fsq, .int .i64 fan, .int .i64 frs, .int .i64 fkd, .slice ao5 fd.length cc] 55)
                  have ba := heap_alloc_new w5 (.cells #[.int .i64 (tx : Int), .int .i64 fsq, .int .i64 fan, .int .i64 frs, .int .i64 fkd, .slice ao5 fd.length cc] 55)
                  have B6 := Hid.intro ((HBH.out.trans (B5.mono HBH.out.size)).trans (BA.mono (Nat.le_trans HBH.out.size B5.size)))
                  by_cases e3 : fkd = 3
                  · obtain ⟨hk0, hd⟩ := S3.out e3
                    subst hk0
                    subst hd
                    subst e3
                    obtain ⟨bb, o5, rfl, hc5⟩ := reads_at r5 Nat.zero_lt_one
                    have d5 : w5.cell? ⟨bb, o5, none⟩ = some (.int .u8 (y.session : Int)) := by simpa [U] using hc5 0 Nat.zero_lt_one
                    have e5 := cellD BA d5
                    have cc1 : 1 ≤ cc := hcc.1
                    have hse := L4H.out.ok.session
                    have rs5 : IntKind.i64.wrap (y.session : Int) = (y.session : Int) := IntWalk.i64_in _ (by omega)
                    have SE := Hid.intro (fun (W : World) (hW : Below _ _ W) => SES.out W (B6.out.trans (hW.mono B6.out.size)))
                    clear r5 hc5 hcc B5 BA d5 PR k5 S3
                    go_wp2_with fail
                    generalize w5.alloc (.cells #[.int .i64 (tx : Int), .int .i64 fsq, .int .i64 fan, .int .i64 frs, .int .i64 3, .slice (some ⟨bb, o5, none⟩) 1 cc] 55) = W5 at *
                    have q0 : W5.cell? ⟨w5.heap.size, 0, none⟩ = some (.int .i64 (tx : Int)) := by rw [cell_of_row _ _ 0 _ _ _ ba]; rfl
                    have q4 : W5.cell? ⟨w5.heap.size, 4, none⟩ = some (.int .i64 3) := by rw [cell_of_row _ _ 4 _ _ _ ba]; rfl
                    have q5 : W5.cell? ⟨w5.heap.size, 5, none⟩ = some (.slice (some ⟨bb, o5, none⟩) 1 cc) := by rw [cell_of_row _ _ 5 _ _ _ ba]; rfl
                    have KQ := Hid.intro (fun (W : World) (hW : Below W5.heap.size W5 W) => (show W.cell? ⟨w5.heap.size, 0, none⟩ = some (.int .i64 (tx : Int)) ∧ W.cell? ⟨w5.heap.size, 4, none⟩ = some (.int .i64 3) ∧ W.cell? ⟨w5.heap.size, 5, none⟩ = some (.slice (some ⟨bb, o5, none⟩) 1 cc) ∧ W.cell? ⟨bb, o5, none⟩ = some (.int .u8 (y.session : Int)) from ⟨cellD hW q0, cellD hW q4, cellD hW q5, cellD hW e5⟩))
                    generalize y.session = ss at *
                    clear ba
                    go_region_held3 (fun W => W.cell? ⟨w5.heap.size, 0, none⟩ = some (.int .i64 (tx : Int)) ∧ W.cell? ⟨w5.heap.size, 4, none⟩ = some (.int .i64 3) ∧ W.cell? ⟨w5.heap.size, 5, none⟩ = some (.slice (some ⟨bb, o5, none⟩) 1 cc) ∧ W.cell? ⟨bb, o5, none⟩ = some (.int .u8 (ss : Int)))
                      (first | exact QQ.out | go_keep)
                      ((go_at_call 20; refine (SE.out _ (Below.refl _ W5).drew).mono ?_; rintro e w6 ⟨rfl, B7⟩; have C6 : Below W5.heap.size W5 w6 := ⟨B7.os, B7.tape, B7.output, B7.size, B7.block⟩; have QQ := Hid.intro (KQ.out w6 C6); have L6 := Hid.intro (B6.out.trans (C6.mono B6.out.size)); clear B7))
                    all_goals
                      clear KQ SE q0 q4 q5 e5
                      go_wp2_with fail
                      go_roundw
                      case rel => exact ⟨0 + 1, by omega, by go_num, L6.out⟩
                      case measure => simp [intOf]; omega
                  · have n3 : (fkd == 3) = false := by rw [beq_eq_false_iff_ne]; exact e3
                    clear r5 hcc B5 BA PR k5 S3
                    go_wp2_with fail
                    generalize w5.alloc (.cells #[.int .i64 (tx : Int), .int .i64 fsq, .int .i64 fan, .int .i64 frs, .int .i64 fkd, .slice ao5 fd.length cc] 55) = W5 at *
                    have q0 : W5.cell? ⟨w5.heap.size, 0, none⟩ = some (.int .i64 (tx : Int)) := by rw [cell_of_row _ _ 0 _ _ _ ba]; rfl
                    have q4 : W5.cell? ⟨w5.heap.size, 4, none⟩ = some (.int .i64 fkd) := by rw [cell_of_row _ _ 4 _ _ _ ba]; rfl
                    clear ba
                    go_big_quiet (fail)
                    go_wp2_with fail
                    go_roundw
                    case rel => exact ⟨k + 1, by omega, by go_num, belowN B6.out _⟩
                    case measure => simp [intOf]; omega
                · have j1 : ¬ (k : Int) < (m : Int) := by omega
                  have L5 := Hid.intro (One.below (dvO _ _ _) L4H'.out hB)
                  clear hB
                  go_wp2_with fail
                  go_roundw
                  case rel => exact ⟨t + 1, _, by omega, by go_num, HX2.out, DL.more L5.out (by omega)⟩
                  case measure => simp [intOf]; omega
            · have e1' : (kd != 1) = true := by rw [bne_iff_ne]; exact e1
              have LXH := Hid.intro LX
              clear LX D1 D2 D3 D4 RB hx
              go_wp2_with fail
              go_roundw
              case rel => exact ⟨t + 1, _, by omega, by go_num, HXH.out, DL.more LXH.out (by omega)⟩
              case measure => simp [intOf]; omega
    · have i1 : ¬ (t : Int) < (n : Int) := by omega
      have BZ := Hid.intro (B1H.out.trans ((One.out LX (Nat.le_refl _)).mono B1H.out.size))
      clear LX
      go_wp2_with fail
      go_ret
      exact ⟨rfl, BZ.out⟩

theorem walk (tx k n s wt ms : Int) (ao : Option Addr) (len cap : Nat) (l : List Act18) (w : World) (_ : (Lit.int .i64 tx).wf = true) (_ : (Lit.int .i64 k).wf = true ∧ (Lit.int .i64 n).wf = true ∧ (Lit.int .i64 s).wf = true ∧ (Lit.int .i64 wt).wf = true ∧ (Lit.int .i64 ms).wf = true) (ha : l.length = len ∧ (∀ x ∈ l, Byt x.bs) ∧ ActsAt18 w ao l ∧ len ≤ maxLen) (hW : Wd w) :
    Calls Tryz.prog 4 #[.int .i64 tx, Lk k n s wt ms, .slice ao len cap] w fun e w' => e = .returned (.bool true) ∧ Below w.heap.size w w' := by
  obtain ⟨rfl, hY, hr, _⟩ := ha
  rcases hn : mayD tx k n s wt ms with _ | _
  · exact walk_nil tx k n s wt ms ao cap l w hW hn hr
  · obtain ⟨T, K, N, S, A, B, rfl, rfl, rfl, rfl, rfl, rfl⟩ := dev_nums hn
    by_cases hf : fewB18 l
    · exact walk_near T K N S A B ao cap l hf w hW hn hY hr
    · exact walk_far T K N S A B ao cap l hf w hW hn hr

set_option maxRecDepth 100000 in
theorem lifted (os : Os) (started : os.Started) (H : Type) (enc : TypeId × Value → H) :
    ReturnsInHanded {} Tryz.checked os 4 .any (fun w args => (Rows.deviceFramesSpec.pre enc Tryz.prog Tryz.f4 [] false w args ∧ laidMetH Tryz.prog LW w) ∧ sizedMet enc Tryz.prog Tryz.f4 (OpenSpec.ofChange Rows.deviceFramesSpec) false w args) (Rows.deviceFramesSpec.post enc Tryz.prog Tryz.f4 false true false false) := by
  refine returnsInHanded_of_change_and (C := Tryz.checked) (X := fun w _ => laidMetH Tryz.prog LW w) (fun _ _ _ hh h => h.of_heap hh) own started (by kernel_rfl) Tryz.func4
    (ChangeSpec.witness_shaped (enc := enc) (C := Tryz.checked) (os := os) (X := fun w _ => laidMetH Tryz.prog LW w) false (World.doorLaid Tryz.prog 400 os) #[.int .i64 0, .agg #[.int .i64 0, .int .i64 0, .int .i64 0, .int .i64 0, .int .i64 0], .slice none 0 0] 8 rfl (World.shaped_of_RefB (by kernel_rfl) (by kernel_rfl)) (by kernel_rfl) (by kernel_rfl) (by kernel_rfl) (door_met os _)) ?_
  intro W base args ds gs before hval0 hW _ _ hL _
  have hval : ∀ (j : Nat) t v, Tryz.f4.params[j]? = some t → args[j]? = some v → Value.okWide Tryz.prog W .any base t v := hval0
  have hW' := hW
  obtain ⟨p, q, hA0, hV, rfl, hfz, hnd⟩ := hW
  have hA : DataW.TrodAll enc Tryz.prog W 0 (fun _ => true) true Tryz.f4.params.toList args.toList ds p := hA0
  rw [Tryz.params4] at hA hval
  obtain ⟨v0, vs0, d0, ds0, p0, q0, hargs, rfl, rfl, h0, r0⟩ := trodAll_cons hA
  obtain ⟨v1, vs1, d1, ds1, p1, q1, rfl, rfl, rfl, h1, r1⟩ := trodAll_cons r0
  obtain ⟨v2, vs2, d2, ds2, p2, q2, rfl, rfl, rfl, h2, r2⟩ := trodAll_cons r1
  obtain ⟨rfl, rfl, rfl⟩ := trodAll_nil r2
  obtain rfl : args = #[v0, v1, v2] := by cases args; simp_all
  obtain ⟨rfl, rfl⟩ := trodVars_none hV
  obtain ⟨a0, rfl, rfl, rfl, w0⟩ := open_int Tryz.underlying3 (hval 0 3 v0 rfl rfl) h0
  have k1 := h1
  have lt1 : ∀ x ∈ p1, x.block < W.heap.size := by obtain ⟨m, hm⟩ := k1; exact DataW.trod_lt m _ _ _ hm
  obtain ⟨kc1, nc1, sc1, wc1, mc1, rfl, w1⟩ := open_link (hval 1 25 v1 rfl rfl) h1
  have k2 := h2
  have lt2 : ∀ x ∈ p2, x.block < W.heap.size := by obtain ⟨m, hm⟩ := k2; exact DataW.trod_lt m _ _ _ hm
  obtain ⟨a2, len2, cap2, rfl⟩ := okWide_slice Tryz.underlying26 (hval 2 26 v2 rfl rfl)
  obtain ⟨z2, w2⟩ := open_acts h2
  clear hA0 hval0
  refine (walk a0 kc1 nc1 sc1 wc1 mc1 a2 len2 cap2 z2 W w0 w1 w2 (laid_fact hL)).mono fun e W' ⟨he, bel⟩ => ?_
  subst he
  exact ⟨_, rfl, _, _, _, [], _, [], hW', trodAll_mk1 (shut_bool Tryz.underlying4 _), (trodAll_cons_mk (shut_int Tryz.underlying3 w0) (trodAll_cons_mk (Below.trod laidOut (by kernel_rfl) (of_decide_eq_true (by kernel_rfl)) k1 bel lt1) (trodAll_cons_mk (Below.trod laidOut (by kernel_rfl) (of_decide_eq_true (by kernel_rfl)) k2 bel lt2) trodAll_mk0))), rfl, bel.frame _, fun h => by cases h⟩

theorem over : Rows.deviceFramesRow.holds Tryz.pinned (OpenSpec.ofChange Rows.deviceFramesSpec) :=
  OpenClaim.holds_of_wide 4 Tryz.f4 rfl rfl rfl rfl rfl rfl rfl ⟨rfl, rfl, rfl, rfl, rfl⟩ rfl rfl rfl rfl rfl (by kernel_rfl) Tryz.func4 (by kernel_rfl)
    (of_decide_eq_true (by kernel_rfl)) (by unfold Func.isWrapper; first | (rw [if_pos (by decide +kernel)]; kernel_rfl) | (rw [if_neg (by decide +kernel)]; exact ⟨rfl, rfl⟩))
    (fun os started H enc _ => lifted os started H enc)

end Go.Proofs.YthhggjakenalpaaGreatDoor.LDeviceFrames

namespace Go.Proofs.YthhggjakenalpaaGreatDoor
theorem deviceFrames_holds : Rows.DeviceFramesCardSaid :=
  Claim7.holds_tied_plain_at .later [] [.data, .data] true (true, "671a4a5651a09961722f6897a23331ce75446318de0b513f6ea364801e92ed89") false
    LDeviceFrames.over (fun _ h => by cases h) (by kernel_rfl) (fun _ h => by cases h) deviceFrames_row_tie rfl ⟨rfl, rfl⟩ (by kernel_rfl) rfl
    (fun f fn hf hfn => by
      obtain rfl : f = 4 := Option.some.inj ((show Tryz.prog.funcNamed "gurney/gurneylaw18.DeviceFrames" = some 4 by kernel_rfl).symm.trans hf) |>.symm
      obtain rfl : fn = Tryz.f4 := (Option.some.inj (Tryz.func4.symm.trans hfn)).symm
      exact ⟨by kernel_rfl, fun j t ht => by
        rw [Tryz.params4] at ht
        have hm : t ∈ [3, 25, 26] := by simpa using Array.mem_of_getElem? ht
        have hall : ([3, 25, 26].all fun u => !Tryz.prog.wantsStandIn u) = true := by kernel_rfl
        exact (show Tryz.prog.wantsStandIn t = false by simpa using List.all_eq_true.1 hall t hm)⟩)
    (by kernel_rfl)
#print axioms deviceFrames_holds
end Go.Proofs.YthhggjakenalpaaGreatDoor
