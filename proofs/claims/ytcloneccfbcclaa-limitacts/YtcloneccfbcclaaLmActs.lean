/- The statement LimitActs: whatever is done, both tables answer alike. -/
import Derived.Test.YtcloneccfbcclaaLmRR
import Derived.Test.YtcloneccfbcclaaLmAlive
import Derived.Test.YtcloneccfbcclaaLmArg
import Derived.Deep.RegionHeld3
namespace Go.Proofs.Ytcloneccfbcclaa
open Go.ChangeShapes Go.WideShapes Go.ChangeAt Go.RowKit
open Bt

namespace LLimitActs

/-- An act's cells, in a block of its own. -/
abbrev actV (k v x0 x1 x2 x3 x4 : Int) : Obj := .cells #[.int .i64 k, .int .i64 v, .int .i64 x0, .int .i64 x1, .int .i64 x2, .int .i64 x3, .int .i64 x4] 41 (0, 0)

theorem act_block {w : World} {g : Nat} {k v x0 x1 x2 x3 x4 : Int} (h : w.heap[g]? = some (actV k v x0 x1 x2 x3 x4)) : ActAt14 w g 0 ⟨k, v, ⟨x0, x1, x2, x3, x4⟩⟩ :=
  ⟨by rw [cell_of_row _ _ 0 _ _ _ h]; rfl, by rw [cell_of_row _ _ 1 _ _ _ h]; rfl, by rw [cell_of_row _ _ 2 _ _ _ h]; rfl, by rw [cell_of_row _ _ 3 _ _ _ h]; rfl, by rw [cell_of_row _ _ 4 _ _ _ h]; rfl, by rw [cell_of_row _ _ 5 _ _ _ h]; rfl, by rw [cell_of_row _ _ 6 _ _ _ h]; rfl⟩

/-- What an act's cells hold, plainly. -/
def Cells7 (W : World) (bs : Nat) (k v x0 x1 x2 x3 x4 : Int) : Prop := W.cell? ⟨bs, 0, none⟩ = some (.int .i64 k) ∧ W.cell? ⟨bs, 1, none⟩ = some (.int .i64 v) ∧ W.cell? ⟨bs, 2, none⟩ = some (.int .i64 x0) ∧ W.cell? ⟨bs, 3, none⟩ = some (.int .i64 x1) ∧ W.cell? ⟨bs, 4, none⟩ = some (.int .i64 x2) ∧ W.cell? ⟨bs, 5, none⟩ = some (.int .i64 x3) ∧ W.cell? ⟨bs, 6, none⟩ = some (.int .i64 x4)

theorem cells7 {W : World} {bs : Nat} {k v x0 x1 x2 x3 x4 : Int} (h : ActAt14 W bs 0 ⟨k, v, ⟨x0, x1, x2, x3, x4⟩⟩) : Cells7 W bs k v x0 x1 x2 x3 x4 := by
  obtain ⟨d0, d1, d2, d3, d4, d5, d6⟩ := h
  simp only [Nat.zero_add] at d0 d1 d2 d3 d4 d5 d6
  exact ⟨d0, d1, d2, d3, d4, d5, d6⟩

set_option maxRecDepth 100000 in
set_option maxHeartbeats 8000000 in
theorem walk (a : Option Addr) (len cap : Nat) (l : List Act14) (w : World) (hz : l.length = len ∧ (∀ x ∈ l, LmW x.lm) ∧ ActsAt14 w a l ∧ len ≤ maxLen) :
    Calls Try.prog 3 #[.slice a len cap] w fun e w' => e = .returned (.bool true) ∧ Below w.heap.size w w' := by
  obtain ⟨rfl, hwf, hact, hmx⟩ := hz
  have HA := Hid.intro hact
  have HW := Hid.intro hwf
  have AL := Hid.intro (alive14_any w)
  obtain ⟨len, hlen⟩ : ∃ len, len = l.length := ⟨_, rfl⟩
  have HLEN := Hid.intro hlen
  rw [← hlen] at hmx ⊢
  unfold maxLen at hmx
  clear hact hlen hwf
  go_enter Try.func3, Try.ntmps3
  go_wp2_with fail
  refine AL.out.mono ?_
  rintro e w1 ⟨rfl, B1⟩
  have BH := Hid.intro B1
  clear AL B1
  by_cases hl : 100 < len
  · have hl2 : (100 : Int) < (len : Int) := by omega
    go_wp2
    go_ret
    exact ⟨rfl, BH.out⟩
  have hl2 : ¬ (100 : Int) < (len : Int) := by omega
  go_wp2_with fail
  refine (lsee_nil 1 1 1 w1).mono ?_
  rintro e w2 ⟨rfl, B2⟩
  have B2H := Hid.intro (BH.out.trans (B2.mono BH.out.size))
  clear B2 BH
  go_wp2_with fail
  refine (lset_nil ⟨0, 1, 0, 0, 1⟩ w2).mono ?_
  rintro e w3 ⟨rfl, B3⟩
  have B3H := Hid.intro (B2H.out.trans (B3.mono B2H.out.size))
  clear B3 B2H
  go_wp2_with fail
  refine (lon_nil 1 1 w3).mono ?_
  rintro e w4 ⟨rfl, B4⟩
  have B4H := Hid.intro (B3H.out.trans (B4.mono B3H.out.size))
  clear B4 B3H
  go_wp2_with fail
  refine (lbey_nil 1 1 w4).mono ?_
  rintro e w5 ⟨rfl, B5⟩
  have B5H := Hid.intro (B4H.out.trans (B5.mono B4H.out.size))
  clear B5 B4H
  go_wp2_with fail
  refine (ldrop_nil 1 w5).mono ?_
  rintro e w6 ⟨rfl, B6⟩
  have B6H := Hid.intro (B5H.out.trans (B6.mono B5H.out.size))
  clear B6 B5H
  go_wp2_with fail
  refine (llist_nil w6).mono ?_
  rintro e w7 ⟨rfl, B7⟩
  have BH := Hid.intro (B6H.out.trans (B7.mono B6H.out.size))
  clear B7 B6H
  go_wp2_with fail
  refine (lnew_any w7).mono ?_
  rintro e w8 ⟨ta, T, rfl, hS, hF, BN⟩
  have BN2 := (Below.refl w8.heap.size w8).alloc (Nat.le_refl _) (.cells #[.slice none 0 0, .slice none 0 0] 39)
  have TW := Hid.intro (show Twin ta w8.heap.size [] 0 (fun _ => False) w7.heap.size (w8.alloc (.cells #[.slice none 0 0, .slice none 0 0] 39)) from two_new (P := TB ta [] 0) (Q := RB w8.heap.size [] 0) (R := fun _ => False) (tb_owned ta [] 0) hS hF (rnew w8) (fun k hk => by rw [hk]; exact Nat.le_refl _) BN BN2 (Nat.le_refl _) (fun _ q => q.elim))
  have C3 := Hid.intro (show Chg (fun k => w7.heap.size ≤ k) w7 (w8.alloc (.cells #[.slice none 0 0, .slice none 0 0] 39)) from ((below_chg BN).mono (fun _ f _ => f.elim)).trans (below_chg BN2) (fun _ f _ => f.elim))
  clear hS hF BN BN2
  go_wp2_with fail
  generalize w8.alloc (.cells #[.slice none 0 0, .slice none 0 0] 39) = w9 at *
  generalize w8.heap.size = rb at *
  obtain ⟨B7, hB7⟩ : ∃ B7, B7 = w7.heap.size := ⟨_, rfl⟩
  rw [← hB7] at TW C3
  have HB7 := Hid.intro hB7
  clear hB7
  go_loopw [8] (fun iv ws => ∃ (t : Nat) (L : List Kp), t ≤ len ∧ iv = .int .i64 t ∧ Twin ta rb L t (fun _ => False) B7 ws ∧ Chg (fun k => B7 ≤ k) w7 ws) (fun iv _ => len - (intOf iv).toNat)
  case atStart => exact ⟨0, [], by omega, rfl, TW.out, C3.out⟩
  case round =>
    clear TW C3
    obtain ⟨t, L, ht, rfl, hTw, hCh⟩ := hrel
    have TH := Hid.intro hTw
    have CH := Hid.intro hCh
    clear hTw hCh
    by_cases hlt : t < len
    · have hlt' : t < l.length := by rw [← HLEN.out]; exact hlt
      obtain ⟨ab, off, ea, hab, hcell⟩ := HA.out (by omega)
      subst ea
      have s1 := BH.out.size
      have s2 := CH.out.size
      obtain ⟨c0, c1, c2, c3, c4, c5, c6⟩ := ((hcell t hlt').below BH.out).chg CH.out (by have := HB7.out; omega)
      have wf := HW.out l[t] (List.getElem_mem hlt')
      have t0 : (0 : Int) ≤ (t : Int) := by omega
      have t1 : (t : Int) < (len : Int) := by omega
      generalize l[t] = x at *
      obtain ⟨k, vv, ⟨x0, x1, x2, x3, x4⟩⟩ := x
      simp only at c0 c1 c2 c3 c4 c5 c6
      have hx : okO (x0, x1) := ⟨wf.bed, wf.kind⟩
      have BA := (Below.refl wr.heap.size wr).alloc (Nat.le_refl _) (actV k vv x0 x1 x2 x3 x4)
      have xs : (wr.alloc (actV k vv x0 x1 x2 x3 x4)).heap.size = wr.heap.size + 1 := by simp
      have XA := Hid.intro (act_block (heap_alloc_new wr (actV k vv x0 x1 x2 x3 x4)))
      have CA := Hid.intro (CH.out.alloc (actV k vv x0 x1 x2 x3 x4))
      obtain ⟨bs, hbs⟩ : ∃ bs, bs = wr.heap.size := ⟨_, rfl⟩
      have TA := Hid.intro ((TH.out.grow BA).less (G := fun q => q = bs) (fun q hq => .inr (by omega)))
      have SA : Hid (bs < (wr.alloc (actV k vv x0 x1 x2 x3 x4)).heap.size ∧ B7 ≤ (wr.alloc (actV k vv x0 x1 x2 x3 x4)).heap.size) := by
        have := HB7.out
        rw [Hid]
        omega
      rw [← hbs] at XA
      have HBX := Hid.intro hbs
      clear hcell wf BA xs CH hbs TH s1 s2
      by_cases hk0 : k = 0
      · subst hk0
        go_wp2_with fail
        rw [← HBX.out]
        clear c0 c1 c2 c3 c4 c5 c6 HBX
        generalize wr.alloc (actV 0 vv x0 x1 x2 x3 x4) = wa at *
        obtain ⟨d0, d1, d2, d3, d4, d5, d6⟩ := cells7 XA.out
        have KK0 : Hid (∀ W, Chg (fun q => B7 ≤ q ∧ ¬ q = bs) wa W → W.cell? ⟨bs, 2, none⟩ = some (.int .i64 x0) ∧ W.cell? ⟨bs, 3, none⟩ = some (.int .i64 x1) ∧ W.cell? ⟨bs, 4, none⟩ = some (.int .i64 x2) ∧ W.cell? ⟨bs, 5, none⟩ = some (.int .i64 x3) ∧ W.cell? ⟨bs, 6, none⟩ = some (.int .i64 x4)) := fun W hW => ⟨cell_chg hW d2 (fun q => q.2 rfl), cell_chg hW d3 (fun q => q.2 rfl), cell_chg hW d4 (fun q => q.2 rfl), cell_chg hW d5 (fun q => q.2 rfl), cell_chg hW d6 (fun q => q.2 rfl)⟩
        have TD : Twin ta rb L t (fun q => q = bs) B7 wa.drew := TA.out.below (Below.refl _ wa).drew
        have P1 := Hid.intro (Two.call (P' := TB ta (setT L ⟨x0, x1, x2, x3, x4⟩) t) (rb_owned rb L t) TD (fun q hq => by rw [hq]; exact SA.out.1) SA.out.2 (fun S hS => lset_any ta ⟨x0, x1, x2, x3, x4⟩ S L t _ hS))
        have P2 := Hid.intro (fun (W : World) (q : Two (TB ta (setT L ⟨x0, x1, x2, x3, x4⟩) t) (RB rb L t) (fun q => q = bs) B7 W) (hs : wa.heap.size ≤ W.heap.size) => Two.call2 (P' := RB rb (setT L ⟨x0, x1, x2, x3, x4⟩) t) (tb_owned ta _ t) q (fun q hq => by rw [hq]; exact Nat.lt_of_lt_of_le SA.out.1 hs) (Nat.le_trans SA.out.2 hs) (fun S hS => refSet14_any rb ⟨x0, x1, x2, x3, x4⟩ S L t W hS))
        have MA := Hid.intro (lmay_any ⟨x0, x1, x2, x3, x4⟩)
        have MB := Hid.intro (refMay14_any ⟨x0, x1, x2, x3, x4⟩)
        generalize setE L ⟨x0, x1, x2, x3, x4⟩ = se at *
        generalize mayL ⟨x0, x1, x2, x3, x4⟩ = my at *
        have f1 : (se == se) = true := by simp
        have f2 : (my == my) = true := by simp
        clear TD
        go_region_held3 (fun W => W.cell? ⟨bs, 2, none⟩ = some (.int .i64 x0) ∧ W.cell? ⟨bs, 3, none⟩ = some (.int .i64 x1) ∧ W.cell? ⟨bs, 4, none⟩ = some (.int .i64 x2) ∧ W.cell? ⟨bs, 5, none⟩ = some (.int .i64 x3) ∧ W.cell? ⟨bs, 6, none⟩ = some (.int .i64 x4))
          (first | exact KK0.out _ D8 | exact KK0.out _ D7 | exact KK0.out _ D6 | exact KK0.out _ D5 | go_keep)
          (first
            | (go_at_call 11; refine P1.out.mono ?_; rintro e w5 ⟨rfl, T5, C5⟩; have D5 : Chg (fun q => B7 ≤ q ∧ ¬ q = bs) wa w5 := ((Chg.refl _ wa).drew).trans C5 (fun _ q _ => q); clear C5)
            | (go_at_call 17; refine (P2.out w5 T5 D5.size).mono ?_; rintro e w6 ⟨rfl, T6, C6⟩; have D6 : Chg (fun q => B7 ≤ q ∧ ¬ q = bs) wa w6 := D5.trans C6 (fun _ q _ => q); clear C6)
            | (go_at_call 18; refine (MA.out w6).mono ?_; rintro e w7' ⟨rfl, B7'⟩; have D7 : Chg (fun q => B7 ≤ q ∧ ¬ q = bs) wa w7' := D6.trans (below_chg B7') (fun _ f _ => f.elim))
            | (go_at_call 19; refine (MB.out w7').mono ?_; rintro e w8' ⟨rfl, B8'⟩; have D8 : Chg (fun q => B7 ≤ q ∧ ¬ q = bs) wa w8' := D7.trans (below_chg B8') (fun _ f _ => f.elim))
            | fail)
        all_goals
          generalize hY : setT L ⟨x0, x1, x2, x3, x4⟩ = Y at *
          have T8 := Hid.intro ((((show Twin ta rb Y t (fun q => q = bs) B7 w6 from T6).below B7').below B8').more (Nat.le_succ t))
          have X8 := Hid.intro (XA.out.chg D8 (fun q => q.2 rfl))
          have C8 := Hid.intro (CA.out.trans D8 (fun q hq _ => hq.1))
          clear hY T5 T6 D5 D6 D7 D8 B7' B8' KK0 P1 P2 MA MB f1 f2 d0 d1 d2 d3 d4 d5 d6 XA CA TA
          obtain ⟨rao, rc, k1, nR⟩ := T8.out.list
          have NR := Hid.intro nR
          have few := T8.out.ok.few
          have LI := Hid.intro (fun (V : World) (hV : Below w8'.heap.size w8' V) => twin_list (T8.out.below hV))
          have ON := Hid.intro (fun (V : World) (hV : Below w8'.heap.size w8' V) => twin_on x0 x1 hx (T8.out.below hV))
          have RN := Hid.intro (fun (V : World) (hV : Below w8'.heap.size w8' V) => twin_ron x0 x1 (by omega) (T8.out.below hV))
          have BY := Hid.intro (fun (V : World) (hV : Below w8'.heap.size w8' V) => twin_bey x0 x1 hx (T8.out.below hV))
          have RY := Hid.intro (fun (V : World) (hV : Below w8'.heap.size w8' V) => twin_rbey x0 x1 (by omega) (T8.out.below hV))
          have IN : Hid (∀ (V : World) (v9 : Value), Below w8'.heap.size w8' V → LmsAt (fun _ => True) V v9 (listT Y) → Calls Try.prog 22 #[v9, .slice rao Y.length rc] V fun e w' => e = .returned (.bool true) ∧ Below V.heap.size V w') := fun V v9 hB9 h9 => by
            have lo : (listT Y).length ≤ 1000 := by have := T8.out.ok.few; simp only [listT, List.length_map]; omega
            have q := refSame14_any (fun _ => True) (fun _ => True) v9 (.slice rao Y.length rc) (listT Y) (listT Y) lo lo V h9 (NR.out.below hB9)
            rw [decide_eq_true rfl] at q
            exact q
          have z7 := cells7 X8.out
          have KK : Hid (∀ V, Below w8'.heap.size w8' V → V.cell? ⟨bs, 2, none⟩ = some (.int .i64 x0) ∧ V.cell? ⟨bs, 3, none⟩ = some (.int .i64 x1) ∧ V.cell? ⟨rb, 0, none⟩ = some (.slice rao Y.length rc)) := fun V hV => ⟨cell_chg (below_chg hV) z7.2.2.1 id, cell_chg (below_chg hV) z7.2.2.2.1 id, cell_chg (below_chg hV) k1 id⟩
          obtain ⟨z1, z2, z3⟩ := KK.out w8' (Below.refl _ _)
          clear nR z7 k1
          generalize onK Y x0 x1 = onY at *
          generalize beyK Y x0 x1 = byY at *
          obtain ⟨yn, hyn⟩ : ∃ yn, yn = Y.length := ⟨_, rfl⟩
          rw [← hyn] at IN KK z3 few
          clear hyn
          have e1 : (onY != onY) = false := by simp
          have e2 : ((byY : Int) != (byY : Int)) = false := by simp
          go_wp2_with fail
          go_region_held3 (fun V => V.cell? ⟨bs, 2, none⟩ = some (.int .i64 x0) ∧ V.cell? ⟨bs, 3, none⟩ = some (.int .i64 x1) ∧ V.cell? ⟨rb, 0, none⟩ = some (.slice rao yn rc))
            (first | exact KK.out _ E14 | exact KK.out _ E13 | exact KK.out _ E12 | exact KK.out _ E11 | exact KK.out _ E10 | exact KK.out _ E9 | go_keep)
            (first
              | (go_at_call 15; refine (LI.out w8'.drew ((Below.refl _ w8').drew)).mono ?_; rintro e w9 ⟨v9, rfl, n9, B9⟩; have E9 : Below w8'.heap.size w8' w9 := ((Below.refl _ w8').drew).trans B9; clear B9)
              | (go_at_call 22; refine (IN.out w9 v9 E9 n9).mono ?_; rintro e w10 ⟨rfl, B10⟩; have E10 := E9.trans (B10.mono E9.size); clear B10)
              | (go_at_call 12; refine (ON.out w10 E10).mono ?_; rintro e w11 ⟨rfl, B11⟩; have E11 := E10.trans (B11.mono E10.size); clear B11)
              | (go_at_call 23; refine (RN.out w11 E11).mono ?_; rintro e w12 ⟨rfl, B12⟩; have E12 := E11.trans (B12.mono E11.size); clear B12)
              | (go_at_call 13; refine (BY.out w12 E12).mono ?_; rintro e w13 ⟨rfl, B13⟩; have E13 := E12.trans (B13.mono E12.size); clear B13)
              | (go_at_call 24; refine (RY.out w13 E13).mono ?_; rintro e w14 ⟨rfl, B14⟩; have E14 := E13.trans (B14.mono E13.size); clear B14)
              | fail)
          all_goals
            have FT := Hid.intro ((T8.out.below E14).less (G := fun _ => False) (fun _ q => q.elim))
            have FC := Hid.intro (C8.out.trans (below_chg E14) (fun _ f _ => f.elim))
            clear E9 E10 E11 E12 E13 E14 n9 LI IN ON RN BY RY KK z1 z2 z3 e1 e2 NR T8 X8 C8
            go_wp2
            go_roundw
            case rel => exact ⟨t + 1, Y, by omega, by go_num, FT.out, FC.out⟩
            case measure => simp [intOf]; omega
      · have n0 : (k == 0) = false := by simpa using hk0
        by_cases hk1 : k = 1
        · subst hk1
          go_wp2_with fail
          rw [← HBX.out]
          clear c0 c1 c2 c3 c4 c5 c6 HBX
          generalize wr.alloc (actV 1 vv x0 x1 x2 x3 x4) = wa at *
          obtain ⟨d0, d1, d2, d3, d4, d5, d6⟩ := cells7 XA.out
          have KK0 : Hid (∀ W, Chg (fun q => B7 ≤ q ∧ ¬ q = bs) wa W → W.cell? ⟨bs, 2, none⟩ = some (.int .i64 x0)) := fun W hW => cell_chg hW d2 (fun q => q.2 rfl)
          have TD : Twin ta rb L t (fun q => q = bs) B7 wa.drew := TA.out.below (Below.refl _ wa).drew
          have P1 := Hid.intro (Two.call (P' := TB ta (dropT L x0) t) (rb_owned rb L t) TD (fun q hq => by rw [hq]; exact SA.out.1) SA.out.2 (fun S hS => ldrop_any ta x0 S L t _ hS))
          have P2 := Hid.intro (fun (W : World) (q : Two (TB ta (dropT L x0) t) (RB rb L t) (fun q => q = bs) B7 W) (hs : wa.heap.size ≤ W.heap.size) => Two.call2 (P' := RB rb (dropT L x0) t) (tb_owned ta _ t) q (fun q hq => by rw [hq]; exact Nat.lt_of_lt_of_le SA.out.1 hs) (Nat.le_trans SA.out.2 hs) (fun S hS => rdrop_any rb x0 S L t W hS))
          generalize dropN L x0 = dn at *
          have f1 : ((dn : Int) == (dn : Int)) = true := by simp
          clear TD
          go_region_held3 (fun W => W.cell? ⟨bs, 2, none⟩ = some (.int .i64 x0))
            (first | exact KK0.out _ D6 | exact KK0.out _ D5 | go_keep)
            (first
              | (go_at_call 14; refine P1.out.mono ?_; rintro e w5 ⟨rfl, T5, C5⟩; have D5 : Chg (fun q => B7 ≤ q ∧ ¬ q = bs) wa w5 := ((Chg.refl _ wa).drew).trans C5 (fun _ q _ => q); clear C5)
              | (go_at_call 20; refine (P2.out w5 T5 D5.size).mono ?_; rintro e w6 ⟨rfl, T6, C6⟩; have D6 : Chg (fun q => B7 ≤ q ∧ ¬ q = bs) wa w6 := D5.trans C6 (fun _ q _ => q); clear C6)
              | fail)
          all_goals
            generalize hY : dropT L x0 = Y at *
            have T8 := Hid.intro ((show Twin ta rb Y t (fun q => q = bs) B7 w6 from T6).more (Nat.le_succ t))
            have X8 := Hid.intro (XA.out.chg D6 (fun q => q.2 rfl))
            have C8 := Hid.intro (CA.out.trans D6 (fun q hq _ => hq.1))
            clear hY T5 T6 D5 D6 KK0 P1 P2 f1 d0 d1 d2 d3 d4 d5 d6 XA CA TA
            obtain ⟨rao, rc, k1, nR⟩ := T8.out.list
            have NR := Hid.intro nR
            have few := T8.out.ok.few
            have LI := Hid.intro (fun (V : World) (hV : Below w6.heap.size w6 V) => twin_list (T8.out.below hV))
            have ON := Hid.intro (fun (V : World) (hV : Below w6.heap.size w6 V) => twin_on x0 x1 hx (T8.out.below hV))
            have RN := Hid.intro (fun (V : World) (hV : Below w6.heap.size w6 V) => twin_ron x0 x1 (by omega) (T8.out.below hV))
            have BY := Hid.intro (fun (V : World) (hV : Below w6.heap.size w6 V) => twin_bey x0 x1 hx (T8.out.below hV))
            have RY := Hid.intro (fun (V : World) (hV : Below w6.heap.size w6 V) => twin_rbey x0 x1 (by omega) (T8.out.below hV))
            have IN : Hid (∀ (V : World) (v9 : Value), Below w6.heap.size w6 V → LmsAt (fun _ => True) V v9 (listT Y) → Calls Try.prog 22 #[v9, .slice rao Y.length rc] V fun e w' => e = .returned (.bool true) ∧ Below V.heap.size V w') := fun V v9 hB9 h9 => by
              have lo : (listT Y).length ≤ 1000 := by have := T8.out.ok.few; simp only [listT, List.length_map]; omega
              have q := refSame14_any (fun _ => True) (fun _ => True) v9 (.slice rao Y.length rc) (listT Y) (listT Y) lo lo V h9 (NR.out.below hB9)
              rw [decide_eq_true rfl] at q
              exact q
            have z7 := cells7 X8.out
            have KK : Hid (∀ V, Below w6.heap.size w6 V → V.cell? ⟨bs, 2, none⟩ = some (.int .i64 x0) ∧ V.cell? ⟨bs, 3, none⟩ = some (.int .i64 x1) ∧ V.cell? ⟨rb, 0, none⟩ = some (.slice rao Y.length rc)) := fun V hV => ⟨cell_chg (below_chg hV) z7.2.2.1 id, cell_chg (below_chg hV) z7.2.2.2.1 id, cell_chg (below_chg hV) k1 id⟩
            obtain ⟨z1, z2, z3⟩ := KK.out w6 (Below.refl _ _)
            clear nR z7 k1
            generalize onK Y x0 x1 = onY at *
            generalize beyK Y x0 x1 = byY at *
            obtain ⟨yn, hyn⟩ : ∃ yn, yn = Y.length := ⟨_, rfl⟩
            rw [← hyn] at IN KK z3 few
            clear hyn
            have e1 : (onY != onY) = false := by simp
            have e2 : ((byY : Int) != (byY : Int)) = false := by simp
            go_wp2_with fail
            go_region_held3 (fun V => V.cell? ⟨bs, 2, none⟩ = some (.int .i64 x0) ∧ V.cell? ⟨bs, 3, none⟩ = some (.int .i64 x1) ∧ V.cell? ⟨rb, 0, none⟩ = some (.slice rao yn rc))
              (first | exact KK.out _ E14 | exact KK.out _ E13 | exact KK.out _ E12 | exact KK.out _ E11 | exact KK.out _ E10 | exact KK.out _ E9 | go_keep)
              (first
                | (go_at_call 15; refine (LI.out w6.drew ((Below.refl _ w6).drew)).mono ?_; rintro e w9 ⟨v9, rfl, n9, B9⟩; have E9 : Below w6.heap.size w6 w9 := ((Below.refl _ w6).drew).trans B9; clear B9)
                | (go_at_call 22; refine (IN.out w9 v9 E9 n9).mono ?_; rintro e w10 ⟨rfl, B10⟩; have E10 := E9.trans (B10.mono E9.size); clear B10)
                | (go_at_call 12; refine (ON.out w10 E10).mono ?_; rintro e w11 ⟨rfl, B11⟩; have E11 := E10.trans (B11.mono E10.size); clear B11)
                | (go_at_call 23; refine (RN.out w11 E11).mono ?_; rintro e w12 ⟨rfl, B12⟩; have E12 := E11.trans (B12.mono E11.size); clear B12)
                | (go_at_call 13; refine (BY.out w12 E12).mono ?_; rintro e w13 ⟨rfl, B13⟩; have E13 := E12.trans (B13.mono E12.size); clear B13)
                | (go_at_call 24; refine (RY.out w13 E13).mono ?_; rintro e w14 ⟨rfl, B14⟩; have E14 := E13.trans (B14.mono E13.size); clear B14)
                | fail)
            all_goals
              have FT := Hid.intro ((T8.out.below E14).less (G := fun _ => False) (fun _ q => q.elim))
              have FC := Hid.intro (C8.out.trans (below_chg E14) (fun _ f _ => f.elim))
              clear E9 E10 E11 E12 E13 E14 n9 LI IN ON RN BY RY KK z1 z2 z3 e1 e2 NR T8 X8 C8
              go_wp2
              go_roundw
              case rel => exact ⟨t + 1, Y, by omega, by go_num, FT.out, FC.out⟩
              case measure => simp [intOf]; omega
        · have n1 : (k == 1) = false := by simpa using hk1
          by_cases hk2 : k = 2
          · subst hk2
            clear hk0 hk1
            go_wp2_with fail
            rw [← HBX.out]
            clear c0 c1 c2 c3 c4 c5 c6 HBX
            generalize wr.alloc (actV 2 vv x0 x1 x2 x3 x4) = wa at *
            obtain ⟨d0, d1, d2, d3, d4, d5, d6⟩ := cells7 XA.out
            have P1 := Hid.intro (Two.call (P' := TB ta (seeT L x0 x1 vv) (t + 1)) (rb_owned rb L t) TA.out (fun q hq => by rw [hq]; exact SA.out.1) SA.out.2 (fun S hS => lsee_any ta x0 x1 vv hx S L t (by omega) _ hS))
            have P2 := Hid.intro (fun (W : World) (q : Two (TB ta (seeT L x0 x1 vv) (t + 1)) (RB rb L t) (fun q => q = bs) B7 W) (hs : wa.heap.size ≤ W.heap.size) => Two.call2 (P' := RB rb (seeT L x0 x1 vv) (t + 1)) (tb_owned ta _ _) q (fun q hq => by rw [hq]; exact Nat.lt_of_lt_of_le SA.out.1 hs) (Nat.le_trans SA.out.2 hs) (fun S hS => rsee_any rb x0 x1 vv S L t (by omega) W hS))
            generalize onK (seeT L x0 x1 vv) x0 x1 = o2 at P1 P2
            generalize onK L x0 x1 = o1 at P1 P2
            have f1 : (o1 == o1) = true := by simp
            have f2 : (o2 == o2) = true := by simp
            go_wp2_with fail
            refine P1.out.mono ?_
            rintro e w5 ⟨rfl, T5, C5⟩
            have P3 := Hid.intro (P2.out w5 T5 C5.size)
            have X5 := Hid.intro (XA.out.chg C5 (fun q => q.2 rfl))
            have CC5 := Hid.intro (CA.out.trans C5 (fun q hq _ => hq.1))
            clear d0 d1 d2 d3 d4 d5 d6 P1 P2 T5 C5 XA CA TA
            obtain ⟨d0, d1, d2, d3, d4, d5, d6⟩ := cells7 X5.out
            go_wp2_with fail
            refine P3.out.mono ?_
            rintro e w6 ⟨rfl, T6, C6⟩
            generalize hY : seeT L x0 x1 vv = Y at *
            have T8 := Hid.intro (show Twin ta rb Y (t + 1) (fun q => q = bs) B7 w6 from T6)
            have X8 := Hid.intro (X5.out.chg C6 (fun q => q.2 rfl))
            have C8 := Hid.intro (CC5.out.trans C6 (fun q hq _ => hq.1))
            clear hY T6 C6 P3 X5 CC5 d0 d1 d2 d3 d4 d5 d6
            obtain ⟨rao, rc, k1, nR⟩ := T8.out.list
            have NR := Hid.intro nR
            have few := T8.out.ok.few
            have LI := Hid.intro (fun (V : World) (hV : Below w6.heap.size w6 V) => twin_list (T8.out.below hV))
            have ON := Hid.intro (fun (V : World) (hV : Below w6.heap.size w6 V) => twin_on x0 x1 hx (T8.out.below hV))
            have RN := Hid.intro (fun (V : World) (hV : Below w6.heap.size w6 V) => twin_ron x0 x1 (by omega) (T8.out.below hV))
            have BY := Hid.intro (fun (V : World) (hV : Below w6.heap.size w6 V) => twin_bey x0 x1 hx (T8.out.below hV))
            have RY := Hid.intro (fun (V : World) (hV : Below w6.heap.size w6 V) => twin_rbey x0 x1 (by omega) (T8.out.below hV))
            have IN : Hid (∀ (V : World) (v9 : Value), Below w6.heap.size w6 V → LmsAt (fun _ => True) V v9 (listT Y) → Calls Try.prog 22 #[v9, .slice rao Y.length rc] V fun e w' => e = .returned (.bool true) ∧ Below V.heap.size V w') := fun V v9 hB9 h9 => by
              have lo : (listT Y).length ≤ 1000 := by have := T8.out.ok.few; simp only [listT, List.length_map]; omega
              have q := refSame14_any (fun _ => True) (fun _ => True) v9 (.slice rao Y.length rc) (listT Y) (listT Y) lo lo V h9 (NR.out.below hB9)
              rw [decide_eq_true rfl] at q
              exact q
            have z7 := cells7 X8.out
            have KK : Hid (∀ V, Below w6.heap.size w6 V → V.cell? ⟨bs, 2, none⟩ = some (.int .i64 x0) ∧ V.cell? ⟨bs, 3, none⟩ = some (.int .i64 x1) ∧ V.cell? ⟨rb, 0, none⟩ = some (.slice rao Y.length rc)) := fun V hV => ⟨cell_chg (below_chg hV) z7.2.2.1 id, cell_chg (below_chg hV) z7.2.2.2.1 id, cell_chg (below_chg hV) k1 id⟩
            obtain ⟨z1, z2, z3⟩ := KK.out w6 (Below.refl _ _)
            clear nR z7 k1
            generalize onK Y x0 x1 = onY at *
            generalize beyK Y x0 x1 = byY at *
            obtain ⟨yn, hyn⟩ : ∃ yn, yn = Y.length := ⟨_, rfl⟩
            rw [← hyn] at IN KK z3 few
            clear hyn
            have e1 : (onY != onY) = false := by simp
            have e2 : ((byY : Int) != (byY : Int)) = false := by simp
            go_wp2_with fail
            go_region_held3 (fun V => V.cell? ⟨bs, 2, none⟩ = some (.int .i64 x0) ∧ V.cell? ⟨bs, 3, none⟩ = some (.int .i64 x1) ∧ V.cell? ⟨rb, 0, none⟩ = some (.slice rao yn rc))
              (first | exact KK.out _ E14 | exact KK.out _ E13 | exact KK.out _ E12 | exact KK.out _ E11 | exact KK.out _ E10 | exact KK.out _ E9 | go_keep)
              (first
                | (go_at_call 15; refine (LI.out w6.drew ((Below.refl _ w6).drew)).mono ?_; rintro e w9 ⟨v9, rfl, n9, B9⟩; have E9 : Below w6.heap.size w6 w9 := ((Below.refl _ w6).drew).trans B9; clear B9)
                | (go_at_call 22; refine (IN.out w9 v9 E9 n9).mono ?_; rintro e w10 ⟨rfl, B10⟩; have E10 := E9.trans (B10.mono E9.size); clear B10)
                | (go_at_call 12; refine (ON.out w10 E10).mono ?_; rintro e w11 ⟨rfl, B11⟩; have E11 := E10.trans (B11.mono E10.size); clear B11)
                | (go_at_call 23; refine (RN.out w11 E11).mono ?_; rintro e w12 ⟨rfl, B12⟩; have E12 := E11.trans (B12.mono E11.size); clear B12)
                | (go_at_call 13; refine (BY.out w12 E12).mono ?_; rintro e w13 ⟨rfl, B13⟩; have E13 := E12.trans (B13.mono E12.size); clear B13)
                | (go_at_call 24; refine (RY.out w13 E13).mono ?_; rintro e w14 ⟨rfl, B14⟩; have E14 := E13.trans (B14.mono E13.size); clear B14)
                | fail)
            all_goals
              have FT := Hid.intro ((T8.out.below E14).less (G := fun _ => False) (fun _ q => q.elim))
              have FC := Hid.intro (C8.out.trans (below_chg E14) (fun _ f _ => f.elim))
              clear E9 E10 E11 E12 E13 E14 n9 LI IN ON RN BY RY KK z1 z2 z3 e1 e2 NR T8 X8 C8
              go_wp2
              go_roundw
              case rel => exact ⟨t + 1, Y, by omega, by go_num, FT.out, FC.out⟩
              case measure => simp [intOf]; omega
          · have n2 : (k == 2) = false := by simpa using hk2
            clear hk0 hk1 hk2
            go_wp2_with fail
            rw [← HBX.out]
            clear c0 c1 c2 c3 c4 c5 c6 HBX
            generalize wr.alloc (actV k vv x0 x1 x2 x3 x4) = wa at *
            obtain ⟨d0, d1, d2, d3, d4, d5, d6⟩ := cells7 XA.out
            have T8 := Hid.intro (TA.out.more (Nat.le_succ t))
            have X8 := Hid.intro XA.out
            have C8 := Hid.intro CA.out
            clear XA CA TA d1 d2 d3 d4 d5 d6
            generalize L = Y at *
            obtain ⟨rao, rc, k1, nR⟩ := T8.out.list
            have NR := Hid.intro nR
            have few := T8.out.ok.few
            have LI := Hid.intro (fun (V : World) (hV : Below wa.heap.size wa V) => twin_list (T8.out.below hV))
            have ON := Hid.intro (fun (V : World) (hV : Below wa.heap.size wa V) => twin_on x0 x1 hx (T8.out.below hV))
            have RN := Hid.intro (fun (V : World) (hV : Below wa.heap.size wa V) => twin_ron x0 x1 (by omega) (T8.out.below hV))
            have BY := Hid.intro (fun (V : World) (hV : Below wa.heap.size wa V) => twin_bey x0 x1 hx (T8.out.below hV))
            have RY := Hid.intro (fun (V : World) (hV : Below wa.heap.size wa V) => twin_rbey x0 x1 (by omega) (T8.out.below hV))
            have IN : Hid (∀ (V : World) (v9 : Value), Below wa.heap.size wa V → LmsAt (fun _ => True) V v9 (listT Y) → Calls Try.prog 22 #[v9, .slice rao Y.length rc] V fun e w' => e = .returned (.bool true) ∧ Below V.heap.size V w') := fun V v9 hB9 h9 => by
              have lo : (listT Y).length ≤ 1000 := by have := T8.out.ok.few; simp only [listT, List.length_map]; omega
              have q := refSame14_any (fun _ => True) (fun _ => True) v9 (.slice rao Y.length rc) (listT Y) (listT Y) lo lo V h9 (NR.out.below hB9)
              rw [decide_eq_true rfl] at q
              exact q
            have z7 := cells7 X8.out
            have KK : Hid (∀ V, Below wa.heap.size wa V → V.cell? ⟨bs, 2, none⟩ = some (.int .i64 x0) ∧ V.cell? ⟨bs, 3, none⟩ = some (.int .i64 x1) ∧ V.cell? ⟨rb, 0, none⟩ = some (.slice rao Y.length rc)) := fun V hV => ⟨cell_chg (below_chg hV) z7.2.2.1 id, cell_chg (below_chg hV) z7.2.2.2.1 id, cell_chg (below_chg hV) k1 id⟩
            obtain ⟨z1, z2, z3⟩ := KK.out wa (Below.refl _ _)
            clear nR z7 k1
            generalize onK Y x0 x1 = onY at *
            generalize beyK Y x0 x1 = byY at *
            obtain ⟨yn, hyn⟩ : ∃ yn, yn = Y.length := ⟨_, rfl⟩
            rw [← hyn] at IN KK z3 few
            clear hyn
            have e1 : (onY != onY) = false := by simp
            have e2 : ((byY : Int) != (byY : Int)) = false := by simp
            go_wp2_with fail
            go_region_held3 (fun V => V.cell? ⟨bs, 2, none⟩ = some (.int .i64 x0) ∧ V.cell? ⟨bs, 3, none⟩ = some (.int .i64 x1) ∧ V.cell? ⟨rb, 0, none⟩ = some (.slice rao yn rc))
              (first | exact KK.out _ E14 | exact KK.out _ E13 | exact KK.out _ E12 | exact KK.out _ E11 | exact KK.out _ E10 | exact KK.out _ E9 | go_keep)
              (first
                | (go_at_call 15; refine (LI.out wa.drew ((Below.refl _ wa).drew)).mono ?_; rintro e w9 ⟨v9, rfl, n9, B9⟩; have E9 : Below wa.heap.size wa w9 := ((Below.refl _ wa).drew).trans B9; clear B9)
                | (go_at_call 22; refine (IN.out w9 v9 E9 n9).mono ?_; rintro e w10 ⟨rfl, B10⟩; have E10 := E9.trans (B10.mono E9.size); clear B10)
                | (go_at_call 12; refine (ON.out w10 E10).mono ?_; rintro e w11 ⟨rfl, B11⟩; have E11 := E10.trans (B11.mono E10.size); clear B11)
                | (go_at_call 23; refine (RN.out w11 E11).mono ?_; rintro e w12 ⟨rfl, B12⟩; have E12 := E11.trans (B12.mono E11.size); clear B12)
                | (go_at_call 13; refine (BY.out w12 E12).mono ?_; rintro e w13 ⟨rfl, B13⟩; have E13 := E12.trans (B13.mono E12.size); clear B13)
                | (go_at_call 24; refine (RY.out w13 E13).mono ?_; rintro e w14 ⟨rfl, B14⟩; have E14 := E13.trans (B14.mono E13.size); clear B14)
                | fail)
            all_goals
              have FT := Hid.intro ((T8.out.below E14).less (G := fun _ => False) (fun _ q => q.elim))
              have FC := Hid.intro (C8.out.trans (below_chg E14) (fun _ f _ => f.elim))
              clear E9 E10 E11 E12 E13 E14 n9 LI IN ON RN BY RY KK z1 z2 z3 e1 e2 NR T8 X8 C8
              go_wp2
              go_roundw
              case rel => exact ⟨t + 1, Y, by omega, by go_num, FT.out, FC.out⟩
              case measure => simp [intOf]; omega
    · obtain rfl : t = len := by omega
      have t1 : ¬ (t : Int) < (t : Int) := by omega
      have FI : Hid (Below w.heap.size w wr) := BH.out.trans ((CH.out.below (B := w7.heap.size) (Nat.le_refl _) (fun k q => by have := HB7.out; omega)).mono BH.out.size)
      clear TH CH
      go_wp2
      go_ret
      exact ⟨rfl, FI.out⟩

set_option maxRecDepth 100000 in
theorem lifted (os : Os) (started : os.Started) (H : Type) (enc : TypeId × Value → H) :
    ReturnsInHanded {} Try.checked os 3 .any (Rows.limitActsSpec.pre6 enc Try.prog Try.f3 Rows.limitActsRow.domain false) (Rows.limitActsSpec.post enc Try.prog Try.f3 false true false false) := by
  refine returnsInHanded_of_change (C := Try.checked) own started (by kernel_rfl) Try.func3
    (ChangeSpec.witness6 (enc := enc) (C := Try.checked) false ⟨#[], #[.slice none 0 0], []⟩ 8 (by kernel_rfl) (by kernel_rfl) (by kernel_rfl) (by kernel_rfl)) ?_
  intro W base args ds gs before hval0 hW hcnd _
  have hval : ∀ (j : Nat) t v, Try.f3.params[j]? = some t → args[j]? = some v → Value.okWide Try.prog W .any base t v := hval0
  have hW' := hW
  obtain ⟨p, q, hA0, hV, rfl, hfz, hnd⟩ := hW
  have hA : DataW.TrodAll enc Try.prog W 0 (fun _ => true) true Try.f3.params.toList args.toList ds p := hA0
  rw [Try.params3] at hA hval
  obtain ⟨v0, vs0, d0, ds0, p0, q0, hargs, rfl, rfl, h0, r0⟩ := trodAll_cons hA
  obtain ⟨rfl, rfl, rfl⟩ := trodAll_nil r0
  obtain rfl : args = #[v0] := by cases args; simp_all
  obtain ⟨rfl, rfl⟩ := trodVars_none hV
  have k0 := h0
  have lt0 : ∀ x ∈ p0, x.block < W.heap.size := by obtain ⟨m, hm⟩ := k0; exact DataW.trod_lt m _ _ _ hm
  obtain ⟨a0, len0, cap0, rfl⟩ := okWide_slice Try.underlying22 (hval 0 22 v0 rfl rfl)
  obtain ⟨z0, w0⟩ := open_acts h0
  clear hA0 hval0
  refine (walk a0 len0 cap0 z0 W w0).mono fun e W' ⟨he, bel⟩ => ?_
  subst he
  exact ⟨_, rfl, _, _, _, [], _, [], hW', trodAll_mk1 (shut_bool Try.underlying4 _), (trodAll_cons_mk (Below.trod laidOut (by kernel_rfl) (of_decide_eq_true (by kernel_rfl)) k0 bel lt0) trodAll_mk0), rfl, bel.frame _, fun h => by cases h⟩

theorem over : Rows.limitActsRow.holds Try.pinned (OpenSpec.ofChange Rows.limitActsSpec) :=
  OpenClaim.holds_of_wide 3 Try.f3 rfl rfl rfl rfl rfl rfl rfl ⟨rfl, rfl, rfl, rfl, rfl⟩ rfl rfl rfl rfl rfl (by kernel_rfl) Try.func3 (by kernel_rfl)
    (of_decide_eq_true (by kernel_rfl)) (by unfold Func.isWrapper; first | (rw [if_pos (by decide +kernel)]; kernel_rfl) | (rw [if_neg (by decide +kernel)]; exact ⟨rfl, rfl⟩))
    (fun os started H enc _ => lifted os started H enc)

end Go.Proofs.Ytcloneccfbcclaa.LLimitActs

namespace Go.Proofs.Ytcloneccfbcclaa
theorem limitActs_holds : Rows.LimitActsSaid := LLimitActs.over
#print axioms limitActs_holds
end Go.Proofs.Ytcloneccfbcclaa
