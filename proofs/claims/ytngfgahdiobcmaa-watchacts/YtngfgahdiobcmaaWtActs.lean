/- The statement WatchActs: whatever is done, both watches answer alike. -/
import Derived.Test.YtngfgahdiobcmaaWtTwin
import Derived.Test.YtngfgahdiobcmaaWtAlive
import Derived.Test.YtngfgahdiobcmaaWtFew
import Derived.Deep.RegionHeld3
namespace Go.Proofs.Ytngfgahdiobcmaa
open Go.ChangeShapes Go.WideShapes Go.ChangeAt Go.RowKit
open Bt

namespace LWatchActs

set_option maxRecDepth 100000 in
set_option maxHeartbeats 8000000 in
theorem walk (a : Option Addr) (len cap : Nat) (l : List Act15) (w : World) (hz : l.length = len ∧ ActsAt15 w a l ∧ len ≤ maxLen) :
    Calls Try.prog 3 #[.slice a len cap] w fun e w' => e = .returned (.bool true) ∧ Below w.heap.size w w' := by
  obtain ⟨rfl, hact, hmx⟩ := hz
  have HA := Hid.intro hact
  have AL := Hid.intro (alive15_any w)
  have FE : Hid (∀ W, Below w.heap.size w W → Calls Try.prog 10 #[.slice a l.length cap] W fun e w' => e = .returned (.bool (few15B l)) ∧ W = w') := fun W hW => few15_any a cap l W (fun h0 => by
    obtain ⟨b, off, e, hc⟩ := hact h0
    exact ⟨b, off, e, fun i hi => (hc i hi).below hW⟩)
  have FT := Hid.intro (fun (h : few15B l = true) => few15_true h)
  obtain ⟨len, hlen⟩ : ∃ len, len = l.length := ⟨_, rfl⟩
  have HLEN := Hid.intro hlen
  rw [← hlen] at hmx FE ⊢
  unfold maxLen at hmx
  generalize few15B l = fb at *
  clear hact hlen
  go_enter Try.func3, Try.ntmps3
  go_wp2_with fail
  refine AL.out.mono ?_
  rintro e w1 ⟨rfl, B1⟩
  have BH := Hid.intro B1
  have F1 := Hid.intro (FE.out w1 B1)
  clear AL B1 FE
  go_wp2_with fail
  refine F1.out.mono ?_
  rintro e w1' ⟨rfl, rfl⟩
  clear F1
  cases fb with
  | false =>
    go_wp2
    go_ret
    exact ⟨rfl, BH.out⟩
  | true =>
  have hf := FT.out rfl
  have hl : len ≤ 100 := by rw [HLEN.out]; exact hf.1
  have HT := Hid.intro hf.2
  clear FT hf
  go_wp2_with fail
  refine (wadd_nil 1 1 0 w1).mono ?_
  rintro e w2 ⟨rfl, B2⟩
  have B2H := Hid.intro (BH.out.trans (B2.mono BH.out.size))
  clear B2 BH
  go_wp2_with fail
  refine (wrem_nil 1 w2).mono ?_
  rintro e w3 ⟨rfl, B3⟩
  have B3H := Hid.intro (B2H.out.trans (B3.mono B2H.out.size))
  clear B3 B2H
  go_wp2_with fail
  refine (wheard_nil 1 1 w3).mono ?_
  rintro e w4 ⟨rfl, B4⟩
  have B4H := Hid.intro (B3H.out.trans (B4.mono B3H.out.size))
  clear B4 B3H
  go_wp2_with fail
  refine (wlook_nil 9 (tw_small (by omega) (by omega)) w4).mono ?_
  rintro e w5 ⟨v5, rfl, n5, B5⟩
  obtain ⟨a5, c5, rfl⟩ := n5.len
  have B5H := Hid.intro (B4H.out.trans (B5.mono B4H.out.size))
  clear B5 B4H n5
  simp only [List.length_nil]
  go_wp2_with fail
  refine (wlost_nil 1 w5).mono ?_
  rintro e w6 ⟨rfl, B6⟩
  have B6H := Hid.intro (B5H.out.trans (B6.mono B5H.out.size))
  clear B6 B5H
  go_wp2_with fail
  refine (wbeds_nil w6).mono ?_
  rintro e w7 ⟨v7, rfl, n7, B7⟩
  obtain ⟨a7, c7, rfl⟩ := n7.len
  have BH := Hid.intro (B6H.out.trans (B7.mono B6H.out.size))
  clear B7 B6H n7
  simp only [List.length_nil]
  go_wp2_with fail
  refine (wnew_any w7).mono ?_
  rintro e w8 ⟨ta, T, rfl, hS, hF, BN⟩
  have BN2 := (Below.refl w8.heap.size w8).alloc (Nat.le_refl _) (.cells #[.slice none 0 0] 37)
  have TW := Hid.intro (show TwinW ta w8.heap.size [] (fun _ => False) w7.heap.size (w8.alloc (.cells #[.slice none 0 0] 37)) from two_new (P := WS ta []) (Q := WR w8.heap.size []) (R := fun _ => False) (ws_owned ta []) hS hF (wr_new w8) (fun k hk => by rw [hk]; exact Nat.le_refl _) BN BN2 (Nat.le_refl _) (fun _ q => q.elim))
  have C3 := Hid.intro (show Chg (fun k => w7.heap.size ≤ k) w7 (w8.alloc (.cells #[.slice none 0 0] 37)) from ((below_chg BN).mono (fun _ f _ => f.elim)).trans (below_chg BN2) (fun _ f _ => f.elim))
  clear hS hF BN BN2
  go_wp2_with fail
  generalize w8.alloc (.cells #[.slice none 0 0] 37) = w9 at *
  generalize w8.heap.size = rb at *
  obtain ⟨B7, hB7⟩ : ∃ B7, B7 = w7.heap.size := ⟨_, rfl⟩
  rw [← hB7] at TW C3
  have HB7 := Hid.intro hB7
  clear hB7
  go_loopw [6] (fun iv ws => ∃ (t : Nat) (L : List Wb), t ≤ len ∧ iv = .int .i64 t ∧ TwinW ta rb L (fun _ => False) B7 ws ∧ Chg (fun k => B7 ≤ k) w7 ws) (fun iv _ => len - (intOf iv).toNat)
  case atStart => exact ⟨0, [], by omega, rfl, TW.out, C3.out⟩
  case round =>
    clear TW C3
    obtain ⟨t, L, ht, rfl, hTw, hCh⟩ := hrel
    have TH := Hid.intro hTw
    have CH := Hid.intro hCh
    clear hTw hCh
    by_cases hlt : t < len
    · have hlt' : t < l.length := by rw [← HLEN.out]; exact hlt
      obtain ⟨ab, off, ea, hcell⟩ := HA.out (by omega)
      subst ea
      have s1 := BH.out.size
      have s2 := CH.out.size
      have hab : ab < w.heap.size := cell_lt (hcell t hlt').1
      obtain ⟨c0, c1, c2, c3⟩ := ((hcell t hlt').below BH.out).chg CH.out (by have := HB7.out; omega)
      have tm := HT.out l[t] (List.getElem_mem hlt')
      have t0 : (0 : Int) ≤ (t : Int) := by omega
      have t1 : (t : Int) < (len : Int) := by omega
      generalize l[t] = x at *
      obtain ⟨k, x0, x1, x2⟩ := x
      simp only at c0 c1 c2 c3 tm
      have TM := Hid.intro tm
      have BA := (Below.refl wr.heap.size wr).alloc (Nat.le_refl _) (actV15 k x0 x1 x2)
      have xs : (wr.alloc (actV15 k x0 x1 x2)).heap.size = wr.heap.size + 1 := by simp
      have XA := Hid.intro (act15_block (heap_alloc_new wr (actV15 k x0 x1 x2)))
      have CA := Hid.intro (CH.out.alloc (actV15 k x0 x1 x2))
      obtain ⟨bs, hbs⟩ : ∃ bs, bs = wr.heap.size := ⟨_, rfl⟩
      have TA := Hid.intro ((TH.out.grow BA).less (G := fun q => q = bs) (fun q hq => .inr (by omega)))
      have SA : Hid (bs < (wr.alloc (actV15 k x0 x1 x2)).heap.size ∧ B7 ≤ (wr.alloc (actV15 k x0 x1 x2)).heap.size) := by
        have := HB7.out
        rw [Hid]
        omega
      rw [← hbs] at XA
      have HBX := Hid.intro hbs
      clear hcell tm BA xs CH hbs TH s1 s2 hab
      by_cases hk0 : k = 0
      · skip
        subst hk0
        go_wp2_with fail
        rw [← HBX.out]
        clear c0 c1 c2 c3 HBX
        generalize wr.alloc (actV15 0 x0 x1 x2) = wa at *
        obtain ⟨d0, d1, d2, d3⟩ := XA.out
        have KK0 : Hid (∀ W, Chg (fun q => B7 ≤ q ∧ ¬ q = bs) wa W → W.cell? ⟨bs, 1, none⟩ = some (.int .i64 x0) ∧ W.cell? ⟨bs, 2, none⟩ = some (.int .i64 x1) ∧ W.cell? ⟨bs, 3, none⟩ = some (.int .i64 x2)) := fun W hW => ⟨cell_chg hW d1 (fun q => q.2 rfl), cell_chg hW d2 (fun q => q.2 rfl), cell_chg hW d3 (fun q => q.2 rfl)⟩
        have TD : TwinW ta rb L (fun q => q = bs) B7 wa.drew := TA.out.below (Below.refl _ wa).drew
        have P1 := Hid.intro (Two.call (P' := WS ta (addWt L x0 x1 x2)) (wr_owned rb L) TD (fun q hq => by rw [hq]; exact SA.out.1) SA.out.2 (fun S hS => wadd_any ta x0 x1 x2 TM.out S L _ hS))
        have P2 := Hid.intro (fun (W : World) (q : Two (WS ta (addWt L x0 x1 x2)) (WR rb L) (fun q => q = bs) B7 W) (hs : wa.heap.size ≤ W.heap.size) => Two.call2 (P' := WR rb (addWt L x0 x1 x2)) (ws_owned ta _) q (fun q hq => by rw [hq]; exact Nat.lt_of_lt_of_le SA.out.1 hs) (Nat.le_trans SA.out.2 hs) (fun S hS => refAdd15_any rb x0 x1 x2 TM.out S L W hS))
        generalize addWe L x0 x1 = se at *
        have f1 : (se == se) = true := by simp
        clear TD
        go_region_held3 (fun W => W.cell? ⟨bs, 1, none⟩ = some (.int .i64 x0) ∧ W.cell? ⟨bs, 2, none⟩ = some (.int .i64 x1) ∧ W.cell? ⟨bs, 3, none⟩ = some (.int .i64 x2))
          (first | exact KK0.out _ D6 | exact KK0.out _ D5 | go_keep)
          (first
            | (go_at_call 11; refine P1.out.mono ?_; rintro e w5 ⟨rfl, T5, C5⟩; have D5 : Chg (fun q => B7 ≤ q ∧ ¬ q = bs) wa w5 := ((Chg.refl _ wa).drew).trans C5 (fun _ q _ => q); clear C5)
            | (go_at_call 18; refine (P2.out w5 T5 D5.size).mono ?_; rintro e w6 ⟨rfl, T6, C6⟩; have D6 : Chg (fun q => B7 ≤ q ∧ ¬ q = bs) wa w6 := D5.trans C6 (fun _ q _ => q); clear C6)
            | fail)
        all_goals
          generalize hY : addWt L x0 x1 x2 = Y at *
          have T8 := Hid.intro (show TwinW ta rb Y (fun q => q = bs) B7 w6 from T6)
          have X8 := Hid.intro (XA.out.chg D6 (fun q => q.2 rfl))
          have C8 := Hid.intro (CA.out.trans D6 (fun q hq _ => hq.1))
          clear hY T5 T6 D5 D6 KK0 P1 P2 f1 d0 d1 d2 d3 XA CA TA
          have few := T8.out.ok.few
          have LO := Hid.intro (fun (V : World) (hV : Below w6.heap.size w6 V) => twin_lost x0 (T8.out.below hV))
          have RO := Hid.intro (fun (V : World) (hV : Below w6.heap.size w6 V) => twin_rlost x0 (T8.out.below hV))
          have LI := Hid.intro (fun (V : World) (hV : Below w6.heap.size w6 V) => twin_beds (T8.out.below hV))
          have RI := Hid.intro (fun (V : World) (hV : Below w6.heap.size w6 V) => twin_rbeds (T8.out.below hV))
          have IN : Hid (∀ (V : World) (u v : Value), NumsAt (fun _ => True) V u (bedsWb Y) → NumsAt (fun _ => True) V v (bedsWb Y) → Calls Try.prog 21 #[u, v] V fun e w' => e = .returned (.bool true) ∧ Below V.heap.size V w') := fun V u v h1 h2 => by
            have lo : (bedsWb Y).length ≤ 1000 := by unfold bedsWb; rw [List.length_map]; omega
            have q := ints_any (fun _ => True) (fun _ => True) u v (bedsWb Y) (bedsWb Y) lo lo V h1 h2
            rw [decide_eq_true rfl] at q
            exact q
          have z7 := X8.out
          have KK : Hid (∀ V, Below w6.heap.size w6 V → V.cell? ⟨bs, 1, none⟩ = some (.int .i64 x0)) := fun V hV => cell_chg (below_chg hV) z7.2.1 id
          have z1 := KK.out w6 (Below.refl _ _)
          clear z7
          generalize lostWb Y x0 = loY at *
          have e1 : (loY != loY) = false := by simp
          go_wp2_with fail
          go_region_held3 (fun V => V.cell? ⟨bs, 1, none⟩ = some (.int .i64 x0))
            (first | exact KK.out _ E13 | exact KK.out _ E12 | exact KK.out _ E11 | exact KK.out _ E10 | exact KK.out _ E9 | go_keep)
            (first
              | (go_at_call 15; refine (LO.out w6.drew ((Below.refl _ w6).drew)).mono ?_; rintro e w9 ⟨rfl, B9⟩; have E9 : Below w6.heap.size w6 w9 := ((Below.refl _ w6).drew).trans B9; clear B9)
              | (go_at_call 23; refine (RO.out w9 E9).mono ?_; rintro e w10 ⟨rfl, B10⟩; have E10 := E9.trans (B10.mono E9.size); clear B10)
              | (go_at_call 16; refine (LI.out w10 E10).mono ?_; rintro e w11 ⟨v11, rfl, n11, B11⟩; have E11 := E10.trans (B11.mono E10.size); clear B11)
              | (go_at_call 24; refine (RI.out w11 E11).mono ?_; rintro e w12 ⟨v12, rfl, n12, B12⟩; have n11' := n11.below B12; have E12 := E11.trans (B12.mono E11.size); clear B12)
              | (go_at_call 21; refine (IN.out w12 v11 v12 n11' n12).mono ?_; rintro e w13 ⟨rfl, B13⟩; have E13 := E12.trans (B13.mono E12.size); clear B13)
              | fail)
          all_goals
            have FT := Hid.intro ((T8.out.below E13).less (G := fun _ => False) (fun _ q => q.elim))
            have FC := Hid.intro (C8.out.trans (below_chg E13) (fun _ f _ => f.elim))
            clear E9 E10 E11 E12 E13 n11 n11' n12 LO RO LI RI IN KK z1 e1 T8 X8 C8
            go_wp2
            go_roundw
            case rel => exact ⟨t + 1, Y, by omega, by go_num, FT.out, FC.out⟩
            case measure => simp [intOf]; omega
      by_cases hk1 : k = 1
      · skip
        subst hk1
        go_wp2_with fail
        rw [← HBX.out]
        clear c0 c1 c2 c3 HBX
        generalize wr.alloc (actV15 1 x0 x1 x2) = wa at *
        obtain ⟨d0, d1, d2, d3⟩ := XA.out
        have KK0 : Hid (∀ W, Chg (fun q => B7 ≤ q ∧ ¬ q = bs) wa W → W.cell? ⟨bs, 1, none⟩ = some (.int .i64 x0)) := fun W hW => cell_chg hW d1 (fun q => q.2 rfl)
        have TD : TwinW ta rb L (fun q => q = bs) B7 wa.drew := TA.out.below (Below.refl _ wa).drew
        have P1 := Hid.intro (Two.call (P' := WS ta (remWt L x0)) (wr_owned rb L) TD (fun q hq => by rw [hq]; exact SA.out.1) SA.out.2 (fun S hS => wrem_any ta x0 S L _ hS))
        have P2 := Hid.intro (fun (W : World) (q : Two (WS ta (remWt L x0)) (WR rb L) (fun q => q = bs) B7 W) (hs : wa.heap.size ≤ W.heap.size) => Two.call2 (P' := WR rb (remWt L x0)) (ws_owned ta _) q (fun q hq => by rw [hq]; exact Nat.lt_of_lt_of_le SA.out.1 hs) (Nat.le_trans SA.out.2 hs) (fun S hS => refRem15_any rb x0 S L W hS))
        generalize remWe L x0 = se at *
        have f1 : (se == se) = true := by simp
        clear TD
        go_region_held3 (fun W => W.cell? ⟨bs, 1, none⟩ = some (.int .i64 x0))
          (first | exact KK0.out _ D6 | exact KK0.out _ D5 | go_keep)
          (first
            | (go_at_call 12; refine P1.out.mono ?_; rintro e w5 ⟨rfl, T5, C5⟩; have D5 : Chg (fun q => B7 ≤ q ∧ ¬ q = bs) wa w5 := ((Chg.refl _ wa).drew).trans C5 (fun _ q _ => q); clear C5)
            | (go_at_call 19; refine (P2.out w5 T5 D5.size).mono ?_; rintro e w6 ⟨rfl, T6, C6⟩; have D6 : Chg (fun q => B7 ≤ q ∧ ¬ q = bs) wa w6 := D5.trans C6 (fun _ q _ => q); clear C6)
            | fail)
        all_goals
          generalize hY : remWt L x0 = Y at *
          have T8 := Hid.intro (show TwinW ta rb Y (fun q => q = bs) B7 w6 from T6)
          have X8 := Hid.intro (XA.out.chg D6 (fun q => q.2 rfl))
          have C8 := Hid.intro (CA.out.trans D6 (fun q hq _ => hq.1))
          clear hY T5 T6 D5 D6 KK0 P1 P2 f1 d0 d1 d2 d3 XA CA TA
          have few := T8.out.ok.few
          have LO := Hid.intro (fun (V : World) (hV : Below w6.heap.size w6 V) => twin_lost x0 (T8.out.below hV))
          have RO := Hid.intro (fun (V : World) (hV : Below w6.heap.size w6 V) => twin_rlost x0 (T8.out.below hV))
          have LI := Hid.intro (fun (V : World) (hV : Below w6.heap.size w6 V) => twin_beds (T8.out.below hV))
          have RI := Hid.intro (fun (V : World) (hV : Below w6.heap.size w6 V) => twin_rbeds (T8.out.below hV))
          have IN : Hid (∀ (V : World) (u v : Value), NumsAt (fun _ => True) V u (bedsWb Y) → NumsAt (fun _ => True) V v (bedsWb Y) → Calls Try.prog 21 #[u, v] V fun e w' => e = .returned (.bool true) ∧ Below V.heap.size V w') := fun V u v h1 h2 => by
            have lo : (bedsWb Y).length ≤ 1000 := by unfold bedsWb; rw [List.length_map]; omega
            have q := ints_any (fun _ => True) (fun _ => True) u v (bedsWb Y) (bedsWb Y) lo lo V h1 h2
            rw [decide_eq_true rfl] at q
            exact q
          have z7 := X8.out
          have KK : Hid (∀ V, Below w6.heap.size w6 V → V.cell? ⟨bs, 1, none⟩ = some (.int .i64 x0)) := fun V hV => cell_chg (below_chg hV) z7.2.1 id
          have z1 := KK.out w6 (Below.refl _ _)
          clear z7
          generalize lostWb Y x0 = loY at *
          have e1 : (loY != loY) = false := by simp
          go_wp2_with fail
          go_region_held3 (fun V => V.cell? ⟨bs, 1, none⟩ = some (.int .i64 x0))
            (first | exact KK.out _ E13 | exact KK.out _ E12 | exact KK.out _ E11 | exact KK.out _ E10 | exact KK.out _ E9 | go_keep)
            (first
              | (go_at_call 15; refine (LO.out w6.drew ((Below.refl _ w6).drew)).mono ?_; rintro e w9 ⟨rfl, B9⟩; have E9 : Below w6.heap.size w6 w9 := ((Below.refl _ w6).drew).trans B9; clear B9)
              | (go_at_call 23; refine (RO.out w9 E9).mono ?_; rintro e w10 ⟨rfl, B10⟩; have E10 := E9.trans (B10.mono E9.size); clear B10)
              | (go_at_call 16; refine (LI.out w10 E10).mono ?_; rintro e w11 ⟨v11, rfl, n11, B11⟩; have E11 := E10.trans (B11.mono E10.size); clear B11)
              | (go_at_call 24; refine (RI.out w11 E11).mono ?_; rintro e w12 ⟨v12, rfl, n12, B12⟩; have n11' := n11.below B12; have E12 := E11.trans (B12.mono E11.size); clear B12)
              | (go_at_call 21; refine (IN.out w12 v11 v12 n11' n12).mono ?_; rintro e w13 ⟨rfl, B13⟩; have E13 := E12.trans (B13.mono E12.size); clear B13)
              | fail)
          all_goals
            have FT := Hid.intro ((T8.out.below E13).less (G := fun _ => False) (fun _ q => q.elim))
            have FC := Hid.intro (C8.out.trans (below_chg E13) (fun _ f _ => f.elim))
            clear E9 E10 E11 E12 E13 n11 n11' n12 LO RO LI RI IN KK z1 e1 T8 X8 C8
            go_wp2
            go_roundw
            case rel => exact ⟨t + 1, Y, by omega, by go_num, FT.out, FC.out⟩
            case measure => simp [intOf]; omega
      by_cases hk2 : k = 2
      · skip
        subst hk2
        go_wp2_with fail
        rw [← HBX.out]
        clear c0 c1 c2 c3 HBX
        generalize wr.alloc (actV15 2 x0 x1 x2) = wa at *
        obtain ⟨d0, d1, d2, d3⟩ := XA.out
        have KK0 : Hid (∀ W, Chg (fun q => B7 ≤ q ∧ ¬ q = bs) wa W → W.cell? ⟨bs, 1, none⟩ = some (.int .i64 x0) ∧ W.cell? ⟨bs, 3, none⟩ = some (.int .i64 x2)) := fun W hW => ⟨cell_chg hW d1 (fun q => q.2 rfl), cell_chg hW d3 (fun q => q.2 rfl)⟩
        have TD : TwinW ta rb L (fun q => q = bs) B7 wa.drew := TA.out.below (Below.refl _ wa).drew
        have P1 := Hid.intro (Two.call (P' := WS ta (heardWt L x0 x2)) (wr_owned rb L) TD (fun q hq => by rw [hq]; exact SA.out.1) SA.out.2 (fun S hS => wheard_left ta x0 x2 TM.out S L _ hS))
        have P2 := Hid.intro (fun (W : World) (q : Two (WS ta (heardWt L x0 x2)) (WR rb L) (fun q => q = bs) B7 W) (hs : wa.heap.size ≤ W.heap.size) => Two.call2 (P' := WR rb (heardWt L x0 x2)) (ws_owned ta _) q (fun q hq => by rw [hq]; exact Nat.lt_of_lt_of_le SA.out.1 hs) (Nat.le_trans SA.out.2 hs) (fun S hS => refHeard15_any rb x0 x2 TM.out S L W hS))
        generalize lostWb L x0 = se at *
        have f1 : (se == se) = true := by simp
        clear TD
        go_region_held3 (fun W => W.cell? ⟨bs, 1, none⟩ = some (.int .i64 x0) ∧ W.cell? ⟨bs, 3, none⟩ = some (.int .i64 x2))
          (first | exact KK0.out _ D6 | exact KK0.out _ D5 | go_keep)
          (first
            | (go_at_call 13; refine P1.out.mono ?_; rintro e w5 ⟨rfl, T5, C5⟩; have D5 : Chg (fun q => B7 ≤ q ∧ ¬ q = bs) wa w5 := ((Chg.refl _ wa).drew).trans C5 (fun _ q _ => q); clear C5)
            | (go_at_call 20; refine (P2.out w5 T5 D5.size).mono ?_; rintro e w6 ⟨rfl, T6, C6⟩; have D6 : Chg (fun q => B7 ≤ q ∧ ¬ q = bs) wa w6 := D5.trans C6 (fun _ q _ => q); clear C6)
            | fail)
        all_goals
          generalize hY : heardWt L x0 x2 = Y at *
          have T8 := Hid.intro (show TwinW ta rb Y (fun q => q = bs) B7 w6 from T6)
          have X8 := Hid.intro (XA.out.chg D6 (fun q => q.2 rfl))
          have C8 := Hid.intro (CA.out.trans D6 (fun q hq _ => hq.1))
          clear hY T5 T6 D5 D6 KK0 P1 P2 f1 d0 d1 d2 d3 XA CA TA
          have few := T8.out.ok.few
          have LO := Hid.intro (fun (V : World) (hV : Below w6.heap.size w6 V) => twin_lost x0 (T8.out.below hV))
          have RO := Hid.intro (fun (V : World) (hV : Below w6.heap.size w6 V) => twin_rlost x0 (T8.out.below hV))
          have LI := Hid.intro (fun (V : World) (hV : Below w6.heap.size w6 V) => twin_beds (T8.out.below hV))
          have RI := Hid.intro (fun (V : World) (hV : Below w6.heap.size w6 V) => twin_rbeds (T8.out.below hV))
          have IN : Hid (∀ (V : World) (u v : Value), NumsAt (fun _ => True) V u (bedsWb Y) → NumsAt (fun _ => True) V v (bedsWb Y) → Calls Try.prog 21 #[u, v] V fun e w' => e = .returned (.bool true) ∧ Below V.heap.size V w') := fun V u v h1 h2 => by
            have lo : (bedsWb Y).length ≤ 1000 := by unfold bedsWb; rw [List.length_map]; omega
            have q := ints_any (fun _ => True) (fun _ => True) u v (bedsWb Y) (bedsWb Y) lo lo V h1 h2
            rw [decide_eq_true rfl] at q
            exact q
          have z7 := X8.out
          have KK : Hid (∀ V, Below w6.heap.size w6 V → V.cell? ⟨bs, 1, none⟩ = some (.int .i64 x0)) := fun V hV => cell_chg (below_chg hV) z7.2.1 id
          have z1 := KK.out w6 (Below.refl _ _)
          clear z7
          generalize lostWb Y x0 = loY at *
          have e1 : (loY != loY) = false := by simp
          go_wp2_with fail
          go_region_held3 (fun V => V.cell? ⟨bs, 1, none⟩ = some (.int .i64 x0))
            (first | exact KK.out _ E13 | exact KK.out _ E12 | exact KK.out _ E11 | exact KK.out _ E10 | exact KK.out _ E9 | go_keep)
            (first
              | (go_at_call 15; refine (LO.out w6.drew ((Below.refl _ w6).drew)).mono ?_; rintro e w9 ⟨rfl, B9⟩; have E9 : Below w6.heap.size w6 w9 := ((Below.refl _ w6).drew).trans B9; clear B9)
              | (go_at_call 23; refine (RO.out w9 E9).mono ?_; rintro e w10 ⟨rfl, B10⟩; have E10 := E9.trans (B10.mono E9.size); clear B10)
              | (go_at_call 16; refine (LI.out w10 E10).mono ?_; rintro e w11 ⟨v11, rfl, n11, B11⟩; have E11 := E10.trans (B11.mono E10.size); clear B11)
              | (go_at_call 24; refine (RI.out w11 E11).mono ?_; rintro e w12 ⟨v12, rfl, n12, B12⟩; have n11' := n11.below B12; have E12 := E11.trans (B12.mono E11.size); clear B12)
              | (go_at_call 21; refine (IN.out w12 v11 v12 n11' n12).mono ?_; rintro e w13 ⟨rfl, B13⟩; have E13 := E12.trans (B13.mono E12.size); clear B13)
              | fail)
          all_goals
            have FT := Hid.intro ((T8.out.below E13).less (G := fun _ => False) (fun _ q => q.elim))
            have FC := Hid.intro (C8.out.trans (below_chg E13) (fun _ f _ => f.elim))
            clear E9 E10 E11 E12 E13 n11 n11' n12 LO RO LI RI IN KK z1 e1 T8 X8 C8
            go_wp2
            go_roundw
            case rel => exact ⟨t + 1, Y, by omega, by go_num, FT.out, FC.out⟩
            case measure => simp [intOf]; omega
      by_cases hk3 : k = 3
      · skip
        subst hk3
        go_wp2_with fail
        rw [← HBX.out]
        clear c0 c1 c2 c3 HBX
        generalize wr.alloc (actV15 3 x0 x1 x2) = wa at *
        obtain ⟨d0, d1, d2, d3⟩ := XA.out
        have KK0 : Hid (∀ W, Chg (fun q => B7 ≤ q ∧ ¬ q = bs) wa W → W.cell? ⟨bs, 3, none⟩ = some (.int .i64 x2)) := fun W hW => cell_chg hW d3 (fun q => q.2 rfl)
        have TD : TwinW ta rb L (fun q => q = bs) B7 wa.drew := TA.out.below (Below.refl _ wa).drew
        have fewL := TD.ok.few
        have P1 := Hid.intro (twin_look1 x2 TM.out TD)
        have P2 := Hid.intro (fun (W : World) (R : Nat → Prop) (q : Two (WS ta (lookWt L x2)) (WR rb L) R B7 W) => twin_look2 x2 q)
        have IX : Hid (∀ (V : World) (R R' : Nat → Prop) (u v : Value), NumsAt R V u (lookWl L x2) → NumsAt R' V v (lookWl L x2) → Calls Try.prog 21 #[u, v] V fun e w' => e = .returned (.bool true) ∧ Below V.heap.size V w') := fun V R R' u v h1 h2 => by
          have lo : (lookWl L x2).length ≤ 1000 := by have := lookWl_len L x2; omega
          have q := ints_any R R' u v (lookWl L x2) (lookWl L x2) lo lo V h1 h2
          rw [decide_eq_true rfl] at q
          exact q
        clear TD fewL
        go_region_held3 (fun W => W.cell? ⟨bs, 3, none⟩ = some (.int .i64 x2))
          (first | exact KK0.out _ D7 | exact KK0.out _ D6 | exact KK0.out _ D5 | go_keep)
          (first
            | (go_at_call 14; refine P1.out.mono ?_; rintro e w5 ⟨v5', rfl, m5, T5, C5⟩; have D5 : Chg (fun q => B7 ≤ q ∧ ¬ q = bs) wa w5 := ((Chg.refl _ wa).drew).trans C5 (fun _ q _ => q); clear C5)
            | (go_at_call 22; refine (P2.out w5 _ T5).mono ?_; rintro e w6 ⟨v6, rfl, m6, T6, C6⟩; have m5' := m5.kept C6 (fun q hq r => r.2 (.inr hq)); have D6 : Chg (fun q => B7 ≤ q ∧ ¬ q = bs) wa w6 := D5.trans C6 (fun _ q _ => ⟨q.1, fun r => q.2 (.inl r)⟩); clear C6)
            | (go_at_call 21; refine (IX.out w6 _ _ v5' v6 m5' m6).mono ?_; rintro e w7' ⟨rfl, B7'⟩; have D7 : Chg (fun q => B7 ≤ q ∧ ¬ q = bs) wa w7' := D6.trans (below_chg B7') (fun _ f _ => f.elim))
            | fail)
        all_goals
          generalize hY : lookWt L x2 = Y at *
          have T8 := Hid.intro (TwinW.less (G := fun q => q = bs) (TwinW.below (show TwinW ta rb Y _ B7 w6 from T6) B7') (fun q hq => .inl hq))
          have X8 := Hid.intro (XA.out.chg D7 (fun q => q.2 rfl))
          have C8 := Hid.intro (CA.out.trans D7 (fun q hq _ => hq.1))
          clear hY T5 T6 D5 D6 D7 B7' m5 m5' m6 KK0 P1 P2 IX d0 d1 d2 d3 XA CA TA
          have few := T8.out.ok.few
          have LO := Hid.intro (fun (V : World) (hV : Below w7'.heap.size w7' V) => twin_lost x0 (T8.out.below hV))
          have RO := Hid.intro (fun (V : World) (hV : Below w7'.heap.size w7' V) => twin_rlost x0 (T8.out.below hV))
          have LI := Hid.intro (fun (V : World) (hV : Below w7'.heap.size w7' V) => twin_beds (T8.out.below hV))
          have RI := Hid.intro (fun (V : World) (hV : Below w7'.heap.size w7' V) => twin_rbeds (T8.out.below hV))
          have IN : Hid (∀ (V : World) (u v : Value), NumsAt (fun _ => True) V u (bedsWb Y) → NumsAt (fun _ => True) V v (bedsWb Y) → Calls Try.prog 21 #[u, v] V fun e w' => e = .returned (.bool true) ∧ Below V.heap.size V w') := fun V u v h1 h2 => by
            have lo : (bedsWb Y).length ≤ 1000 := by unfold bedsWb; rw [List.length_map]; omega
            have q := ints_any (fun _ => True) (fun _ => True) u v (bedsWb Y) (bedsWb Y) lo lo V h1 h2
            rw [decide_eq_true rfl] at q
            exact q
          have z7 := X8.out
          have KK : Hid (∀ V, Below w7'.heap.size w7' V → V.cell? ⟨bs, 1, none⟩ = some (.int .i64 x0)) := fun V hV => cell_chg (below_chg hV) z7.2.1 id
          have z1 := KK.out w7' (Below.refl _ _)
          clear z7
          generalize lostWb Y x0 = loY at *
          have e1 : (loY != loY) = false := by simp
          go_wp2_with fail
          go_region_held3 (fun V => V.cell? ⟨bs, 1, none⟩ = some (.int .i64 x0))
            (first | exact KK.out _ E13 | exact KK.out _ E12 | exact KK.out _ E11 | exact KK.out _ E10 | exact KK.out _ E9 | go_keep)
            (first
              | (go_at_call 15; refine (LO.out w7'.drew ((Below.refl _ w7').drew)).mono ?_; rintro e w9 ⟨rfl, B9⟩; have E9 : Below w7'.heap.size w7' w9 := ((Below.refl _ w7').drew).trans B9; clear B9)
              | (go_at_call 23; refine (RO.out w9 E9).mono ?_; rintro e w10 ⟨rfl, B10⟩; have E10 := E9.trans (B10.mono E9.size); clear B10)
              | (go_at_call 16; refine (LI.out w10 E10).mono ?_; rintro e w11 ⟨v11, rfl, n11, B11⟩; have E11 := E10.trans (B11.mono E10.size); clear B11)
              | (go_at_call 24; refine (RI.out w11 E11).mono ?_; rintro e w12 ⟨v12, rfl, n12, B12⟩; have n11' := n11.below B12; have E12 := E11.trans (B12.mono E11.size); clear B12)
              | (go_at_call 21; refine (IN.out w12 v11 v12 n11' n12).mono ?_; rintro e w13 ⟨rfl, B13⟩; have E13 := E12.trans (B13.mono E12.size); clear B13)
              | fail)
          all_goals
            have FT := Hid.intro ((T8.out.below E13).less (G := fun _ => False) (fun _ q => q.elim))
            have FC := Hid.intro (C8.out.trans (below_chg E13) (fun _ f _ => f.elim))
            clear E9 E10 E11 E12 E13 n11 n11' n12 LO RO LI RI IN KK z1 e1 T8 X8 C8
            go_wp2
            go_roundw
            case rel => exact ⟨t + 1, Y, by omega, by go_num, FT.out, FC.out⟩
            case measure => simp [intOf]; omega
      have n0 : (k == 0) = false := by simpa using hk0
      have n1 : (k == 1) = false := by simpa using hk1
      have n2 : (k == 2) = false := by simpa using hk2
      have n3 : (k == 3) = false := by simpa using hk3
      clear hk0 hk1 hk2 hk3
      go_wp2_with fail
      rw [← HBX.out]
      clear c0 c1 c2 c3 HBX
      generalize wr.alloc (actV15 k x0 x1 x2) = wa at *
      obtain ⟨d0, d1, d2, d3⟩ := XA.out
      have T8 := Hid.intro TA.out
      have X8 := Hid.intro XA.out
      have C8 := Hid.intro CA.out
      clear XA CA TA d1 d2 d3
      generalize L = Y at *
      have few := T8.out.ok.few
      have LO := Hid.intro (fun (V : World) (hV : Below wa.heap.size wa V) => twin_lost x0 (T8.out.below hV))
      have RO := Hid.intro (fun (V : World) (hV : Below wa.heap.size wa V) => twin_rlost x0 (T8.out.below hV))
      have LI := Hid.intro (fun (V : World) (hV : Below wa.heap.size wa V) => twin_beds (T8.out.below hV))
      have RI := Hid.intro (fun (V : World) (hV : Below wa.heap.size wa V) => twin_rbeds (T8.out.below hV))
      have IN : Hid (∀ (V : World) (u v : Value), NumsAt (fun _ => True) V u (bedsWb Y) → NumsAt (fun _ => True) V v (bedsWb Y) → Calls Try.prog 21 #[u, v] V fun e w' => e = .returned (.bool true) ∧ Below V.heap.size V w') := fun V u v h1 h2 => by
        have lo : (bedsWb Y).length ≤ 1000 := by unfold bedsWb; rw [List.length_map]; omega
        have q := ints_any (fun _ => True) (fun _ => True) u v (bedsWb Y) (bedsWb Y) lo lo V h1 h2
        rw [decide_eq_true rfl] at q
        exact q
      have z7 := X8.out
      have KK : Hid (∀ V, Below wa.heap.size wa V → V.cell? ⟨bs, 1, none⟩ = some (.int .i64 x0)) := fun V hV => cell_chg (below_chg hV) z7.2.1 id
      have z1 := KK.out wa (Below.refl _ _)
      clear z7
      generalize lostWb Y x0 = loY at *
      have e1 : (loY != loY) = false := by simp
      go_wp2_with fail
      go_region_held3 (fun V => V.cell? ⟨bs, 1, none⟩ = some (.int .i64 x0))
        (first | exact KK.out _ E13 | exact KK.out _ E12 | exact KK.out _ E11 | exact KK.out _ E10 | exact KK.out _ E9 | go_keep)
        (first
          | (go_at_call 15; refine (LO.out wa.drew ((Below.refl _ wa).drew)).mono ?_; rintro e w9 ⟨rfl, B9⟩; have E9 : Below wa.heap.size wa w9 := ((Below.refl _ wa).drew).trans B9; clear B9)
          | (go_at_call 23; refine (RO.out w9 E9).mono ?_; rintro e w10 ⟨rfl, B10⟩; have E10 := E9.trans (B10.mono E9.size); clear B10)
          | (go_at_call 16; refine (LI.out w10 E10).mono ?_; rintro e w11 ⟨v11, rfl, n11, B11⟩; have E11 := E10.trans (B11.mono E10.size); clear B11)
          | (go_at_call 24; refine (RI.out w11 E11).mono ?_; rintro e w12 ⟨v12, rfl, n12, B12⟩; have n11' := n11.below B12; have E12 := E11.trans (B12.mono E11.size); clear B12)
          | (go_at_call 21; refine (IN.out w12 v11 v12 n11' n12).mono ?_; rintro e w13 ⟨rfl, B13⟩; have E13 := E12.trans (B13.mono E12.size); clear B13)
          | fail)
      all_goals
        have FT := Hid.intro ((T8.out.below E13).less (G := fun _ => False) (fun _ q => q.elim))
        have FC := Hid.intro (C8.out.trans (below_chg E13) (fun _ f _ => f.elim))
        clear E9 E10 E11 E12 E13 n11 n11' n12 LO RO LI RI IN KK z1 e1 T8 X8 C8
        go_wp2
        go_roundw
        case rel => exact ⟨t + 1, Y, by omega, by go_num, FT.out, FC.out⟩
        case measure => simp [intOf]; omega
    · obtain rfl : t = len := by omega
      have t1 : ¬ (t : Int) < (t : Int) := by omega
      have FI : Hid (Below w.heap.size w wr) := BH.out.trans ((CH.out.below (B := w7.heap.size) (Nat.le_refl _) (fun k q => by have := HB7.out; omega)).mono BH.out.size)
      clear TH CH
      go_wp2
      go_ret
      exact ⟨rfl, FI.out⟩

set_option maxRecDepth 100000 in
theorem lifted (os : Os) (started : os.Started) (H : Type) (enc : TypeId × Value → H) :
    ReturnsInHanded {} Try.checked os 3 .any (Rows.watchActsSpec.pre6 enc Try.prog Try.f3 Rows.watchActsRow.domain false) (Rows.watchActsSpec.post enc Try.prog Try.f3 false true false false) := by
  refine returnsInHanded_of_change (C := Try.checked) own started (by kernel_rfl) Try.func3
    (ChangeSpec.witness6 (enc := enc) (C := Try.checked) false ⟨#[], #[.slice none 0 0], []⟩ 8 (by kernel_rfl) (by kernel_rfl) (by kernel_rfl) (by kernel_rfl)) ?_
  intro W base args ds gs before hval0 hW hcnd _
  have hval : ∀ (j : Nat) t v, Try.f3.params[j]? = some t → args[j]? = some v → Value.okWide Try.prog W .any base t v := hval0
  have hW' := hW
  obtain ⟨p, q, hA0, hV, rfl, hfz, hnd⟩ := hW
  have hA : DataW.TrodAll enc Try.prog W 0 (fun _ => true) true Try.f3.params.toList args.toList ds p := hA0
  rw [Try.params3] at hA hval
  obtain ⟨v0, vs0, d0, ds0, p0, q0, hargs, rfl, rfl, h0, r0⟩ := trodAll_cons hA
  obtain ⟨rfl, rfl, rfl⟩ := trodAll_nil r0
  obtain rfl : args = #[v0] := by cases args; simp_all
  obtain ⟨rfl, rfl⟩ := trodVars_none hV
  have k0 := h0
  have lt0 : ∀ x ∈ p0, x.block < W.heap.size := by obtain ⟨m, hm⟩ := k0; exact DataW.trod_lt m _ _ _ hm
  obtain ⟨a0, len0, cap0, rfl⟩ := okWide_slice Try.underlying22 (hval 0 22 v0 rfl rfl)
  obtain ⟨z0, w0⟩ := open_acts h0
  clear hA0 hval0
  refine (walk a0 len0 cap0 z0 W w0).mono fun e W' ⟨he, bel⟩ => ?_
  subst he
  exact ⟨_, rfl, _, _, _, [], _, [], hW', trodAll_mk1 (shut_bool Try.underlying4 _), (trodAll_cons_mk (Below.trod laidOut (by kernel_rfl) (of_decide_eq_true (by kernel_rfl)) k0 bel lt0) trodAll_mk0), rfl, bel.frame _, fun h => by cases h⟩

theorem over : Rows.watchActsRow.holds Try.pinned (OpenSpec.ofChange Rows.watchActsSpec) :=
  OpenClaim.holds_of_wide 3 Try.f3 rfl rfl rfl rfl rfl rfl rfl ⟨rfl, rfl, rfl, rfl, rfl⟩ rfl rfl rfl rfl rfl (by kernel_rfl) Try.func3 (by kernel_rfl)
    (of_decide_eq_true (by kernel_rfl)) (by unfold Func.isWrapper; first | (rw [if_pos (by decide +kernel)]; kernel_rfl) | (rw [if_neg (by decide +kernel)]; exact ⟨rfl, rfl⟩))
    (fun os started H enc _ => lifted os started H enc)

end Go.Proofs.Ytngfgahdiobcmaa.LWatchActs

namespace Go.Proofs.Ytngfgahdiobcmaa
theorem watchActs_holds : Rows.WatchActsSaid := LWatchActs.over
#print axioms watchActs_holds
end Go.Proofs.Ytngfgahdiobcmaa
