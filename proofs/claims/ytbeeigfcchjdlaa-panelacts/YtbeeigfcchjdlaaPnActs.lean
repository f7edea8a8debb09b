/- The statement PanelActs: whatever is done, both panels answer alike. -/
import Derived.Test.YtbeeigfcchjdlaaPnTwin
import Derived.Deep.RegionHeld3
import Derived.Deep.CutBlock
namespace Go.Proofs.Ytbeeigfcchjdlaa
open Go.ChangeShapes Go.WideShapes Go.ChangeAt Go.RowKit
open Pn

namespace LPanelActs

set_option maxRecDepth 100000 in
set_option maxHeartbeats 8000000 in
theorem walk (a : Option Addr) (len cap : Nat) (l : List Act16) (w : World) (hz : l.length = len ∧ ActsAt16 w a l ∧ len ≤ maxLen) :
    Calls Try.prog 3 #[.slice a len cap] w fun e w' => e = .returned (.bool true) ∧ Below w.heap.size w w' := by
  obtain ⟨rfl, hact, hmx⟩ := hz
  have HA := Hid.intro hact
  have AL := Hid.intro (alive16_any w)
  obtain ⟨len, hlen⟩ : ∃ len, len = l.length := ⟨_, rfl⟩
  have HLEN := Hid.intro hlen
  rw [← hlen] at hmx ⊢
  unfold maxLen at hmx
  clear hact hlen
  by_cases hl : 100 < len
  · have l1 : (100 : Int) < (len : Int) := by omega
    go_enter Try.func3, Try.ntmps3
    go_wp2_with fail
    refine AL.out.mono ?_
    rintro e w1 ⟨rfl, B1⟩
    have BH := Hid.intro B1
    clear AL B1
    go_wp2
    go_ret
    exact ⟨rfl, BH.out⟩
  have l1 : ¬ (100 : Int) < (len : Int) := by omega
  go_enter Try.func3, Try.ntmps3
  go_wp2_with fail
  refine AL.out.mono ?_
  rintro e w1 ⟨rfl, B1⟩
  have BH := Hid.intro B1
  clear AL B1
  go_wp2_with fail
  refine (psil_nil 5 w1).mono ?_
  rintro e w2 ⟨rfl, rfl⟩
  go_wp2_with fail
  refine (praise_nil 1 1 1 w1).mono ?_
  rintro e w2 ⟨rfl, B2⟩
  have B2H := Hid.intro (BH.out.trans (B2.mono BH.out.size))
  clear B2 BH
  go_wp2_with fail
  refine (pclear_nil 1 1 w2).mono ?_
  rintro e w3 ⟨rfl, B3⟩
  have B3H := Hid.intro (B2H.out.trans (B3.mono B2H.out.size))
  clear B3 B2H
  go_wp2_with fail
  refine (pack_nil 1 1 w3).mono ?_
  rintro e w4 ⟨rfl, B4⟩
  have B4H := Hid.intro (B3H.out.trans (B4.mono B3H.out.size))
  clear B4 B3H
  go_wp2_with fail
  refine (psound_nil 9 w4).mono ?_
  rintro e w5 ⟨rfl, B5⟩
  have B5H := Hid.intro (B4H.out.trans (B5.mono B4H.out.size))
  clear B5 B4H
  go_wp2_with fail
  refine (pdrop_nil 1 w5).mono ?_
  rintro e w6 ⟨rfl, B6⟩
  have B6H := Hid.intro (B5H.out.trans (B6.mono B5H.out.size))
  clear B6 B5H
  go_wp2_with fail
  refine (plist_nil w6).mono ?_
  rintro e w7 ⟨rfl, rfl⟩
  have BH := Hid.intro B6H.out
  clear B6H
  go_wp2_with fail
  refine (pnew_any w6).mono ?_
  rintro e w8 ⟨ta, T, rfl, hS, hF, BN⟩
  have BN2 := (Below.refl w8.heap.size w8).alloc (Nat.le_refl _) (.cells #[.slice none 0 0, .int .i64 0] 34)
  have TW := Hid.intro (show TwinP ta w8.heap.size [] 0 (fun _ => False) w6.heap.size (w8.alloc (.cells #[.slice none 0 0, .int .i64 0] 34)) from two_new (P := PK ta [] 0) (Q := PR w8.heap.size [] 0) (R := fun _ => False) (pk_owned ta [] 0) hS hF (po_new 34 42 (by decide) w8) (fun k hk => by rw [hk]; exact Nat.le_refl _) BN BN2 (Nat.le_refl _) (fun _ q => q.elim))
  have C3 := Hid.intro (show Chg (fun k => w6.heap.size ≤ k) w6 (w8.alloc (.cells #[.slice none 0 0, .int .i64 0] 34)) from ((below_chg BN).mono (fun _ f _ => f.elim)).trans (below_chg BN2) (fun _ f _ => f.elim))
  clear hS hF BN BN2
  go_wp2_with fail
  generalize w8.alloc (.cells #[.slice none 0 0, .int .i64 0] 34) = w9 at *
  generalize w8.heap.size = rb at *
  obtain ⟨B7, hB7⟩ : ∃ B7, B7 = w6.heap.size := ⟨_, rfl⟩
  rw [← hB7] at TW C3
  have HB7 := Hid.intro hB7
  clear hB7
  go_loopw [6] (fun iv ws => ∃ (t : Nat) (L : List Al) (u : Int), t ≤ len ∧ iv = .int .i64 t ∧ TwinP ta rb L u (fun _ => False) B7 ws ∧ Chg (fun k => B7 ≤ k) w6 ws) (fun iv _ => len - (intOf iv).toNat)
  case atStart => exact ⟨0, [], 0, by omega, rfl, TW.out, C3.out⟩
  case round =>
    clear TW C3
    obtain ⟨t, L, u, ht, rfl, hTw, hCh⟩ := hrel
    have TH := Hid.intro hTw
    have CH := Hid.intro hCh
    clear hTw hCh
    by_cases hlt : t < len
    · have hlt' : t < l.length := by rw [← HLEN.out]; exact hlt
      obtain ⟨ab, off, ea, hcell⟩ := HA.out (by omega)
      subst ea
      have s1 := BH.out.size
      have s2 := CH.out.size
      have hab : ab < w.heap.size := cell_lt (hcell t hlt').1
      obtain ⟨c0, c1, c2, c3⟩ := ((hcell t hlt').below BH.out).chg CH.out (by have := HB7.out; omega)
      have t0 : (0 : Int) ≤ (t : Int) := by omega
      have t1 : (t : Int) < (len : Int) := by omega
      generalize l[t] = x at *
      obtain ⟨k, x0, x1, x2⟩ := x
      simp only at c0 c1 c2 c3
      have BA := (Below.refl wr.heap.size wr).alloc (Nat.le_refl _) (actV16 k x0 x1 x2)
      have xs : (wr.alloc (actV16 k x0 x1 x2)).heap.size = wr.heap.size + 1 := by simp
      have XA := Hid.intro (act16_block (heap_alloc_new wr (actV16 k x0 x1 x2)))
      have CA := Hid.intro (CH.out.alloc (actV16 k x0 x1 x2))
      obtain ⟨bs, hbs⟩ : ∃ bs, bs = wr.heap.size := ⟨_, rfl⟩
      have TA := Hid.intro ((TH.out.grow BA).less (G := fun q => q = bs) (fun q hq => .inr (by omega)))
      have SA : Hid (bs < (wr.alloc (actV16 k x0 x1 x2)).heap.size ∧ B7 ≤ (wr.alloc (actV16 k x0 x1 x2)).heap.size) := by
        have := HB7.out
        rw [Hid]
        omega
      rw [← hbs] at XA
      have HBX := Hid.intro hbs
      clear hcell BA xs CH hbs TH s1 s2 hab
      go_upto_block 2 with fail
      rw [← HBX.out]
      clear c0 c1 c2 c3 HBX
      generalize wr.alloc (actV16 k x0 x1 x2) = wa at *
      obtain ⟨d0, d1, d2, d3⟩ := XA.out
      go_cut [8] from 40 to 141 (fun sv ws => ∃ (Y : List Al) (v : Int), sv = .bool true ∧ TwinP ta rb Y v (fun q => q = bs) B7 ws ∧ Cells4P ws bs k x0 x1 x2 ∧ Chg (fun q => B7 ≤ q) w6 ws)
      case first =>
        by_cases hk0 : k = 0
        · subst hk0
          have KK0 : Hid (∀ W, Chg (fun q => B7 ≤ q ∧ ¬ q = bs) wa W → W.cell? ⟨bs, 1, none⟩ = some (.int .i64 x0) ∧ W.cell? ⟨bs, 2, none⟩ = some (.int .i64 x1) ∧ W.cell? ⟨bs, 3, none⟩ = some (.int .i64 x2)) := fun W hW => ⟨cell_chg hW d1 (fun q => q.2 rfl), cell_chg hW d2 (fun q => q.2 rfl), cell_chg hW d3 (fun q => q.2 rfl)⟩
          have TD : TwinP ta rb L u (fun q => q = bs) B7 wa.drew := TA.out.below (Below.refl _ wa).drew
          have P1 := Hid.intro (Two.call (P' := PK ta (raiseL L x0 x1 x2) u) (pr_owned rb L u) TD (fun q hq => by rw [hq]; exact SA.out.1) SA.out.2 (fun S hS => praise_any ta x0 x1 x2 S L u _ hS))
          have P2 := Hid.intro (fun (W : World) (q : Two (PK ta (raiseL L x0 x1 x2) u) (PR rb L u) (fun q => q = bs) B7 W) (hs : wa.heap.size ≤ W.heap.size) => Two.call2 (P' := PR rb (raiseL L x0 x1 x2) u) (pk_owned ta _ u) q (fun q hq => by rw [hq]; exact Nat.lt_of_lt_of_le SA.out.1 hs) (Nat.le_trans SA.out.2 hs) (fun S hS => refRaise16_any rb x0 x1 x2 S L u W hS))
          generalize raiseB L x0 x1 = se at *
          have f1 : (se == se) = true := by simp
          clear TD
          go_wp2_with fail
          go_region_held3 (fun W => W.cell? ⟨bs, 1, none⟩ = some (.int .i64 x0) ∧ W.cell? ⟨bs, 2, none⟩ = some (.int .i64 x1) ∧ W.cell? ⟨bs, 3, none⟩ = some (.int .i64 x2))
            (first | exact KK0.out _ D6 | exact KK0.out _ D5 | go_keep)
            (first
              | (go_at_call 11; refine P1.out.mono ?_; rintro e w5 ⟨rfl, T5, C5⟩; have D5 : Chg (fun q => B7 ≤ q ∧ ¬ q = bs) wa w5 := ((Chg.refl _ wa).drew).trans C5 (fun _ q _ => q); clear C5)
              | (go_at_call 18; refine (P2.out w5 T5 D5.size).mono ?_; rintro e w6' ⟨rfl, T6, C6⟩; have D6 : Chg (fun q => B7 ≤ q ∧ ¬ q = bs) wa w6' := D5.trans C6 (fun _ q _ => q); clear C6)
              | fail)
          all_goals
            have T8 := Hid.intro (show TwinP ta rb _ u (fun q => q = bs) B7 w6' from T6)
            have X8 := Hid.intro (XA.out.chg D6 (fun q => q.2 rfl))
            have C8 := Hid.intro (CA.out.trans D6 (fun q hq _ => hq.1))
            clear T5 T6 D5 D6 KK0 P1 P2 d0 d1 d2 d3 XA CA TA
            go_wp2_with fail
            go_meet
            case rel => exact ⟨_, _, by simp, T8.out, X8.out, C8.out⟩
        by_cases hk1 : k = 1
        · subst hk1
          have KK0 : Hid (∀ W, Chg (fun q => B7 ≤ q ∧ ¬ q = bs) wa W → W.cell? ⟨bs, 1, none⟩ = some (.int .i64 x0) ∧ W.cell? ⟨bs, 2, none⟩ = some (.int .i64 x1)) := fun W hW => ⟨cell_chg hW d1 (fun q => q.2 rfl), cell_chg hW d2 (fun q => q.2 rfl)⟩
          have TD : TwinP ta rb L u (fun q => q = bs) B7 wa.drew := TA.out.below (Below.refl _ wa).drew
          have P1 := Hid.intro (Two.call (P' := PK ta (clearL L x0 x1) u) (pr_owned rb L u) TD (fun q hq => by rw [hq]; exact SA.out.1) SA.out.2 (fun S hS => pclear_any ta x0 x1 S L u _ hS))
          have P2 := Hid.intro (fun (W : World) (q : Two (PK ta (clearL L x0 x1) u) (PR rb L u) (fun q => q = bs) B7 W) (hs : wa.heap.size ≤ W.heap.size) => Two.call2 (P' := PR rb (clearL L x0 x1) u) (pk_owned ta _ u) q (fun q hq => by rw [hq]; exact Nat.lt_of_lt_of_le SA.out.1 hs) (Nat.le_trans SA.out.2 hs) (fun S hS => refClear16_any rb x0 x1 S L u W hS))
          generalize clearB L x0 x1 = se at *
          have f1 : (se == se) = true := by simp
          clear TD
          go_wp2_with fail
          go_region_held3 (fun W => W.cell? ⟨bs, 1, none⟩ = some (.int .i64 x0) ∧ W.cell? ⟨bs, 2, none⟩ = some (.int .i64 x1))
            (first | exact KK0.out _ D6 | exact KK0.out _ D5 | go_keep)
            (first
              | (go_at_call 12; refine P1.out.mono ?_; rintro e w5 ⟨rfl, T5, C5⟩; have D5 : Chg (fun q => B7 ≤ q ∧ ¬ q = bs) wa w5 := ((Chg.refl _ wa).drew).trans C5 (fun _ q _ => q); clear C5)
              | (go_at_call 19; refine (P2.out w5 T5 D5.size).mono ?_; rintro e w6' ⟨rfl, T6, C6⟩; have D6 : Chg (fun q => B7 ≤ q ∧ ¬ q = bs) wa w6' := D5.trans C6 (fun _ q _ => q); clear C6)
              | fail)
          all_goals
            have T8 := Hid.intro (show TwinP ta rb _ u (fun q => q = bs) B7 w6' from T6)
            have X8 := Hid.intro (XA.out.chg D6 (fun q => q.2 rfl))
            have C8 := Hid.intro (CA.out.trans D6 (fun q hq _ => hq.1))
            clear T5 T6 D5 D6 KK0 P1 P2 d0 d1 d2 d3 XA CA TA
            go_wp2_with fail
            go_meet
            case rel => exact ⟨_, _, by simp, T8.out, X8.out, C8.out⟩
        by_cases hk2 : k = 2
        · subst hk2
          have KK0 : Hid (∀ W, Chg (fun q => B7 ≤ q ∧ ¬ q = bs) wa W → W.cell? ⟨bs, 1, none⟩ = some (.int .i64 x0) ∧ W.cell? ⟨bs, 2, none⟩ = some (.int .i64 x1)) := fun W hW => ⟨cell_chg hW d1 (fun q => q.2 rfl), cell_chg hW d2 (fun q => q.2 rfl)⟩
          have TD : TwinP ta rb L u (fun q => q = bs) B7 wa.drew := TA.out.below (Below.refl _ wa).drew
          have P1 := Hid.intro (Two.call (P' := PK ta (ackL L x0 x1) u) (pr_owned rb L u) TD (fun q hq => by rw [hq]; exact SA.out.1) SA.out.2 (fun S hS => pack_any ta x0 x1 S L u _ hS))
          have P2 := Hid.intro (fun (W : World) (q : Two (PK ta (ackL L x0 x1) u) (PR rb L u) (fun q => q = bs) B7 W) (hs : wa.heap.size ≤ W.heap.size) => Two.call2 (P' := PR rb (ackL L x0 x1) u) (pk_owned ta _ u) q (fun q hq => by rw [hq]; exact Nat.lt_of_lt_of_le SA.out.1 hs) (Nat.le_trans SA.out.2 hs) (fun S hS => refAck16_any rb x0 x1 S L u W hS))
          generalize ackB L x0 x1 = se at *
          have f1 : (se == se) = true := by simp
          clear TD
          go_wp2_with fail
          go_region_held3 (fun W => W.cell? ⟨bs, 1, none⟩ = some (.int .i64 x0) ∧ W.cell? ⟨bs, 2, none⟩ = some (.int .i64 x1))
            (first | exact KK0.out _ D6 | exact KK0.out _ D5 | go_keep)
            (first
              | (go_at_call 13; refine P1.out.mono ?_; rintro e w5 ⟨rfl, T5, C5⟩; have D5 : Chg (fun q => B7 ≤ q ∧ ¬ q = bs) wa w5 := ((Chg.refl _ wa).drew).trans C5 (fun _ q _ => q); clear C5)
              | (go_at_call 20; refine (P2.out w5 T5 D5.size).mono ?_; rintro e w6' ⟨rfl, T6, C6⟩; have D6 : Chg (fun q => B7 ≤ q ∧ ¬ q = bs) wa w6' := D5.trans C6 (fun _ q _ => q); clear C6)
              | fail)
          all_goals
            have T8 := Hid.intro (show TwinP ta rb _ u (fun q => q = bs) B7 w6' from T6)
            have X8 := Hid.intro (XA.out.chg D6 (fun q => q.2 rfl))
            have C8 := Hid.intro (CA.out.trans D6 (fun q hq _ => hq.1))
            clear T5 T6 D5 D6 KK0 P1 P2 d0 d1 d2 d3 XA CA TA
            go_wp2_with fail
            go_meet
            case rel => exact ⟨_, _, by simp, T8.out, X8.out, C8.out⟩
        by_cases hk3 : k = 3
        · subst hk3
          have KK0 : Hid (∀ W, Chg (fun q => B7 ≤ q ∧ ¬ q = bs) wa W → W.cell? ⟨bs, 1, none⟩ = some (.int .i64 x0)) := fun W hW => cell_chg hW d1 (fun q => q.2 rfl)
          have TD : TwinP ta rb L u (fun q => q = bs) B7 wa.drew := TA.out.below (Below.refl _ wa).drew
          have P1 := Hid.intro (Two.call (P' := PK ta (dropA L x0) u) (pr_owned rb L u) TD (fun q hq => by rw [hq]; exact SA.out.1) SA.out.2 (fun S hS => pdrop_any ta x0 S L u _ hS))
          have P2 := Hid.intro (fun (W : World) (q : Two (PK ta (dropA L x0) u) (PR rb L u) (fun q => q = bs) B7 W) (hs : wa.heap.size ≤ W.heap.size) => Two.call2 (P' := PR rb (dropA L x0) u) (pk_owned ta _ u) q (fun q hq => by rw [hq]; exact Nat.lt_of_lt_of_le SA.out.1 hs) (Nat.le_trans SA.out.2 hs) (fun S hS => refDrop16_any rb x0 S L u W hS))
          generalize ((L.length : Int) - ((dropA L x0).length : Int)) = se at *
          have f1 : (se == se) = true := by simp
          clear TD
          go_wp2_with fail
          go_region_held3 (fun W => W.cell? ⟨bs, 1, none⟩ = some (.int .i64 x0))
            (first | exact KK0.out _ D6 | exact KK0.out _ D5 | go_keep)
            (first
              | (go_at_call 15; refine P1.out.mono ?_; rintro e w5 ⟨rfl, T5, C5⟩; have D5 : Chg (fun q => B7 ≤ q ∧ ¬ q = bs) wa w5 := ((Chg.refl _ wa).drew).trans C5 (fun _ q _ => q); clear C5)
              | (go_at_call 21; refine (P2.out w5 T5 D5.size).mono ?_; rintro e w6' ⟨rfl, T6, C6⟩; have D6 : Chg (fun q => B7 ≤ q ∧ ¬ q = bs) wa w6' := D5.trans C6 (fun _ q _ => q); clear C6)
              | fail)
          all_goals
            have T8 := Hid.intro (show TwinP ta rb _ u (fun q => q = bs) B7 w6' from T6)
            have X8 := Hid.intro (XA.out.chg D6 (fun q => q.2 rfl))
            have C8 := Hid.intro (CA.out.trans D6 (fun q hq _ => hq.1))
            clear T5 T6 D5 D6 KK0 P1 P2 d0 d1 d2 d3 XA CA TA
            go_wp2_with fail
            go_meet
            case rel => exact ⟨_, _, by simp, T8.out, X8.out, C8.out⟩
        by_cases hk4 : k = 4
        · subst hk4
          have KK0 : Hid (∀ W, Chg (fun q => B7 ≤ q ∧ ¬ q = bs) wa W → W.cell? ⟨bs, 3, none⟩ = some (.int .i64 x2)) := fun W hW => cell_chg hW d3 (fun q => q.2 rfl)
          have P1 := Hid.intro (Two.call (P' := PK ta L x2) (pr_owned rb L u) TA.out (fun q hq => by rw [hq]; exact SA.out.1) SA.out.2 (fun S hS => psil_any ta x2 S L u _ hS))
          go_wp2_with fail
          refine P1.out.mono ?_
          rintro e w5 ⟨rfl, T5, D5⟩
          have z3 := KK0.out _ D5
          obtain ⟨⟨q1, q2⟩, q3, q4⟩ := twin_until x2 T5
          have D6 := D5.trans q4 (fun _ q _ => q)
          have T8 := Hid.intro (show TwinP ta rb L x2 (fun q => q = bs) B7 _ from q3)
          have X8 := Hid.intro (XA.out.chg D6 (fun q => q.2 rfl))
          have C8 := Hid.intro (CA.out.trans D6 (fun q hq _ => hq.1))
          clear T5 D5 D6 q3 q4 KK0 P1 d0 d1 d2 d3 XA CA TA
          go_wp2_with fail
          go_meet
          case rel => exact ⟨_, _, rfl, T8.out, X8.out, C8.out⟩
        have n0 : (k == 0) = false := by simpa using hk0
        have n1 : (k == 1) = false := by simpa using hk1
        have n2 : (k == 2) = false := by simpa using hk2
        have n3 : (k == 3) = false := by simpa using hk3
        have n4 : (k == 4) = false := by simpa using hk4
        clear hk0 hk1 hk2 hk3 hk4
        go_wp2_with fail
        go_meet
        case rel => exact ⟨_, _, rfl, TA.out, XA.out, CA.out⟩
      case rest =>
        obtain ⟨Y, v, rfl, hT, hX, hC⟩ := hcut
        clear XA CA TA SA d0 d1 d2 d3
        have T8 := Hid.intro hT
        have C8 := Hid.intro hC
        have few := hT.ok.few
        have z1 := hX.2.2.2
        have KK : Hid (∀ V, Below wc.heap.size wc V → V.cell? ⟨bs, 3, none⟩ = some (.int .i64 x2)) := fun V hV => cell_chg (below_chg hV) hX.2.2.2 id
        clear hT hC hX
        have LI := Hid.intro (fun (V : World) (hV : Below wc.heap.size wc V) => twin_list (T8.out.below hV))
        have RI := Hid.intro (fun (V : World) (hV : Below wc.heap.size wc V) => twin_rlist (T8.out.below hV))
        have SX := Hid.intro (fun (V : World) (hV : Below wc.heap.size wc V) => twin_sound x2 (T8.out.below hV))
        have RX := Hid.intro (fun (V : World) (hV : Below wc.heap.size wc V) => twin_rsound x2 (T8.out.below hV))
        have S0 := Hid.intro (fun (V : World) (hV : Below wc.heap.size wc V) => twin_sound 0 (T8.out.below hV))
        have R0 := Hid.intro (fun (V : World) (hV : Below wc.heap.size wc V) => twin_rsound 0 (T8.out.below hV))
        have SM : Hid (∀ (V : World) (p q : Value), V.ownsRow 0 42 5 p Y.length (acells (sortA Y)) → V.ownsRow 0 42 5 q Y.length (acells (sortA Y)) → Calls Try.prog 22 #[p, q] V fun e w' => e = .returned (.bool true) ∧ Below V.heap.size V w') := fun V p q h1 h2 => by
          rw [← sortA_length Y] at h1 h2
          have r := refSame16_any p q (sortA Y) (sortA Y) (by rw [sortA_length]; omega) (by rw [sortA_length]; omega) V h1 h2
          rw [decide_eq_true rfl] at r
          exact r
        generalize soundA Y v x2 = sx at *
        generalize soundA Y v 0 = s0 at *
        have e1 : (sx != sx) = false := by simp
        have e2 : (s0 != s0) = false := by simp
        go_wp2_with fail
        go_region_held3 (fun V => V.cell? ⟨bs, 3, none⟩ = some (.int .i64 x2))
          (first | exact KK.out _ E15 | exact KK.out _ E14 | exact KK.out _ E13 | exact KK.out _ E12 | exact KK.out _ E11 | exact KK.out _ E10 | exact KK.out _ E9 | go_keep)
          (first
            | (have _ := E14; go_at_call 24; refine (R0.out w14 E14).mono ?_; rintro e w15 ⟨rfl, B15⟩; have E15 := E14.trans (B15.mono E14.size); clear B15)
            | (have _ := E13; go_at_call 14; refine (S0.out w13 E13).mono ?_; rintro e w14 ⟨rfl, B14⟩; have E14 := E13.trans (B14.mono E13.size); clear B14)
            | (have _ := E12; go_at_call 24; refine (RX.out w12 E12).mono ?_; rintro e w13 ⟨rfl, B13⟩; have E13 := E12.trans (B13.mono E12.size); clear B13)
            | (have _ := E11; go_at_call 14; refine (SX.out w11 E11).mono ?_; rintro e w12 ⟨rfl, B12⟩; have E12 := E11.trans (B12.mono E11.size); clear B12)
            | (go_at_call 22; refine (SM.out w10 _ _ o9 N10.own).mono ?_; rintro e w11 ⟨rfl, B11⟩; have E11 := E10.trans (B11.mono E10.size); clear B11)
            | (go_at_call 23; refine (RI.out w9 E9).mono ?_; rintro e w10 ⟨v10, rfl, N10⟩; have E10 := E9.trans (N10.below.mono E9.size); have o9 := ownsRow_keep N9.own (fun q hq => N10.below.block q (World.ownsRow.lt N9.own q hq).2))
            | (go_at_call 16; refine (LI.out wc.drew ((Below.refl _ wc).drew)).mono ?_; rintro e w9 ⟨v9, rfl, N9⟩; have E9 : Below wc.heap.size wc w9 := ((Below.refl _ wc).drew).trans N9.below)
            | fail)
        all_goals
          have FT := Hid.intro ((T8.out.below E15).less (G := fun _ => False) (fun _ q => q.elim))
          have FC := Hid.intro (C8.out.trans (below_chg E15) (fun _ f _ => f.elim))
          clear E9 E10 E11 E12 E13 E14 E15 N9 N10 o9 LI RI SX RX S0 R0 SM KK z1 e1 e2 T8 C8
          go_wp2
          go_roundw
          case rel => exact ⟨t + 1, Y, v, by omega, by go_num, FT.out, FC.out⟩
          case measure => simp [intOf]; omega
    · obtain rfl : t = len := by omega
      have t1 : ¬ (t : Int) < (t : Int) := by omega
      have FI : Hid (Below w.heap.size w wr) := BH.out.trans ((CH.out.below (B := w6.heap.size) (Nat.le_refl _) (fun k q => by have := HB7.out; omega)).mono BH.out.size)
      clear TH CH
      go_wp2
      go_ret
      exact ⟨rfl, FI.out⟩

set_option maxRecDepth 100000 in
theorem lifted (os : Os) (started : os.Started) (H : Type) (enc : TypeId × Value → H) :
    ReturnsInHanded {} Try.checked os 3 .any (Rows.panelActsSpec.pre6 enc Try.prog Try.f3 Rows.panelActsRow.domain false) (Rows.panelActsSpec.post enc Try.prog Try.f3 false true false false) := by
  refine returnsInHanded_of_change (C := Try.checked) own started (by kernel_rfl) Try.func3
    (ChangeSpec.witness6 (enc := enc) (C := Try.checked) false ⟨#[], #[.slice none 0 0], []⟩ 8 (by kernel_rfl) (by kernel_rfl) (by kernel_rfl) (by kernel_rfl)) ?_
  intro W base args ds gs before hval0 hW hcnd _
  have hval : ∀ (j : Nat) t v, Try.f3.params[j]? = some t → args[j]? = some v → Value.okWide Try.prog W .any base t v := hval0
  have hW' := hW
  obtain ⟨p, q, hA0, hV, rfl, hfz, hnd⟩ := hW
  have hA : DataW.TrodAll enc Try.prog W 0 (fun _ => true) true Try.f3.params.toList args.toList ds p := hA0
  rw [Try.params3] at hA hval
  obtain ⟨v0, vs0, d0, ds0, p0, q0, hargs, rfl, rfl, h0, r0⟩ := trodAll_cons hA
  obtain ⟨rfl, rfl, rfl⟩ := trodAll_nil r0
  obtain rfl : args = #[v0] := by cases args; simp_all
  obtain ⟨rfl, rfl⟩ := trodVars_none hV
  have k0 := h0
  have lt0 : ∀ x ∈ p0, x.block < W.heap.size := by obtain ⟨m, hm⟩ := k0; exact DataW.trod_lt m _ _ _ hm
  obtain ⟨a0, len0, cap0, rfl⟩ := okWide_slice Try.underlying22 (hval 0 22 v0 rfl rfl)
  obtain ⟨z0, w0⟩ := open_acts h0
  clear hA0 hval0
  refine (walk a0 len0 cap0 z0 W w0).mono fun e W' ⟨he, bel⟩ => ?_
  subst he
  exact ⟨_, rfl, _, _, _, [], _, [], hW', trodAll_mk1 (shut_bool Try.underlying4 _), (trodAll_cons_mk (Below.trod laidOut (by kernel_rfl) (of_decide_eq_true (by kernel_rfl)) k0 bel lt0) trodAll_mk0), rfl, bel.frame _, fun h => by cases h⟩

theorem over : Rows.panelActsRow.holds Try.pinned (OpenSpec.ofChange Rows.panelActsSpec) :=
  OpenClaim.holds_of_wide 3 Try.f3 rfl rfl rfl rfl rfl rfl rfl ⟨rfl, rfl, rfl, rfl, rfl⟩ rfl rfl rfl rfl rfl (by kernel_rfl) Try.func3 (by kernel_rfl)
    (of_decide_eq_true (by kernel_rfl)) (by unfold Func.isWrapper; first | (rw [if_pos (by decide +kernel)]; kernel_rfl) | (rw [if_neg (by decide +kernel)]; exact ⟨rfl, rfl⟩))
    (fun os started H enc _ => lifted os started H enc)

end Go.Proofs.Ytbeeigfcchjdlaa.LPanelActs

namespace Go.Proofs.Ytbeeigfcchjdlaa
theorem panelActs_holds : Rows.PanelActsSaid := LPanelActs.over
#print axioms panelActs_holds
end Go.Proofs.Ytbeeigfcchjdlaa
