/- The statement ShedActs: the controller answers as the document's own does, whatever the acts. -/
import Derived.Test.YthfmgdhhjnngaaaShAlive
import Derived.Test.YthfmgdhhjnngaaaShArg
import Derived.Test.YthfmgdhhjnngaaaShTwo
import Derived.Test.YthfmgdhhjnngaaaIntsA
import Derived.Deep.RegionHeld3
namespace Go.Proofs.Ythfmgdhhjnngaaa
open Go.ChangeShapes Go.WideShapes Go.ChangeAt Go.RowKit Go.Joins
open Bt

namespace LShedActs

set_option maxRecDepth 100000 in
set_option maxHeartbeats 4000000 in
theorem walk_main (calm : Int) (ao : Option Addr) (c : Nat) (l : List Act13) (w : World) (h : ActsAt13 w ao l) :
    Calls Try.prog 3 #[.int .i64 calm, .slice ao l.length c] w fun e w' => e = .returned (.bool true) ∧ Below w.heap.size w w' := by
  have AL := Hid.intro (alive13_any w)
  have HS := Hid.intro h
  obtain ⟨L, hL⟩ : ∃ L, L = l.length := ⟨_, rfl⟩
  have HL' := Hid.intro hL
  rw [← hL]
  clear hL h
  by_cases h100 : (100 : Int) < (L : Int)
  · go_enter Try.func3, Try.ntmps3
    go_wp2_with fail
    refine AL.out.mono ?_
    rintro e w1 ⟨rfl, B1⟩
    have BH := Hid.intro B1
    clear AL B1
    go_wp2
    go_ret
    exact ⟨rfl, BH.out⟩
  have hL100 : L ≤ 100 := by omega
  by_cases hc : calm < 1 ∨ 1000 < calm
  · have NN := Hid.intro (hnew_no calm hc)
    have NILS : ∀ (d : Bool), d = decide (calm < 1) → Calls Try.prog 3 #[.int .i64 calm, .slice ao L c] w fun e w' => e = .returned (.bool true) ∧ Below w.heap.size w w' := fun d hd => by
      by_cases hc1 : calm < 1
      all_goals
        have hc2 : ¬ calm < 1 → 1000 < calm := fun q => by omega
        (try have hc3 := hc2 hc1)
        clear hc2
        go_enter Try.func3, Try.ntmps3
        go_wp2_with fail
        refine AL.out.mono ?_
        rintro e w1 ⟨rfl, B1⟩
        have BH := Hid.intro B1
        clear AL B1
        go_wp2_with fail
        refine (NN.out w1).mono ?_
        rintro e w2 ⟨rfl, B2⟩
        have B2H := Hid.intro (BH.out.trans (B2.mono BH.out.size))
        clear NN BH B2
        go_wp2_with fail
        refine (hadd_nil 1 1 w2).mono ?_
        rintro e w3 ⟨rfl, B3⟩
        have B3H := Hid.intro (B2H.out.trans (B3.mono B2H.out.size))
        clear B2H B3
        go_wp2_with fail
        refine (hremove_nil 1 w3).mono ?_
        rintro e w4 ⟨rfl, B4⟩
        have B4H := Hid.intro (B3H.out.trans (B4.mono B3H.out.size))
        clear B3H B4
        go_wp2_with fail
        refine (htick_nil true w4).mono ?_
        rintro e w5 ⟨rfl, B5⟩
        have B5H := Hid.intro (B4H.out.trans (B5.mono B4H.out.size))
        clear B4H B5
        go_wp2_with fail
        refine (hlevel_nil 1 w5).mono ?_
        rintro e w6 ⟨rfl, B6⟩
        have B6H := Hid.intro (B5H.out.trans (B6.mono B5H.out.size))
        clear B5H B6
        go_wp2_with fail
        refine (horder_nil w6).mono ?_
        rintro e w7 ⟨rfl, B7⟩
        have B7H := Hid.intro (B6H.out.trans (B7.mono B6H.out.size))
        clear B6H B7
        go_wp2_with fail
        refine (hcalm_nil w7).mono ?_
        rintro e w8 ⟨rfl, B8⟩
        have B8H := Hid.intro (B7H.out.trans (B8.mono B7H.out.size))
        clear B7H B8
        go_wp2
        go_ret
        exact ⟨rfl, B8H.out⟩
    exact NILS _ rfl
  obtain ⟨C, rfl⟩ := Int.eq_ofNat_of_zero_le (show 0 ≤ calm by omega)
  have hC1 : 1 ≤ C := by omega
  have hC2 : C ≤ 1000 := by omega
  have NY := Hid.intro (hnew_yes C hC1 hC2)
  have cn1 : ¬ (C : Int) < 1 := by omega
  have cn2 : ¬ (1000 : Int) < (C : Int) := by omega
  clear hc
  go_enter Try.func3, Try.ntmps3
  go_wp2_with fail
  refine AL.out.mono ?_
  rintro e w1 ⟨rfl, B1⟩
  have B1H := Hid.intro B1
  clear AL B1
  go_wp2_with fail
  refine (NY.out w1).mono ?_
  rintro e w2 ⟨a, F, rfl, hS, hF, B2⟩
  have Q2 := Hid.intro (twoh_new (B := w1.heap.size) (w := w1) (Nat.le_refl _) hS hF B2 rfl)
  have O2 := Hid.intro (B2.alloc B2.size (.cells #[.int .i64 (C : Int), .int .i64 0, .slice none 0 0, .slice none 0 0, .slice none 0 0] 36))
  clear NY hS hF B2
  go_wp2_with fail
  generalize w2.alloc (.cells #[.int .i64 (C : Int), .int .i64 0, .slice none 0 0, .slice none 0 0, .slice none 0 0] 36) = w3 at *
  generalize w2.heap.size = rb at *
  go_loopw [7] (fun iv ws => ∃ (t : Nat) (X : Ctl), t ≤ L ∧ iv = .int .i64 t ∧ TwoH (fun _ => False) w1.heap.size ws a rb X X ∧ Below w1.heap.size w1 ws) (fun iv _ => L - (intOf iv).toNat)
  case atStart => exact ⟨0, _, by omega, rfl, Q2.out, O2.out⟩
  case round =>
    clear Q2 O2
    obtain ⟨t, X, ht, rfl, hQ, hB⟩ := hrel
    have QH := Hid.intro hQ
    have BH := Hid.intro hB
    clear hQ hB
    by_cases hlt : t < L
    · have hlt' : t < l.length := by rw [← HL'.out]; exact hlt
      have t0 : (0 : Int) ≤ (t : Int) := by omega
      have t1 : (t : Int) < (L : Int) := by omega
      obtain ⟨pb, off, rfl, hcc⟩ := HS.out (by omega)
      have J := ((hcc t hlt').below B1H.out).below BH.out
      generalize l[t] = ac at *
      obtain ⟨kd, bd, pr⟩ := ac
      obtain ⟨d0, d1, d2⟩ := J
      simp only at d0 d1 d2
      clear hcc
      have BA := (Below.refl _ wr).alloc (Nat.le_refl _) (.cells #[.int .i64 kd, .int .i64 bd, .int .i64 pr] 38)
      have bA := heap_alloc_new wr (.cells #[.int .i64 kd, .int .i64 bd, .int .i64 pr] 38)
      have sA := lt_of_heap bA
      obtain ⟨bs, hbs⟩ : ∃ bs, bs = wr.heap.size := ⟨_, rfl⟩
      have TA := Hid.intro ((QH.out.grow BA).less (G := fun k => k = bs) (fun k q => .inr (by omega)))
      have BBH := Hid.intro (BH.out.trans (BA.mono BH.out.size))
      rw [← hbs] at bA sA
      have HBX := Hid.intro hbs
      have SA := Hid.intro sA
      have bAH := Hid.intro bA
      clear BA hbs sA bA QH BH
      by_cases e0 : kd = 0
      · subst e0
        go_wp2_with fail
        rw [← HBX.out]
        clear d0 d1 d2 HBX
        generalize wr.alloc (.cells #[.int .i64 0, .int .i64 bd, .int .i64 pr] 38) = wa at *
        have a1 : wa.cell? ⟨bs, 1, none⟩ = some (.int .i64 bd) := by rw [cell_of_row _ _ 1 _ _ _ bAH.out]; rfl
        have a2 : wa.cell? ⟨bs, 2, none⟩ = some (.int .i64 pr) := by rw [cell_of_row _ _ 2 _ _ _ bAH.out]; rfl
        clear bAH
        have KK0 : Hid (∀ W, Chg (fun k => w1.heap.size ≤ k ∧ ¬ k = bs) wa W → W.cell? ⟨bs, 1, none⟩ = some (.int .i64 bd) ∧ W.cell? ⟨bs, 2, none⟩ = some (.int .i64 pr)) := fun W hW => ⟨cell_chg hW a1 (fun q => q.2 rfl), cell_chg hW a2 (fun q => q.2 rfl)⟩
        have PU := Hid.intro (t_add bd pr (TA.out.below (Below.refl _ wa).drew) (fun k q => by rw [q]; exact SA.out) BBH.out.size)
        have RP := Hid.intro (fun (W : World) (q : TwoH (fun k => k = bs) w1.heap.size W a rb (addC X bd pr) X) (hs : wa.heap.size ≤ W.heap.size) => t_radd bd pr q (fun k q => by rw [q]; exact Nat.lt_of_lt_of_le SA.out hs) (Nat.le_trans BBH.out.size hs))
        generalize addE X bd = pe at *
        have pep : (pe == pe) = true := by simp
        go_region_held3 (fun W => W.cell? ⟨bs, 1, none⟩ = some (.int .i64 bd) ∧ W.cell? ⟨bs, 2, none⟩ = some (.int .i64 pr))
          (first | exact KK0.out _ D6 | exact KK0.out _ D5 | go_keep)
          (first
            | (go_at_call 11; refine PU.out.mono ?_; rintro e w5 ⟨rfl, T5, C5⟩; have D5 : Chg (fun k => w1.heap.size ≤ k ∧ ¬ k = bs) wa w5 := ((Chg.refl _ wa).drew).trans C5 (fun _ q _ => q); clear C5)
            | (go_at_call 17; refine (RP.out w5 T5 D5.size).mono ?_; rintro e w6 ⟨rfl, T6, C6⟩; have D6 : Chg (fun k => w1.heap.size ≤ k ∧ ¬ k = bs) wa w6 := D5.trans C6 (fun _ q _ => q); clear C6)
            | fail)
        all_goals
          generalize addC X bd pr = Y at *
          have a1' := (KK0.out w6 D6).1
          have T8 := Hid.intro T6
          have B8 := Hid.intro (BBH.out.trans (D6.below BBH.out.size (fun k hk => hk.1)))
          clear T5 T6 D5 D6 KK0 PU RP a1 a2 TA BBH SA
          have okX := Hid.intro T8.out.okX
          obtain ⟨rab, ral, rcb, rcl, k1, k2, k4, nR, rows⟩ := T8.out.seen
          have NR := Hid.intro nR
          have ROWS := Hid.intro rows
          have few := okX.out.few
          have LV := Hid.intro (fun (V : World) (hV : Below w6.heap.size w6 V) => t_lev bd (T8.out.below hV))
          have RL := Hid.intro (fun (V : World) (hV : Below w6.heap.size w6 V) => t_rlev bd (T8.out.below hV))
          have OD := Hid.intro (fun (V : World) (hV : Below w6.heap.size w6 V) => t_order (T8.out.below hV))
          have CM := Hid.intro (fun (V : World) (hV : Below w6.heap.size w6 V) => t_calm (T8.out.below hV))
          have IN : Hid (∀ (V : World) (v9 : Value) (R9 : Nat → Prop), Below w6.heap.size w6 V → NumsAt R9 V v9 (ordS Y) → Calls Try.prog 21 #[v9, .slice rab Y.beds.length rcb] V fun e w' => e = .returned (.bool true) ∧ Below V.heap.size V w') := fun V v9 R9 hB9 h9 => by
            have lo : (ordS Y).length ≤ 1000 := by have := okX.out.few; simp only [ordS, List.length_map]; omega
            have q := ints_any R9 (fun _ => True) v9 (.slice rab Y.beds.length rcb) (ordS Y) (ordS Y) lo lo V h9 (NR.out.below hB9)
            rw [decide_eq_true rfl] at q
            exact q
          have KK : Hid (∀ V, Below w6.heap.size w6 V → V.cell? ⟨bs, 1, none⟩ = some (.int .i64 bd) ∧ V.cell? ⟨rb, 1, none⟩ = some (.int .i64 (Y.calm : Int)) ∧ V.cell? ⟨rb, 2, none⟩ = some (.slice rab Y.beds.length rcb)) := fun V hV => ⟨cell_chg (below_chg hV) a1' id, cell_chg (below_chg hV) k1 id, cell_chg (below_chg hV) k2 id⟩
          obtain ⟨z1, z2, z3⟩ := KK.out w6 (Below.refl _ _)
          clear nR rows
          generalize levS Y bd = lvY at *
          generalize hyc : Y.calm = yc at *
          obtain ⟨yn, hyn⟩ : ∃ yn, yn = Y.beds.length := ⟨_, rfl⟩
          rw [← hyn] at k2 k4 IN KK z3 few
          have HYN : Hid (Y.beds.length = yn) := hyn.symm
          clear hyn hyc
          have e1 : ((lvY : Int) != (lvY : Int)) = false := by simp
          have e2 : ((yc : Int) != (yc : Int)) = false := by simp
          go_wp2_with fail
          go_region_held3 (fun V => V.cell? ⟨bs, 1, none⟩ = some (.int .i64 bd) ∧ V.cell? ⟨rb, 1, none⟩ = some (.int .i64 (yc : Int)) ∧ V.cell? ⟨rb, 2, none⟩ = some (.slice rab yn rcb))
            (first | exact KK.out _ E13 | exact KK.out _ E12 | exact KK.out _ E11 | exact KK.out _ E10 | exact KK.out _ E9 | go_keep)
            (first
              | (go_at_call 14; refine (LV.out w6.drew ((Below.refl _ w6).drew)).mono ?_; rintro e w9 ⟨rfl, B9⟩; have E9 : Below w6.heap.size w6 w9 := ((Below.refl _ w6).drew).trans B9; clear B9)
              | (go_at_call 20; refine (RL.out w9 E9).mono ?_; rintro e w10 ⟨rfl, B10⟩; have E10 := E9.trans (B10.mono E9.size); clear B10)
              | (go_at_call 15; refine (OD.out w10 E10).mono ?_; rintro e w11 ⟨v11, rfl, n11, B11⟩; have E11 := E10.trans (B11.mono E10.size); clear B11)
              | (go_at_call 21; refine (IN.out w11 v11 _ E11 n11).mono ?_; rintro e w12 ⟨rfl, B12⟩; have E12 := E11.trans (B12.mono E11.size); clear B12)
              | (go_at_call 16; refine (CM.out w12 E12).mono ?_; rintro e w13 ⟨rfl, B13⟩; have E13 := E12.trans (B13.mono E12.size); clear B13)
              | fail)
          all_goals
            have E13H := Hid.intro E13
            clear E9 E10 E11 E12 E13 n11 LV RL OD CM IN KK z1 z2 z3 a1' e1 e2 k1 NR
            go_wp2_with fail
            generalize wr = wx at *
            go_loopw [10] (fun iv ws => ∃ r : Nat, r ≤ yn ∧ iv = .int .i64 r ∧ Below w6.heap.size w6 ws) (fun iv _ => yn - (intOf iv).toNat)
            case atStart => exact ⟨0, by omega, rfl, E13H.out⟩
            case round =>
              clear E13H
              obtain ⟨r, hr, rfl, hB⟩ := hrel
              have m2 := cell_chg (below_chg hB) k2 id
              by_cases hrn : r < yn
              · have hrn' : r < Y.beds.length := by rw [HYN.out]; exact hrn
                obtain ⟨gb, gl, rfl, rfl, q1, q2⟩ := ROWS.out r hrn'
                have LX := t_lev Y.beds[r].bed ((T8.out.below hB).below ((Below.refl _ wr).drew))
                rw [levS_at okX.out.once hrn'] at LX
                have LXH := Hid.intro LX
                have K5 : Hid (∀ V, Below wr.heap.size wr V → V.cell? ⟨rb, 2, none⟩ = some (.slice (some ⟨gb, 0, none⟩) yn rcb) ∧ V.cell? ⟨rb, 4, none⟩ = some (.slice (some ⟨gl, 0, none⟩) yn rcl) ∧ V.cell? ⟨gb, r, none⟩ = some (.int .i64 Y.beds[r].bed) ∧ V.cell? ⟨gl, r, none⟩ = some (.int .i64 (Y.beds[r].lv : Int))) := fun V hV =>
                  ⟨cell_chg (below_chg hV) m2 id, cell_chg (below_chg hV) (cell_chg (below_chg hB) k4 id) id, cell_chg (below_chg hV) (cell_chg (below_chg hB) q1 id) id, cell_chg (below_chg hV) (cell_chg (below_chg hB) q2 id) id⟩
                obtain ⟨y1, y2, y3, y4⟩ := K5.out wr (Below.refl _ _)
                have BX := Hid.intro hB
                have r0 : (0 : Int) ≤ (r : Int) := by omega
                have r1 : (r : Int) < (yn : Int) := by omega
                clear LX hB q1 q2
                generalize Y.beds[r].bed = bdr at *
                generalize Y.beds[r].lv = lvr at *
                have e1 : ((lvr : Int) != (lvr : Int)) = false := by simp
                go_wp2_with fail
                go_region_held3 (fun V => V.cell? ⟨rb, 2, none⟩ = some (.slice (some ⟨gb, 0, none⟩) yn rcb) ∧ V.cell? ⟨rb, 4, none⟩ = some (.slice (some ⟨gl, 0, none⟩) yn rcl) ∧ V.cell? ⟨gb, r, none⟩ = some (.int .i64 bdr) ∧ V.cell? ⟨gl, r, none⟩ = some (.int .i64 (lvr : Int)))
                  (first | exact K5.out _ E14 | go_keep)
                  (first
                    | (go_at_call 14; refine LXH.out.mono ?_; rintro e w14 ⟨rfl, B14⟩; have E14 : Below wr.heap.size wr w14 := ((Below.refl _ wr).drew).trans B14; clear B14)
                    | fail)
                all_goals
                  have B15 := Hid.intro (BX.out.trans (E14.mono BX.out.size))
                  clear E14 LXH K5 y1 y2 y3 y4 BX m2 e1
                  go_wp2
                  go_roundw
                  case rel => exact ⟨r + 1, by omega, by go_num, B15.out⟩
                  case measure => simp [intOf]; omega
              · obtain rfl : r = yn := by omega
                have r1 : ¬ (r : Int) < (r : Int) := by omega
                have TZ := Hid.intro ((T8.out.below hB).less (G := fun _ => False) (fun _ q => q.elim))
                have BZ := Hid.intro (B8.out.trans (hB.mono B8.out.size))
                clear hB
                go_wp2
                go_roundw
                case rel => exact ⟨t + 1, Y, by omega, by go_num, TZ.out, BZ.out⟩
                case measure => simp [intOf]; omega
      · have e0' : (kd == 0) = false := by rw [beq_eq_false_iff_ne]; exact e0
        by_cases e1 : kd = 1
        · subst e1
          go_wp2_with fail
          rw [← HBX.out]
          clear d0 d1 d2 HBX
          generalize wr.alloc (.cells #[.int .i64 1, .int .i64 bd, .int .i64 pr] 38) = wa at *
          have a1 : wa.cell? ⟨bs, 1, none⟩ = some (.int .i64 bd) := by rw [cell_of_row _ _ 1 _ _ _ bAH.out]; rfl
          clear bAH
          have KK0 : Hid (∀ W, Chg (fun k => w1.heap.size ≤ k ∧ ¬ k = bs) wa W → W.cell? ⟨bs, 1, none⟩ = some (.int .i64 bd)) := fun W hW => cell_chg hW a1 (fun q => q.2 rfl)
          have PU := Hid.intro (t_rem bd (TA.out.below (Below.refl _ wa).drew) (fun k q => by rw [q]; exact SA.out) BBH.out.size)
          have RP := Hid.intro (fun (W : World) (q : TwoH (fun k => k = bs) w1.heap.size W a rb (remC X bd) X) (hs : wa.heap.size ≤ W.heap.size) => t_rrem bd q (fun k q => by rw [q]; exact Nat.lt_of_lt_of_le SA.out hs) (Nat.le_trans BBH.out.size hs))
          generalize remE X bd = pe at *
          have pep : (pe == pe) = true := by simp
          go_region_held3 (fun W => W.cell? ⟨bs, 1, none⟩ = some (.int .i64 bd))
            (first | exact KK0.out _ D6 | exact KK0.out _ D5 | go_keep)
            (first
              | (go_at_call 12; refine PU.out.mono ?_; rintro e w5 ⟨rfl, T5, C5⟩; have D5 : Chg (fun k => w1.heap.size ≤ k ∧ ¬ k = bs) wa w5 := ((Chg.refl _ wa).drew).trans C5 (fun _ q _ => q); clear C5)
              | (go_at_call 18; refine (RP.out w5 T5 D5.size).mono ?_; rintro e w6 ⟨rfl, T6, C6⟩; have D6 : Chg (fun k => w1.heap.size ≤ k ∧ ¬ k = bs) wa w6 := D5.trans C6 (fun _ q _ => q); clear C6)
              | fail)
          all_goals
            generalize remC X bd = Y at *
            have a1' := KK0.out w6 D6
            have T8 := Hid.intro T6
            have B8 := Hid.intro (BBH.out.trans (D6.below BBH.out.size (fun k hk => hk.1)))
            clear T5 T6 D5 D6 KK0 PU RP a1 TA BBH SA
            have okX := Hid.intro T8.out.okX
            obtain ⟨rab, ral, rcb, rcl, k1, k2, k4, nR, rows⟩ := T8.out.seen
            have NR := Hid.intro nR
            have ROWS := Hid.intro rows
            have few := okX.out.few
            have LV := Hid.intro (fun (V : World) (hV : Below w6.heap.size w6 V) => t_lev bd (T8.out.below hV))
            have RL := Hid.intro (fun (V : World) (hV : Below w6.heap.size w6 V) => t_rlev bd (T8.out.below hV))
            have OD := Hid.intro (fun (V : World) (hV : Below w6.heap.size w6 V) => t_order (T8.out.below hV))
            have CM := Hid.intro (fun (V : World) (hV : Below w6.heap.size w6 V) => t_calm (T8.out.below hV))
            have IN : Hid (∀ (V : World) (v9 : Value) (R9 : Nat → Prop), Below w6.heap.size w6 V → NumsAt R9 V v9 (ordS Y) → Calls Try.prog 21 #[v9, .slice rab Y.beds.length rcb] V fun e w' => e = .returned (.bool true) ∧ Below V.heap.size V w') := fun V v9 R9 hB9 h9 => by
              have lo : (ordS Y).length ≤ 1000 := by have := okX.out.few; simp only [ordS, List.length_map]; omega
              have q := ints_any R9 (fun _ => True) v9 (.slice rab Y.beds.length rcb) (ordS Y) (ordS Y) lo lo V h9 (NR.out.below hB9)
              rw [decide_eq_true rfl] at q
              exact q
            have KK : Hid (∀ V, Below w6.heap.size w6 V → V.cell? ⟨bs, 1, none⟩ = some (.int .i64 bd) ∧ V.cell? ⟨rb, 1, none⟩ = some (.int .i64 (Y.calm : Int)) ∧ V.cell? ⟨rb, 2, none⟩ = some (.slice rab Y.beds.length rcb)) := fun V hV => ⟨cell_chg (below_chg hV) a1' id, cell_chg (below_chg hV) k1 id, cell_chg (below_chg hV) k2 id⟩
            obtain ⟨z1, z2, z3⟩ := KK.out w6 (Below.refl _ _)
            clear nR rows
            generalize levS Y bd = lvY at *
            generalize hyc : Y.calm = yc at *
            obtain ⟨yn, hyn⟩ : ∃ yn, yn = Y.beds.length := ⟨_, rfl⟩
            rw [← hyn] at k2 k4 IN KK z3 few
            have HYN : Hid (Y.beds.length = yn) := hyn.symm
            clear hyn hyc
            have e1 : ((lvY : Int) != (lvY : Int)) = false := by simp
            have e2 : ((yc : Int) != (yc : Int)) = false := by simp
            go_wp2_with fail
            go_region_held3 (fun V => V.cell? ⟨bs, 1, none⟩ = some (.int .i64 bd) ∧ V.cell? ⟨rb, 1, none⟩ = some (.int .i64 (yc : Int)) ∧ V.cell? ⟨rb, 2, none⟩ = some (.slice rab yn rcb))
              (first | exact KK.out _ E13 | exact KK.out _ E12 | exact KK.out _ E11 | exact KK.out _ E10 | exact KK.out _ E9 | go_keep)
              (first
                | (go_at_call 14; refine (LV.out w6.drew ((Below.refl _ w6).drew)).mono ?_; rintro e w9 ⟨rfl, B9⟩; have E9 : Below w6.heap.size w6 w9 := ((Below.refl _ w6).drew).trans B9; clear B9)
                | (go_at_call 20; refine (RL.out w9 E9).mono ?_; rintro e w10 ⟨rfl, B10⟩; have E10 := E9.trans (B10.mono E9.size); clear B10)
                | (go_at_call 15; refine (OD.out w10 E10).mono ?_; rintro e w11 ⟨v11, rfl, n11, B11⟩; have E11 := E10.trans (B11.mono E10.size); clear B11)
                | (go_at_call 21; refine (IN.out w11 v11 _ E11 n11).mono ?_; rintro e w12 ⟨rfl, B12⟩; have E12 := E11.trans (B12.mono E11.size); clear B12)
                | (go_at_call 16; refine (CM.out w12 E12).mono ?_; rintro e w13 ⟨rfl, B13⟩; have E13 := E12.trans (B13.mono E12.size); clear B13)
                | fail)
            all_goals
              have E13H := Hid.intro E13
              clear E9 E10 E11 E12 E13 n11 LV RL OD CM IN KK z1 z2 z3 a1' e1 e2 k1 NR
              go_wp2_with fail
              generalize wr = wx at *
              go_loopw [10] (fun iv ws => ∃ r : Nat, r ≤ yn ∧ iv = .int .i64 r ∧ Below w6.heap.size w6 ws) (fun iv _ => yn - (intOf iv).toNat)
              case atStart => exact ⟨0, by omega, rfl, E13H.out⟩
              case round =>
                clear E13H
                obtain ⟨r, hr, rfl, hB⟩ := hrel
                have m2 := cell_chg (below_chg hB) k2 id
                by_cases hrn : r < yn
                · have hrn' : r < Y.beds.length := by rw [HYN.out]; exact hrn
                  obtain ⟨gb, gl, rfl, rfl, q1, q2⟩ := ROWS.out r hrn'
                  have LX := t_lev Y.beds[r].bed ((T8.out.below hB).below ((Below.refl _ wr).drew))
                  rw [levS_at okX.out.once hrn'] at LX
                  have LXH := Hid.intro LX
                  have K5 : Hid (∀ V, Below wr.heap.size wr V → V.cell? ⟨rb, 2, none⟩ = some (.slice (some ⟨gb, 0, none⟩) yn rcb) ∧ V.cell? ⟨rb, 4, none⟩ = some (.slice (some ⟨gl, 0, none⟩) yn rcl) ∧ V.cell? ⟨gb, r, none⟩ = some (.int .i64 Y.beds[r].bed) ∧ V.cell? ⟨gl, r, none⟩ = some (.int .i64 (Y.beds[r].lv : Int))) := fun V hV =>
                    ⟨cell_chg (below_chg hV) m2 id, cell_chg (below_chg hV) (cell_chg (below_chg hB) k4 id) id, cell_chg (below_chg hV) (cell_chg (below_chg hB) q1 id) id, cell_chg (below_chg hV) (cell_chg (below_chg hB) q2 id) id⟩
                  obtain ⟨y1, y2, y3, y4⟩ := K5.out wr (Below.refl _ _)
                  have BX := Hid.intro hB
                  have r0 : (0 : Int) ≤ (r : Int) := by omega
                  have r1 : (r : Int) < (yn : Int) := by omega
                  clear LX hB q1 q2
                  generalize Y.beds[r].bed = bdr at *
                  generalize Y.beds[r].lv = lvr at *
                  have e1 : ((lvr : Int) != (lvr : Int)) = false := by simp
                  go_wp2_with fail
                  go_region_held3 (fun V => V.cell? ⟨rb, 2, none⟩ = some (.slice (some ⟨gb, 0, none⟩) yn rcb) ∧ V.cell? ⟨rb, 4, none⟩ = some (.slice (some ⟨gl, 0, none⟩) yn rcl) ∧ V.cell? ⟨gb, r, none⟩ = some (.int .i64 bdr) ∧ V.cell? ⟨gl, r, none⟩ = some (.int .i64 (lvr : Int)))
                    (first | exact K5.out _ E14 | go_keep)
                    (first
                      | (go_at_call 14; refine LXH.out.mono ?_; rintro e w14 ⟨rfl, B14⟩; have E14 : Below wr.heap.size wr w14 := ((Below.refl _ wr).drew).trans B14; clear B14)
                      | fail)
                  all_goals
                    have B15 := Hid.intro (BX.out.trans (E14.mono BX.out.size))
                    clear E14 LXH K5 y1 y2 y3 y4 BX m2 e1
                    go_wp2
                    go_roundw
                    case rel => exact ⟨r + 1, by omega, by go_num, B15.out⟩
                    case measure => simp [intOf]; omega
                · obtain rfl : r = yn := by omega
                  have r1 : ¬ (r : Int) < (r : Int) := by omega
                  have TZ := Hid.intro ((T8.out.below hB).less (G := fun _ => False) (fun _ q => q.elim))
                  have BZ := Hid.intro (B8.out.trans (hB.mono B8.out.size))
                  clear hB
                  go_wp2
                  go_roundw
                  case rel => exact ⟨t + 1, Y, by omega, by go_num, TZ.out, BZ.out⟩
                  case measure => simp [intOf]; omega
        · have e1' : (kd == 1) = false := by rw [beq_eq_false_iff_ne]; exact e1
          by_cases e2 : kd = 2
          · subst e2
            go_wp2_with fail
            rw [← HBX.out]
            clear d0 d1 d2 HBX
            generalize wr.alloc (.cells #[.int .i64 2, .int .i64 bd, .int .i64 pr] 38) = wa at *
            have a1 : wa.cell? ⟨bs, 1, none⟩ = some (.int .i64 bd) := by rw [cell_of_row _ _ 1 _ _ _ bAH.out]; rfl
            clear bAH
            have PU := Hid.intro (t_tick true TA.out (fun k q => by rw [q]; exact SA.out) BBH.out.size)
            have RP := Hid.intro (fun (W : World) (q : TwoH (fun k => k = bs) w1.heap.size W a rb (tickC X true) X) (hs : wa.heap.size ≤ W.heap.size) => t_rtick true q (fun k q => by rw [q]; exact Nat.lt_of_lt_of_le SA.out hs) (Nat.le_trans BBH.out.size hs))
            generalize tickD X true = pe at *
            have pep : (pe == pe) = true := by simp
            refine PU.out.mono ?_
            rintro e w5 ⟨rfl, T5, C5⟩
            have RPH := Hid.intro (RP.out w5 T5 C5.size)
            have C5H := Hid.intro C5
            clear PU RP T5 C5
            go_wp2_with fail
            refine RPH.out.mono ?_
            rintro e w6 ⟨rfl, T6, C6⟩
            have D6 := C5H.out.trans C6 (fun _ q _ => q)
            generalize tickC X true = Y at *
            have a1' := cell_chg D6 a1 (fun q => q.2 rfl)
            have T8 := Hid.intro T6
            have B8 := Hid.intro (BBH.out.trans (D6.below BBH.out.size (fun k hk => hk.1)))
            clear T6 D6 C6 C5H RPH a1 TA BBH SA
            have okX := Hid.intro T8.out.okX
            obtain ⟨rab, ral, rcb, rcl, k1, k2, k4, nR, rows⟩ := T8.out.seen
            have NR := Hid.intro nR
            have ROWS := Hid.intro rows
            have few := okX.out.few
            have LV := Hid.intro (fun (V : World) (hV : Below w6.heap.size w6 V) => t_lev bd (T8.out.below hV))
            have RL := Hid.intro (fun (V : World) (hV : Below w6.heap.size w6 V) => t_rlev bd (T8.out.below hV))
            have OD := Hid.intro (fun (V : World) (hV : Below w6.heap.size w6 V) => t_order (T8.out.below hV))
            have CM := Hid.intro (fun (V : World) (hV : Below w6.heap.size w6 V) => t_calm (T8.out.below hV))
            have IN : Hid (∀ (V : World) (v9 : Value) (R9 : Nat → Prop), Below w6.heap.size w6 V → NumsAt R9 V v9 (ordS Y) → Calls Try.prog 21 #[v9, .slice rab Y.beds.length rcb] V fun e w' => e = .returned (.bool true) ∧ Below V.heap.size V w') := fun V v9 R9 hB9 h9 => by
              have lo : (ordS Y).length ≤ 1000 := by have := okX.out.few; simp only [ordS, List.length_map]; omega
              have q := ints_any R9 (fun _ => True) v9 (.slice rab Y.beds.length rcb) (ordS Y) (ordS Y) lo lo V h9 (NR.out.below hB9)
              rw [decide_eq_true rfl] at q
              exact q
            have KK : Hid (∀ V, Below w6.heap.size w6 V → V.cell? ⟨bs, 1, none⟩ = some (.int .i64 bd) ∧ V.cell? ⟨rb, 1, none⟩ = some (.int .i64 (Y.calm : Int)) ∧ V.cell? ⟨rb, 2, none⟩ = some (.slice rab Y.beds.length rcb)) := fun V hV => ⟨cell_chg (below_chg hV) a1' id, cell_chg (below_chg hV) k1 id, cell_chg (below_chg hV) k2 id⟩
            obtain ⟨z1, z2, z3⟩ := KK.out w6 (Below.refl _ _)
            clear nR rows
            generalize levS Y bd = lvY at *
            generalize hyc : Y.calm = yc at *
            obtain ⟨yn, hyn⟩ : ∃ yn, yn = Y.beds.length := ⟨_, rfl⟩
            rw [← hyn] at k2 k4 IN KK z3 few
            have HYN : Hid (Y.beds.length = yn) := hyn.symm
            clear hyn hyc
            have e1 : ((lvY : Int) != (lvY : Int)) = false := by simp
            have e2 : ((yc : Int) != (yc : Int)) = false := by simp
            go_wp2_with fail
            go_region_held3 (fun V => V.cell? ⟨bs, 1, none⟩ = some (.int .i64 bd) ∧ V.cell? ⟨rb, 1, none⟩ = some (.int .i64 (yc : Int)) ∧ V.cell? ⟨rb, 2, none⟩ = some (.slice rab yn rcb))
              (first | exact KK.out _ E13 | exact KK.out _ E12 | exact KK.out _ E11 | exact KK.out _ E10 | exact KK.out _ E9 | go_keep)
              (first
                | (go_at_call 14; refine (LV.out w6.drew ((Below.refl _ w6).drew)).mono ?_; rintro e w9 ⟨rfl, B9⟩; have E9 : Below w6.heap.size w6 w9 := ((Below.refl _ w6).drew).trans B9; clear B9)
                | (go_at_call 20; refine (RL.out w9 E9).mono ?_; rintro e w10 ⟨rfl, B10⟩; have E10 := E9.trans (B10.mono E9.size); clear B10)
                | (go_at_call 15; refine (OD.out w10 E10).mono ?_; rintro e w11 ⟨v11, rfl, n11, B11⟩; have E11 := E10.trans (B11.mono E10.size); clear B11)
                | (go_at_call 21; refine (IN.out w11 v11 _ E11 n11).mono ?_; rintro e w12 ⟨rfl, B12⟩; have E12 := E11.trans (B12.mono E11.size); clear B12)
                | (go_at_call 16; refine (CM.out w12 E12).mono ?_; rintro e w13 ⟨rfl, B13⟩; have E13 := E12.trans (B13.mono E12.size); clear B13)
                | fail)
            all_goals
              have E13H := Hid.intro E13
              clear E9 E10 E11 E12 E13 n11 LV RL OD CM IN KK z1 z2 z3 a1' e1 e2 k1 NR
              go_wp2_with fail
              generalize wr = wx at *
              go_loopw [10] (fun iv ws => ∃ r : Nat, r ≤ yn ∧ iv = .int .i64 r ∧ Below w6.heap.size w6 ws) (fun iv _ => yn - (intOf iv).toNat)
              case atStart => exact ⟨0, by omega, rfl, E13H.out⟩
              case round =>
                clear E13H
                obtain ⟨r, hr, rfl, hB⟩ := hrel
                have m2 := cell_chg (below_chg hB) k2 id
                by_cases hrn : r < yn
                · have hrn' : r < Y.beds.length := by rw [HYN.out]; exact hrn
                  obtain ⟨gb, gl, rfl, rfl, q1, q2⟩ := ROWS.out r hrn'
                  have LX := t_lev Y.beds[r].bed ((T8.out.below hB).below ((Below.refl _ wr).drew))
                  rw [levS_at okX.out.once hrn'] at LX
                  have LXH := Hid.intro LX
                  have K5 : Hid (∀ V, Below wr.heap.size wr V → V.cell? ⟨rb, 2, none⟩ = some (.slice (some ⟨gb, 0, none⟩) yn rcb) ∧ V.cell? ⟨rb, 4, none⟩ = some (.slice (some ⟨gl, 0, none⟩) yn rcl) ∧ V.cell? ⟨gb, r, none⟩ = some (.int .i64 Y.beds[r].bed) ∧ V.cell? ⟨gl, r, none⟩ = some (.int .i64 (Y.beds[r].lv : Int))) := fun V hV =>
                    ⟨cell_chg (below_chg hV) m2 id, cell_chg (below_chg hV) (cell_chg (below_chg hB) k4 id) id, cell_chg (below_chg hV) (cell_chg (below_chg hB) q1 id) id, cell_chg (below_chg hV) (cell_chg (below_chg hB) q2 id) id⟩
                  obtain ⟨y1, y2, y3, y4⟩ := K5.out wr (Below.refl _ _)
                  have BX := Hid.intro hB
                  have r0 : (0 : Int) ≤ (r : Int) := by omega
                  have r1 : (r : Int) < (yn : Int) := by omega
                  clear LX hB q1 q2
                  generalize Y.beds[r].bed = bdr at *
                  generalize Y.beds[r].lv = lvr at *
                  have e1 : ((lvr : Int) != (lvr : Int)) = false := by simp
                  go_wp2_with fail
                  go_region_held3 (fun V => V.cell? ⟨rb, 2, none⟩ = some (.slice (some ⟨gb, 0, none⟩) yn rcb) ∧ V.cell? ⟨rb, 4, none⟩ = some (.slice (some ⟨gl, 0, none⟩) yn rcl) ∧ V.cell? ⟨gb, r, none⟩ = some (.int .i64 bdr) ∧ V.cell? ⟨gl, r, none⟩ = some (.int .i64 (lvr : Int)))
                    (first | exact K5.out _ E14 | go_keep)
                    (first
                      | (go_at_call 14; refine LXH.out.mono ?_; rintro e w14 ⟨rfl, B14⟩; have E14 : Below wr.heap.size wr w14 := ((Below.refl _ wr).drew).trans B14; clear B14)
                      | fail)
                  all_goals
                    have B15 := Hid.intro (BX.out.trans (E14.mono BX.out.size))
                    clear E14 LXH K5 y1 y2 y3 y4 BX m2 e1
                    go_wp2
                    go_roundw
                    case rel => exact ⟨r + 1, by omega, by go_num, B15.out⟩
                    case measure => simp [intOf]; omega
                · obtain rfl : r = yn := by omega
                  have r1 : ¬ (r : Int) < (r : Int) := by omega
                  have TZ := Hid.intro ((T8.out.below hB).less (G := fun _ => False) (fun _ q => q.elim))
                  have BZ := Hid.intro (B8.out.trans (hB.mono B8.out.size))
                  clear hB
                  go_wp2
                  go_roundw
                  case rel => exact ⟨t + 1, Y, by omega, by go_num, TZ.out, BZ.out⟩
                  case measure => simp [intOf]; omega
          · have e2' : (kd == 2) = false := by rw [beq_eq_false_iff_ne]; exact e2
            by_cases e3 : kd = 3
            · subst e3
              go_wp2_with fail
              rw [← HBX.out]
              clear d0 d1 d2 HBX
              generalize wr.alloc (.cells #[.int .i64 3, .int .i64 bd, .int .i64 pr] 38) = wa at *
              have a1 : wa.cell? ⟨bs, 1, none⟩ = some (.int .i64 bd) := by rw [cell_of_row _ _ 1 _ _ _ bAH.out]; rfl
              clear bAH
              have PU := Hid.intro (t_tick false TA.out (fun k q => by rw [q]; exact SA.out) BBH.out.size)
              have RP := Hid.intro (fun (W : World) (q : TwoH (fun k => k = bs) w1.heap.size W a rb (tickC X false) X) (hs : wa.heap.size ≤ W.heap.size) => t_rtick false q (fun k q => by rw [q]; exact Nat.lt_of_lt_of_le SA.out hs) (Nat.le_trans BBH.out.size hs))
              generalize tickD X false = pe at *
              have pep : (pe == pe) = true := by simp
              refine PU.out.mono ?_
              rintro e w5 ⟨rfl, T5, C5⟩
              have RPH := Hid.intro (RP.out w5 T5 C5.size)
              have C5H := Hid.intro C5
              clear PU RP T5 C5
              go_wp2_with fail
              refine RPH.out.mono ?_
              rintro e w6 ⟨rfl, T6, C6⟩
              have D6 := C5H.out.trans C6 (fun _ q _ => q)
              generalize tickC X false = Y at *
              have a1' := cell_chg D6 a1 (fun q => q.2 rfl)
              have T8 := Hid.intro T6
              have B8 := Hid.intro (BBH.out.trans (D6.below BBH.out.size (fun k hk => hk.1)))
              clear T6 D6 C6 C5H RPH a1 TA BBH SA
              have okX := Hid.intro T8.out.okX
              obtain ⟨rab, ral, rcb, rcl, k1, k2, k4, nR, rows⟩ := T8.out.seen
              have NR := Hid.intro nR
              have ROWS := Hid.intro rows
              have few := okX.out.few
              have LV := Hid.intro (fun (V : World) (hV : Below w6.heap.size w6 V) => t_lev bd (T8.out.below hV))
              have RL := Hid.intro (fun (V : World) (hV : Below w6.heap.size w6 V) => t_rlev bd (T8.out.below hV))
              have OD := Hid.intro (fun (V : World) (hV : Below w6.heap.size w6 V) => t_order (T8.out.below hV))
              have CM := Hid.intro (fun (V : World) (hV : Below w6.heap.size w6 V) => t_calm (T8.out.below hV))
              have IN : Hid (∀ (V : World) (v9 : Value) (R9 : Nat → Prop), Below w6.heap.size w6 V → NumsAt R9 V v9 (ordS Y) → Calls Try.prog 21 #[v9, .slice rab Y.beds.length rcb] V fun e w' => e = .returned (.bool true) ∧ Below V.heap.size V w') := fun V v9 R9 hB9 h9 => by
                have lo : (ordS Y).length ≤ 1000 := by have := okX.out.few; simp only [ordS, List.length_map]; omega
                have q := ints_any R9 (fun _ => True) v9 (.slice rab Y.beds.length rcb) (ordS Y) (ordS Y) lo lo V h9 (NR.out.below hB9)
                rw [decide_eq_true rfl] at q
                exact q
              have KK : Hid (∀ V, Below w6.heap.size w6 V → V.cell? ⟨bs, 1, none⟩ = some (.int .i64 bd) ∧ V.cell? ⟨rb, 1, none⟩ = some (.int .i64 (Y.calm : Int)) ∧ V.cell? ⟨rb, 2, none⟩ = some (.slice rab Y.beds.length rcb)) := fun V hV => ⟨cell_chg (below_chg hV) a1' id, cell_chg (below_chg hV) k1 id, cell_chg (below_chg hV) k2 id⟩
              obtain ⟨z1, z2, z3⟩ := KK.out w6 (Below.refl _ _)
              clear nR rows
              generalize levS Y bd = lvY at *
              generalize hyc : Y.calm = yc at *
              obtain ⟨yn, hyn⟩ : ∃ yn, yn = Y.beds.length := ⟨_, rfl⟩
              rw [← hyn] at k2 k4 IN KK z3 few
              have HYN : Hid (Y.beds.length = yn) := hyn.symm
              clear hyn hyc
              have e1 : ((lvY : Int) != (lvY : Int)) = false := by simp
              have e2 : ((yc : Int) != (yc : Int)) = false := by simp
              go_wp2_with fail
              go_region_held3 (fun V => V.cell? ⟨bs, 1, none⟩ = some (.int .i64 bd) ∧ V.cell? ⟨rb, 1, none⟩ = some (.int .i64 (yc : Int)) ∧ V.cell? ⟨rb, 2, none⟩ = some (.slice rab yn rcb))
                (first | exact KK.out _ E13 | exact KK.out _ E12 | exact KK.out _ E11 | exact KK.out _ E10 | exact KK.out _ E9 | go_keep)
                (first
                  | (go_at_call 14; refine (LV.out w6.drew ((Below.refl _ w6).drew)).mono ?_; rintro e w9 ⟨rfl, B9⟩; have E9 : Below w6.heap.size w6 w9 := ((Below.refl _ w6).drew).trans B9; clear B9)
                  | (go_at_call 20; refine (RL.out w9 E9).mono ?_; rintro e w10 ⟨rfl, B10⟩; have E10 := E9.trans (B10.mono E9.size); clear B10)
                  | (go_at_call 15; refine (OD.out w10 E10).mono ?_; rintro e w11 ⟨v11, rfl, n11, B11⟩; have E11 := E10.trans (B11.mono E10.size); clear B11)
                  | (go_at_call 21; refine (IN.out w11 v11 _ E11 n11).mono ?_; rintro e w12 ⟨rfl, B12⟩; have E12 := E11.trans (B12.mono E11.size); clear B12)
                  | (go_at_call 16; refine (CM.out w12 E12).mono ?_; rintro e w13 ⟨rfl, B13⟩; have E13 := E12.trans (B13.mono E12.size); clear B13)
                  | fail)
              all_goals
                have E13H := Hid.intro E13
                clear E9 E10 E11 E12 E13 n11 LV RL OD CM IN KK z1 z2 z3 a1' e1 e2 k1 NR
                go_wp2_with fail
                generalize wr = wx at *
                go_loopw [10] (fun iv ws => ∃ r : Nat, r ≤ yn ∧ iv = .int .i64 r ∧ Below w6.heap.size w6 ws) (fun iv _ => yn - (intOf iv).toNat)
                case atStart => exact ⟨0, by omega, rfl, E13H.out⟩
                case round =>
                  clear E13H
                  obtain ⟨r, hr, rfl, hB⟩ := hrel
                  have m2 := cell_chg (below_chg hB) k2 id
                  by_cases hrn : r < yn
                  · have hrn' : r < Y.beds.length := by rw [HYN.out]; exact hrn
                    obtain ⟨gb, gl, rfl, rfl, q1, q2⟩ := ROWS.out r hrn'
                    have LX := t_lev Y.beds[r].bed ((T8.out.below hB).below ((Below.refl _ wr).drew))
                    rw [levS_at okX.out.once hrn'] at LX
                    have LXH := Hid.intro LX
                    have K5 : Hid (∀ V, Below wr.heap.size wr V → V.cell? ⟨rb, 2, none⟩ = some (.slice (some ⟨gb, 0, none⟩) yn rcb) ∧ V.cell? ⟨rb, 4, none⟩ = some (.slice (some ⟨gl, 0, none⟩) yn rcl) ∧ V.cell? ⟨gb, r, none⟩ = some (.int .i64 Y.beds[r].bed) ∧ V.cell? ⟨gl, r, none⟩ = some (.int .i64 (Y.beds[r].lv : Int))) := fun V hV =>
                      ⟨cell_chg (below_chg hV) m2 id, cell_chg (below_chg hV) (cell_chg (below_chg hB) k4 id) id, cell_chg (below_chg hV) (cell_chg (below_chg hB) q1 id) id, cell_chg (below_chg hV) (cell_chg (below_chg hB) q2 id) id⟩
                    obtain ⟨y1, y2, y3, y4⟩ := K5.out wr (Below.refl _ _)
                    have BX := Hid.intro hB
                    have r0 : (0 : Int) ≤ (r : Int) := by omega
                    have r1 : (r : Int) < (yn : Int) := by omega
                    clear LX hB q1 q2
                    generalize Y.beds[r].bed = bdr at *
                    generalize Y.beds[r].lv = lvr at *
                    have e1 : ((lvr : Int) != (lvr : Int)) = false := by simp
                    go_wp2_with fail
                    go_region_held3 (fun V => V.cell? ⟨rb, 2, none⟩ = some (.slice (some ⟨gb, 0, none⟩) yn rcb) ∧ V.cell? ⟨rb, 4, none⟩ = some (.slice (some ⟨gl, 0, none⟩) yn rcl) ∧ V.cell? ⟨gb, r, none⟩ = some (.int .i64 bdr) ∧ V.cell? ⟨gl, r, none⟩ = some (.int .i64 (lvr : Int)))
                      (first | exact K5.out _ E14 | go_keep)
                      (first
                        | (go_at_call 14; refine LXH.out.mono ?_; rintro e w14 ⟨rfl, B14⟩; have E14 : Below wr.heap.size wr w14 := ((Below.refl _ wr).drew).trans B14; clear B14)
                        | fail)
                    all_goals
                      have B15 := Hid.intro (BX.out.trans (E14.mono BX.out.size))
                      clear E14 LXH K5 y1 y2 y3 y4 BX m2 e1
                      go_wp2
                      go_roundw
                      case rel => exact ⟨r + 1, by omega, by go_num, B15.out⟩
                      case measure => simp [intOf]; omega
                  · obtain rfl : r = yn := by omega
                    have r1 : ¬ (r : Int) < (r : Int) := by omega
                    have TZ := Hid.intro ((T8.out.below hB).less (G := fun _ => False) (fun _ q => q.elim))
                    have BZ := Hid.intro (B8.out.trans (hB.mono B8.out.size))
                    clear hB
                    go_wp2
                    go_roundw
                    case rel => exact ⟨t + 1, Y, by omega, by go_num, TZ.out, BZ.out⟩
                    case measure => simp [intOf]; omega
            · have e3' : (kd == 3) = false := by rw [beq_eq_false_iff_ne]; exact e3
              go_wp2_with fail
              rw [← HBX.out]
              clear d0 d1 d2 HBX
              generalize wr.alloc (.cells #[.int .i64 kd, .int .i64 bd, .int .i64 pr] 38) = wa at *
              have a1 : wa.cell? ⟨bs, 1, none⟩ = some (.int .i64 bd) := by rw [cell_of_row _ _ 1 _ _ _ bAH.out]; rfl
              have T8 := Hid.intro TA.out
              have B8 := Hid.intro BBH.out
              clear bAH TA BBH SA
              generalize X = Y at *
              have okX := Hid.intro T8.out.okX
              obtain ⟨rab, ral, rcb, rcl, k1, k2, k4, nR, rows⟩ := T8.out.seen
              have NR := Hid.intro nR
              have ROWS := Hid.intro rows
              have few := okX.out.few
              have LV := Hid.intro (fun (V : World) (hV : Below wa.heap.size wa V) => t_lev bd (T8.out.below hV))
              have RL := Hid.intro (fun (V : World) (hV : Below wa.heap.size wa V) => t_rlev bd (T8.out.below hV))
              have OD := Hid.intro (fun (V : World) (hV : Below wa.heap.size wa V) => t_order (T8.out.below hV))
              have CM := Hid.intro (fun (V : World) (hV : Below wa.heap.size wa V) => t_calm (T8.out.below hV))
              have IN : Hid (∀ (V : World) (v9 : Value) (R9 : Nat → Prop), Below wa.heap.size wa V → NumsAt R9 V v9 (ordS Y) → Calls Try.prog 21 #[v9, .slice rab Y.beds.length rcb] V fun e w' => e = .returned (.bool true) ∧ Below V.heap.size V w') := fun V v9 R9 hB9 h9 => by
                have lo : (ordS Y).length ≤ 1000 := by have := okX.out.few; simp only [ordS, List.length_map]; omega
                have q := ints_any R9 (fun _ => True) v9 (.slice rab Y.beds.length rcb) (ordS Y) (ordS Y) lo lo V h9 (NR.out.below hB9)
                rw [decide_eq_true rfl] at q
                exact q
              have KK : Hid (∀ V, Below wa.heap.size wa V → V.cell? ⟨bs, 1, none⟩ = some (.int .i64 bd) ∧ V.cell? ⟨rb, 1, none⟩ = some (.int .i64 (Y.calm : Int)) ∧ V.cell? ⟨rb, 2, none⟩ = some (.slice rab Y.beds.length rcb)) := fun V hV => ⟨cell_chg (below_chg hV) a1 id, cell_chg (below_chg hV) k1 id, cell_chg (below_chg hV) k2 id⟩
              obtain ⟨z1, z2, z3⟩ := KK.out wa (Below.refl _ _)
              clear nR rows
              generalize levS Y bd = lvY at *
              generalize hyc : Y.calm = yc at *
              obtain ⟨yn, hyn⟩ : ∃ yn, yn = Y.beds.length := ⟨_, rfl⟩
              rw [← hyn] at k2 k4 IN KK z3 few
              have HYN : Hid (Y.beds.length = yn) := hyn.symm
              clear hyn hyc
              have e1 : ((lvY : Int) != (lvY : Int)) = false := by simp
              have e2 : ((yc : Int) != (yc : Int)) = false := by simp
              go_wp2_with fail
              go_region_held3 (fun V => V.cell? ⟨bs, 1, none⟩ = some (.int .i64 bd) ∧ V.cell? ⟨rb, 1, none⟩ = some (.int .i64 (yc : Int)) ∧ V.cell? ⟨rb, 2, none⟩ = some (.slice rab yn rcb))
                (first | exact KK.out _ E13 | exact KK.out _ E12 | exact KK.out _ E11 | exact KK.out _ E10 | exact KK.out _ E9 | go_keep)
                (first
                  | (go_at_call 14; refine (LV.out wa.drew ((Below.refl _ wa).drew)).mono ?_; rintro e w9 ⟨rfl, B9⟩; have E9 : Below wa.heap.size wa w9 := ((Below.refl _ wa).drew).trans B9; clear B9)
                  | (go_at_call 20; refine (RL.out w9 E9).mono ?_; rintro e w10 ⟨rfl, B10⟩; have E10 := E9.trans (B10.mono E9.size); clear B10)
                  | (go_at_call 15; refine (OD.out w10 E10).mono ?_; rintro e w11 ⟨v11, rfl, n11, B11⟩; have E11 := E10.trans (B11.mono E10.size); clear B11)
                  | (go_at_call 21; refine (IN.out w11 v11 _ E11 n11).mono ?_; rintro e w12 ⟨rfl, B12⟩; have E12 := E11.trans (B12.mono E11.size); clear B12)
                  | (go_at_call 16; refine (CM.out w12 E12).mono ?_; rintro e w13 ⟨rfl, B13⟩; have E13 := E12.trans (B13.mono E12.size); clear B13)
                  | fail)
              all_goals
                have E13H := Hid.intro E13
                clear E9 E10 E11 E12 E13 n11 LV RL OD CM IN KK z1 z2 z3 a1 e1 e2 k1 NR
                go_wp2_with fail
                generalize wr = wx at *
                go_loopw [10] (fun iv ws => ∃ r : Nat, r ≤ yn ∧ iv = .int .i64 r ∧ Below wa.heap.size wa ws) (fun iv _ => yn - (intOf iv).toNat)
                case atStart => exact ⟨0, by omega, rfl, E13H.out⟩
                case round =>
                  clear E13H
                  obtain ⟨r, hr, rfl, hB⟩ := hrel
                  have m2 := cell_chg (below_chg hB) k2 id
                  by_cases hrn : r < yn
                  · have hrn' : r < Y.beds.length := by rw [HYN.out]; exact hrn
                    obtain ⟨gb, gl, rfl, rfl, q1, q2⟩ := ROWS.out r hrn'
                    have LX := t_lev Y.beds[r].bed ((T8.out.below hB).below ((Below.refl _ wr).drew))
                    rw [levS_at okX.out.once hrn'] at LX
                    have LXH := Hid.intro LX
                    have K5 : Hid (∀ V, Below wr.heap.size wr V → V.cell? ⟨rb, 2, none⟩ = some (.slice (some ⟨gb, 0, none⟩) yn rcb) ∧ V.cell? ⟨rb, 4, none⟩ = some (.slice (some ⟨gl, 0, none⟩) yn rcl) ∧ V.cell? ⟨gb, r, none⟩ = some (.int .i64 Y.beds[r].bed) ∧ V.cell? ⟨gl, r, none⟩ = some (.int .i64 (Y.beds[r].lv : Int))) := fun V hV =>
                      ⟨cell_chg (below_chg hV) m2 id, cell_chg (below_chg hV) (cell_chg (below_chg hB) k4 id) id, cell_chg (below_chg hV) (cell_chg (below_chg hB) q1 id) id, cell_chg (below_chg hV) (cell_chg (below_chg hB) q2 id) id⟩
                    obtain ⟨y1, y2, y3, y4⟩ := K5.out wr (Below.refl _ _)
                    have BX := Hid.intro hB
                    have r0 : (0 : Int) ≤ (r : Int) := by omega
                    have r1 : (r : Int) < (yn : Int) := by omega
                    clear LX hB q1 q2
                    generalize Y.beds[r].bed = bdr at *
                    generalize Y.beds[r].lv = lvr at *
                    have e1 : ((lvr : Int) != (lvr : Int)) = false := by simp
                    go_wp2_with fail
                    go_region_held3 (fun V => V.cell? ⟨rb, 2, none⟩ = some (.slice (some ⟨gb, 0, none⟩) yn rcb) ∧ V.cell? ⟨rb, 4, none⟩ = some (.slice (some ⟨gl, 0, none⟩) yn rcl) ∧ V.cell? ⟨gb, r, none⟩ = some (.int .i64 bdr) ∧ V.cell? ⟨gl, r, none⟩ = some (.int .i64 (lvr : Int)))
                      (first | exact K5.out _ E14 | go_keep)
                      (first
                        | (go_at_call 14; refine LXH.out.mono ?_; rintro e w14 ⟨rfl, B14⟩; have E14 : Below wr.heap.size wr w14 := ((Below.refl _ wr).drew).trans B14; clear B14)
                        | fail)
                    all_goals
                      have B15 := Hid.intro (BX.out.trans (E14.mono BX.out.size))
                      clear E14 LXH K5 y1 y2 y3 y4 BX m2 e1
                      go_wp2
                      go_roundw
                      case rel => exact ⟨r + 1, by omega, by go_num, B15.out⟩
                      case measure => simp [intOf]; omega
                  · obtain rfl : r = yn := by omega
                    have r1 : ¬ (r : Int) < (r : Int) := by omega
                    have TZ := Hid.intro ((T8.out.below hB).less (G := fun _ => False) (fun _ q => q.elim))
                    have BZ := Hid.intro (B8.out.trans (hB.mono B8.out.size))
                    clear hB
                    go_wp2
                    go_roundw
                    case rel => exact ⟨t + 1, Y, by omega, by go_num, TZ.out, BZ.out⟩
                    case measure => simp [intOf]; omega
    · obtain rfl : t = L := by omega
      have t1 : ¬ (t : Int) < (t : Int) := by omega
      have FI := Hid.intro (B1H.out.trans (BH.out.mono B1H.out.size))
      clear QH BH
      go_wp2
      go_ret
      exact ⟨rfl, FI.out⟩

theorem walk (calm : Int) (a : Option Addr) (len cap : Nat) (z : List Act13) (w : World) (_ : (Lit.int .i64 calm).wf = true) (hz : z.length = len ∧ ActsAt13 w a z ∧ len ≤ maxLen) :
    Calls Try.prog 3 #[.int .i64 calm, .slice a len cap] w fun e w' => e = .returned (.bool true) ∧ Below w.heap.size w w' := by
  obtain ⟨rfl, h, _⟩ := hz
  exact walk_main calm a cap z w h

set_option maxRecDepth 100000 in
theorem lifted (os : Os) (started : os.Started) (H : Type) (enc : TypeId × Value → H) :
    ReturnsInHanded {} Try.checked os 3 .any (Rows.shedActsSpec.pre6 enc Try.prog Try.f3 Rows.shedActsRow.domain false) (Rows.shedActsSpec.post enc Try.prog Try.f3 false true false false) := by
  refine returnsInHanded_of_change (C := Try.checked) own started (by kernel_rfl) Try.func3
    (ChangeSpec.witness6 (enc := enc) (C := Try.checked) false ⟨#[], #[.int .i64 0, .slice none 0 0], []⟩ 8 (by kernel_rfl) (by kernel_rfl) (by kernel_rfl) (by kernel_rfl)) ?_
  intro W base args ds gs before hval0 hW hcnd _
  have hval : ∀ (j : Nat) t v, Try.f3.params[j]? = some t → args[j]? = some v → Value.okWide Try.prog W .any base t v := hval0
  have hW' := hW
  obtain ⟨p, q, hA0, hV, rfl, hfz, hnd⟩ := hW
  have hA : DataW.TrodAll enc Try.prog W 0 (fun _ => true) true Try.f3.params.toList args.toList ds p := hA0
  rw [Try.params3] at hA hval
  obtain ⟨v0, vs0, d0, ds0, p0, q0, hargs, rfl, rfl, h0, r0⟩ := trodAll_cons hA
  obtain ⟨v1, vs1, d1, ds1, p1, q1, rfl, rfl, rfl, h1, r1⟩ := trodAll_cons r0
  obtain ⟨rfl, rfl, rfl⟩ := trodAll_nil r1
  obtain rfl : args = #[v0, v1] := by cases args; simp_all
  obtain ⟨rfl, rfl⟩ := trodVars_none hV
  obtain ⟨a0, rfl, rfl, rfl, w0⟩ := open_int Try.underlying3 (hval 0 3 v0 rfl rfl) h0
  have k1 := h1
  have lt1 : ∀ x ∈ p1, x.block < W.heap.size := by obtain ⟨m, hm⟩ := k1; exact DataW.trod_lt m _ _ _ hm
  obtain ⟨a1, len1, cap1, rfl⟩ := okWide_slice Try.underlying22 (hval 1 22 v1 rfl rfl)
  obtain ⟨z1, w1⟩ := open_acts h1
  clear hA0 hval0
  refine (walk a0 a1 len1 cap1 z1 W w0 w1).mono fun e W' ⟨he, bel⟩ => ?_
  subst he
  exact ⟨_, rfl, _, _, _, [], _, [], hW', trodAll_mk1 (shut_bool Try.underlying4 _), (trodAll_cons_mk (shut_int Try.underlying3 w0) (trodAll_cons_mk (Below.trod laidOut (by kernel_rfl) (of_decide_eq_true (by kernel_rfl)) k1 bel lt1) trodAll_mk0)), rfl, bel.frame _, fun h => by cases h⟩

theorem over : Rows.shedActsRow.holds Try.pinned (OpenSpec.ofChange Rows.shedActsSpec) :=
  OpenClaim.holds_of_wide 3 Try.f3 rfl rfl rfl rfl rfl rfl rfl ⟨rfl, rfl, rfl, rfl, rfl⟩ rfl rfl rfl rfl rfl (by kernel_rfl) Try.func3 (by kernel_rfl)
    (of_decide_eq_true (by kernel_rfl)) (by unfold Func.isWrapper; first | (rw [if_pos (by decide +kernel)]; kernel_rfl) | (rw [if_neg (by decide +kernel)]; exact ⟨rfl, rfl⟩))
    (fun os started H enc _ => lifted os started H enc)

end Go.Proofs.Ythfmgdhhjnngaaa.LShedActs

namespace Go.Proofs.Ythfmgdhhjnngaaa
theorem shedActs_holds : Rows.ShedActsSaid := LShedActs.over
#print axioms shedActs_holds
end Go.Proofs.Ythfmgdhhjnngaaa
