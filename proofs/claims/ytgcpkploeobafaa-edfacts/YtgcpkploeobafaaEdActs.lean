/- The statement EdfActs: the queue answers as the document's own does, whatever the acts. -/
import Derived.Test.YtgcpkploeobafaaEdAlive
import Derived.Test.YtgcpkploeobafaaEdFill
import Derived.Test.YtgcpkploeobafaaEdActA
import Derived.Test.YtgcpkploeobafaaEdTwoR
import Derived.Test.YtgcpkploeobafaaEdRefS
import Derived.Deep.RegionHeld3
namespace Go.Proofs.Ytgcpkploeobafaa
open Go.ChangeShapes Go.WideShapes Go.ChangeAt Go.RowKit Go.Joins
open Bt

namespace LEdfActs

theorem out {B : Nat} {R : Nat → Prop} {w0 w w' : World} (h0 : Below B w0 w) (hB : B ≤ w0.heap.size) (h : Chg (fun k => B ≤ k ∧ ¬ R k) w w') : Below B w0 w' := h0.trans (h.below (Nat.le_trans hB h0.size) (fun _ hk => hk.1))

set_option maxRecDepth 100000 in
set_option maxHeartbeats 4000000 in
theorem walk_main (ao : Option Addr) (c : Nat) (l : List Act12) (w : World) (h : ActsAt12 w ao l) :
    Calls Try.prog 3 #[.slice ao l.length c] w fun e w' => e = .returned (.bool true) ∧ Below w.heap.size w w' := by
  have AL := Hid.intro (alive12_any w)
  have HS := Hid.intro h
  obtain ⟨L, hL⟩ : ∃ L, L = l.length := ⟨_, rfl⟩
  have HL := Hid.intro hL
  have FW := Hid.intro (fun (w1 : World) (hb : Below w.heap.size w w1) => few12_any ao c l w1 (fun h0 => by
    obtain ⟨b, off, e, hc⟩ := h h0
    exact ⟨b, off, e, fun i hi => (hc i hi).below hb⟩))
  rw [← hL] at FW ⊢
  clear hL h
  obtain ⟨fb, hfb⟩ : ∃ fb, fb = few12B l := ⟨_, rfl⟩
  have HF := Hid.intro hfb
  rw [← hfb] at FW
  clear hfb
  go_enter Try.func3, Try.ntmps3
  go_wp2_with fail
  refine AL.out.mono ?_
  rintro e w1 ⟨rfl, B1⟩
  have B1H := Hid.intro B1
  have FW1 := Hid.intro (FW.out w1 B1)
  clear AL B1 FW
  go_wp2_with fail
  refine FW1.out.mono ?_
  rintro e w1' ⟨rfl, rfl⟩
  clear FW1
  cases fb with
  | false =>
    go_wp2
    go_ret
    exact ⟨rfl, B1H.out⟩
  | true =>
  have FT := Hid.intro (few12_true HF.out.symm)
  clear HF
  go_wp2_with fail
  refine (ework_nil 5 _).mono ?_
  rintro e w2 ⟨a2, c2, rfl, B2⟩
  have O2 := Hid.intro B2
  clear B2
  go_wp2_with fail
  refine (elate_nil 5 _).mono ?_
  rintro e w3 ⟨a3, c3, rfl, B3⟩
  have O3 := Hid.intro (O2.out.trans (B3.mono O2.out.size))
  clear B3 O2
  go_wp2_with fail
  refine (edrop_nil 1 _).mono ?_
  rintro e w4 ⟨rfl, B4⟩
  have O4 := Hid.intro (O3.out.trans (B4.mono O3.out.size))
  clear B4 O3
  go_wp2_with fail
  refine (elist_nil _).mono ?_
  rintro e w5 ⟨a5, c5, rfl, B5⟩
  have O5 := Hid.intro (O4.out.trans (B5.mono O4.out.size))
  clear B5 O4
  go_wp2_with fail
  refine (eleft_nil _).mono ?_
  rintro e w6 ⟨rfl, B6⟩
  have O6 := Hid.intro (O5.out.trans (B6.mono O5.out.size))
  clear B6 O5
  go_wp2_with fail
  refine (epush_nil ⟨0, 0, 0, 0, 0, 0, 1⟩ _).mono ?_
  rintro e w7 ⟨rfl, B7⟩
  have O7 := Hid.intro (O6.out.trans (B7.mono O6.out.size))
  clear B7 O6
  go_wp2_with fail
  refine (enew_any _).mono ?_
  rintro e w8 ⟨a, F, rfl, hS, hF, B8⟩
  have O8 := Hid.intro (O7.out.trans (B8.mono O7.out.size))
  have AN := (Below.refl _ w8).alloc (Nat.le_refl _) (.cells #[.slice none 0 0] 41)
  have Q9 : Hid (TwoR (fun _ => False) w1.heap.size (w8.alloc (.cells #[.slice none 0 0] 41)) a w8.heap.size [] [] 0) := by
    refine twor_new (w := w7) O7.out.size hS hF B8 (T := fun k => k = w8.heap.size) ⟨.slice none 0 0, heap_alloc_new _ _, rfl, js_nil _ _, fun k hk => by subst hk; simp, qok_nil⟩ (fun k hk => by omega) AN
  have O9 : Hid (Below w1.heap.size w1 (w8.alloc (.cells #[.slice none 0 0] 41))) := O8.out.trans (AN.mono O8.out.size)
  have h90 : L ≤ 90 := by rw [HL.out]; exact FT.out.1
  clear hS hF B8 O8 O7 AN
  go_wp2_with fail
  generalize hw9 : w8.alloc (.cells #[.slice none 0 0] 41) = w9 at *
  generalize hrb : w8.heap.size = rb at *
  clear hw9 hrb
  go_loopw [8] (fun iv ws => ∃ (k : Nat) (X : List Jb), k ≤ L ∧ iv = .int .i64 k ∧ TwoR (fun _ => False) w1.heap.size ws a rb X X k ∧ Below w1.heap.size w1 ws) (fun iv _ => L - (intOf iv).toNat)
  case atStart => exact ⟨0, [], by omega, rfl, Q9.out, O9.out⟩
  case round =>
    clear Q9 O9
    obtain ⟨k, X, hk, rfl, hQ, hB⟩ := hrel
    have QH := Hid.intro hQ
    have BH := Hid.intro hB
    clear hQ hB
    by_cases hlt : k < L
    · have hlt' : k < l.length := by rw [← HL.out]; exact hlt
      have k0 : (0 : Int) ≤ (k : Int) := by omega
      have k1 : (k : Int) < (L : Int) := by omega
      obtain ⟨pb, off, rfl, hc⟩ := HS.out (by omega)
      have J := ((hc k hlt').below B1H.out).below BH.out
      have U5 := Hid.intro (FT.out.2 l[k] (List.getElem_mem hlt'))
      generalize l[k] = ac at *
      obtain ⟨kd, nn, ⟨b0, b1, b2, b3, b4, b5, b6⟩⟩ := ac
      obtain ⟨d0, d1, c0, c1, c2, c3, c4, c5, c6⟩ := J
      simp only at d0 d1 c0 c1 c2 c3 c4 c5 c6 U5
      clear hc
      have BA := (Below.refl _ wr).alloc (Nat.le_refl _) (.cells #[.int .i64 kd, .int .i64 nn, .int .i64 b0, .int .i64 b1, .int .i64 b2, .int .i64 b3, .int .i64 b4, .int .i64 b5, .int .i64 b6] 43)
      have bA := heap_alloc_new wr (.cells #[.int .i64 kd, .int .i64 nn, .int .i64 b0, .int .i64 b1, .int .i64 b2, .int .i64 b3, .int .i64 b4, .int .i64 b5, .int .i64 b6] 43)
      have sA := lt_of_heap bA
      obtain ⟨bs, hbs⟩ : ∃ bs, bs = wr.heap.size := ⟨_, rfl⟩
      have TA := Hid.intro ((QH.out.grow BA).less (G := fun k => k = bs) (fun k q => .inr (by omega)))
      have BBH := Hid.intro (BH.out.trans (BA.mono BH.out.size))
      rw [← hbs] at bA sA
      have HBX := Hid.intro hbs
      have SA := Hid.intro sA
      have bAH := Hid.intro bA
      clear BA hbs sA bA QH BH
      have PREP : Hid True := trivial
      by_cases e0 : kd = 0
      · subst e0
        go_wp2_with fail
        rw [← HBX.out]
        clear d0 d1 c0 c1 c2 c3 c4 c5 c6 HBX
        generalize wr.alloc (.cells #[.int .i64 0, .int .i64 nn, .int .i64 b0, .int .i64 b1, .int .i64 b2, .int .i64 b3, .int .i64 b4, .int .i64 b5, .int .i64 b6] 43) = wa at *
        have a0 : wa.cell? ⟨bs, 0, none⟩ = some (.int .i64 0) := by rw [cell_of_row _ _ 0 _ _ _ bAH.out]; rfl
        have a1 : wa.cell? ⟨bs, 1, none⟩ = some (.int .i64 nn) := by rw [cell_of_row _ _ 1 _ _ _ bAH.out]; rfl
        have a2 : wa.cell? ⟨bs, 2, none⟩ = some (.int .i64 b0) := by rw [cell_of_row _ _ 2 _ _ _ bAH.out]; rfl
        have a3 : wa.cell? ⟨bs, 3, none⟩ = some (.int .i64 b1) := by rw [cell_of_row _ _ 3 _ _ _ bAH.out]; rfl
        have a4 : wa.cell? ⟨bs, 4, none⟩ = some (.int .i64 b2) := by rw [cell_of_row _ _ 4 _ _ _ bAH.out]; rfl
        have a5 : wa.cell? ⟨bs, 5, none⟩ = some (.int .i64 b3) := by rw [cell_of_row _ _ 5 _ _ _ bAH.out]; rfl
        have a6 : wa.cell? ⟨bs, 6, none⟩ = some (.int .i64 b4) := by rw [cell_of_row _ _ 6 _ _ _ bAH.out]; rfl
        have a7 : wa.cell? ⟨bs, 7, none⟩ = some (.int .i64 b5) := by rw [cell_of_row _ _ 7 _ _ _ bAH.out]; rfl
        have a8 : wa.cell? ⟨bs, 8, none⟩ = some (.int .i64 b6) := by rw [cell_of_row _ _ 8 _ _ _ bAH.out]; rfl
        clear bAH
        have KK : Hid (∀ W, Chg (fun k => w1.heap.size ≤ k ∧ ¬ k = bs) wa W → W.cell? ⟨bs, 2, none⟩ = some (.int .i64 b0) ∧ W.cell? ⟨bs, 3, none⟩ = some (.int .i64 b1) ∧ W.cell? ⟨bs, 4, none⟩ = some (.int .i64 b2) ∧ W.cell? ⟨bs, 5, none⟩ = some (.int .i64 b3) ∧ W.cell? ⟨bs, 6, none⟩ = some (.int .i64 b4) ∧ W.cell? ⟨bs, 7, none⟩ = some (.int .i64 b5) ∧ W.cell? ⟨bs, 8, none⟩ = some (.int .i64 b6)) := fun W hW =>
          ⟨cell_chg hW a2 (fun q => q.2 rfl), cell_chg hW a3 (fun q => q.2 rfl), cell_chg hW a4 (fun q => q.2 rfl), cell_chg hW a5 (fun q => q.2 rfl), cell_chg hW a6 (fun q => q.2 rfl), cell_chg hW a7 (fun q => q.2 rfl), cell_chg hW a8 (fun q => q.2 rfl)⟩
        have PU := Hid.intro (r_push ⟨b0, b1, b2, b3, b4, b5, b6⟩ (TA.out.below (Below.refl _ wa).drew) (fun k q => by rw [q]; exact SA.out) BBH.out.size)
        have RP := Hid.intro (fun (W : World) (q : TwoR (fun k => k = bs) w1.heap.size W a rb (pushQ X ⟨b0, b1, b2, b3, b4, b5, b6⟩) X (k + 1)) (hs : wa.heap.size ≤ W.heap.size) => r_rpush ⟨b0, b1, b2, b3, b4, b5, b6⟩ q (fun k q => by rw [q]; exact Nat.lt_of_lt_of_le SA.out hs) (Nat.le_trans BBH.out.size hs))
        have MY := Hid.intro (fun (W : World) => emay_any ⟨b0, b1, b2, b3, b4, b5, b6⟩ W)
        have RM := Hid.intro (fun (W : World) => refMay12_any ⟨b0, b1, b2, b3, b4, b5, b6⟩ W)
        generalize pushE' X ⟨b0, b1, b2, b3, b4, b5, b6⟩ = pe at *
        generalize mayJ ⟨b0, b1, b2, b3, b4, b5, b6⟩ = mj at *
        have pep : (pe == pe) = true := by simp
        cases mj <;>
        · go_region_held3 (fun W => W.cell? ⟨bs, 2, none⟩ = some (.int .i64 b0) ∧ W.cell? ⟨bs, 3, none⟩ = some (.int .i64 b1) ∧ W.cell? ⟨bs, 4, none⟩ = some (.int .i64 b2) ∧ W.cell? ⟨bs, 5, none⟩ = some (.int .i64 b3) ∧ W.cell? ⟨bs, 6, none⟩ = some (.int .i64 b4) ∧ W.cell? ⟨bs, 7, none⟩ = some (.int .i64 b5) ∧ W.cell? ⟨bs, 8, none⟩ = some (.int .i64 b6))
            (first | exact KK.out _ D8 | exact KK.out _ D7 | exact KK.out _ D6 | exact KK.out _ D5 | go_keep)
            (first
              | (go_at_call 16; refine PU.out.mono ?_; rintro e w5 ⟨rfl, T5, C5⟩; have D5 : Chg (fun k => w1.heap.size ≤ k ∧ ¬ k = bs) wa w5 := ((Chg.refl _ wa).drew).trans C5 (fun _ q _ => q); clear C5)
              | (go_at_call 18; refine (RP.out w5 T5 D5.size).mono ?_; rintro e w6 ⟨rfl, T6, C6⟩; have D6 : Chg (fun k => w1.heap.size ≤ k ∧ ¬ k = bs) wa w6 := D5.trans C6 (fun _ q _ => q); clear C6)
              | (go_at_call 19; refine (MY.out w6).mono ?_; rintro e w7 ⟨rfl, B7⟩; have D7 := D6.trans ((below_chg B7).mono (T := fun _ => False) (fun _ f _ => f)) (fun _ f _ => f.elim); have T7 := T6.below B7; clear B7)
              | (go_at_call 20; refine (RM.out w7).mono ?_; rintro e w8 ⟨rfl, B8⟩; have D8 := D7.trans ((below_chg B8).mono (T := fun _ => False) (fun _ f _ => f)) (fun _ f _ => f.elim); have TX := T7.below B8; clear B8)
              | fail)
          all_goals
            generalize pushQ X ⟨b0, b1, b2, b3, b4, b5, b6⟩ = Y at *
            have T8 := Hid.intro (TX)
            have B8 := Hid.intro (BBH.out.trans (D8.below BBH.out.size (fun k hk => hk.1)))
            clear T5 T6 T7 TX D5 D6 D7 D8 KK PU RP MY RM a0 a1 a2 a3 a4 a5 a6 a7 a8 TA BBH
            obtain ⟨v8, R8, k8, s8⟩ := T8.out.lists
            obtain ⟨la8, lc8, rfl⟩ := s8.len
            have okX := Hid.intro T8.out.okX
            have S8 := Hid.intro s8
            have x40 := okX.out.few
            have LS := Hid.intro (r_list (T8.out.below (Below.refl _ w8).drew))
            have LF := Hid.intro (fun (V : World) (hV : Below w8.heap.size w8 V) => r_left (T8.out.below hV))
            have RL := Hid.intro (fun (V : World) (hV : Below w8.heap.size w8 V) => r_rleft (T8.out.below hV))
            have SM : Hid (∀ (V : World) (v9 : Value) (R9 : Nat → Prop), Below w8.heap.size w8 V → JsAt R9 V v9 Y → Calls Try.prog 22 #[v9, .slice la8 Y.length lc8] V fun e w' => e = .returned (.bool true) ∧ Below V.heap.size V w') := fun V v9 R9 hB9 h9 => by
              have q := refSame12_any R9 R8 v9 (.slice la8 Y.length lc8) Y Y (by omega) (by omega) V h9 (S8.out.below hB9)
              rw [decide_eq_true rfl] at q
              exact q
            clear s8
            generalize Y.length = xn at *
            generalize leftQ Y = lq at *
            have lql : (lq != lq) = false := by simp
            go_wp2_with fail
            go_region_held3 (fun w' => w'.cell? ⟨rb, 0, none⟩ = some (.slice la8 xn lc8))
              (first | exact cellB E12 k8 | exact cellB E11 k8 | exact cellB E10 k8 | exact cellB E9 k8 | go_keep)
              (first
                | (go_at_call 14; refine LS.out.mono ?_; rintro e w9 ⟨v9, rfl, s9, B9⟩; have E9 : Below w8.heap.size w8 w9 := ((Below.refl _ w8).drew).trans B9; clear B9)
                | (go_at_call 22; refine (SM.out w9 v9 _ E9 s9).mono ?_; rintro e w10 ⟨rfl, B10⟩; have E10 := E9.trans (B10.mono E9.size); clear B10)
                | (go_at_call 15; refine (LF.out w10 E10).mono ?_; rintro e w11 ⟨rfl, B11⟩; have E11 := E10.trans (B11.mono E10.size); clear B11)
                | (go_at_call 25; refine (RL.out w11 E11).mono ?_; rintro e w12 ⟨rfl, B12⟩; have E12 := E11.trans (B12.mono E11.size); clear B12)
                | fail)
            all_goals
              have TZ := Hid.intro (((T8.out.below E12).less (G := fun _ => False) (fun _ q => q.elim)).more (show k + 1 ≤ k + 1 by omega))
              have BZ := Hid.intro (B8.out.trans (E12.mono B8.out.size))
              clear E9 E10 E11 E12 s9 LS SM LF RL k8 T8 B8 S8 okX
              go_wp2
              go_roundw
              case rel => exact ⟨k + 1, Y, by omega, by go_num, TZ.out, BZ.out⟩
              case measure => simp [intOf]; omega
      · have e0' : (kd == 0) = false := by rw [beq_eq_false_iff_ne]; exact e0
        by_cases e1 : kd = 1
        · subst e1
          have n5 := U5.out rfl
          go_wp2_with fail
          rw [← HBX.out]
          clear d0 d1 c0 c1 c2 c3 c4 c5 c6 HBX
          generalize wr.alloc (.cells #[.int .i64 1, .int .i64 nn, .int .i64 b0, .int .i64 b1, .int .i64 b2, .int .i64 b3, .int .i64 b4, .int .i64 b5, .int .i64 b6] 43) = wa at *
          have a1 : wa.cell? ⟨bs, 1, none⟩ = some (.int .i64 nn) := by rw [cell_of_row _ _ 1 _ _ _ bAH.out]; rfl
          have X40 := TA.out.okX.few
          have dl := workD_len X nn.toNat
          have WK := Hid.intro (r_work nn TA.out (fun k q => by rw [q]; exact SA.out) BBH.out.size (by omega))
          clear bAH
          refine WK.out.mono ?_
          rintro e w5 ⟨v5, N5, rfl, s5, n5', T5, C5⟩
          have g1 := cell_chg C5 a1 (fun q => q.2 rfl)
          have sz5 := C5.size
          have RW := Hid.intro (r_rwork nn (by omega) T5 (fun k q => by
            rcases q with q | q
            · rw [q]; exact Nat.lt_of_lt_of_le SA.out sz5
            · exact (n5' k q).2) (Nat.le_trans BBH.out.size sz5))
          obtain ⟨p5, q5, rfl⟩ := s5.len
          have S5 := Hid.intro s5
          have B5 := Hid.intro (BBH.out.trans (C5.below BBH.out.size (fun k hk => hk.1)))
          have DL := Hid.intro dl
          clear WK s5 T5 C5 n5' sz5
          generalize (workD X nn.toNat).length = dn at *
          go_wp2_with fail
          refine RW.out.mono ?_
          rintro e w6 ⟨v6, N6, rfl, s6, n6, T6, C6⟩
          obtain ⟨p6, q6, rfl⟩ := s6.len
          have SMM := Hid.intro (refSame12_any _ _ _ _ (workD X nn.toNat) (workD X nn.toNat) (by have := workD_len X nn.toNat; omega) (by have := workD_len X nn.toNat; omega) w6 (S5.out.kept C6 (fun k hk q => q.2 (.inr hk))) s6)
          rw [decide_eq_true rfl] at SMM
          have B6 := Hid.intro (B5.out.trans (C6.below B5.out.size (fun k hk => hk.1)))
          have T6H := Hid.intro T6
          clear RW s6 T6 C6 n6 g1 a1 S5 B5 DL
          generalize workN X nn.toNat = wn at *
          generalize workR X nn.toNat = Y at *
          generalize (workD X nn.toNat).length = dm at *
          have wnw : ((wn : Int) == (wn : Int)) = true := by simp
          go_wp2_with fail
          refine SMM.out.mono ?_
          rintro e w7 ⟨rfl, B7⟩
          have T8 := Hid.intro (T6H.out.below B7)
          have B8 := Hid.intro (B6.out.trans (B7.mono B6.out.size))
          clear SMM B7 B6 T6H TA BBH
          obtain ⟨v8, R8, k8, s8⟩ := T8.out.lists
          obtain ⟨la8, lc8, rfl⟩ := s8.len
          have okX := Hid.intro T8.out.okX
          have S8 := Hid.intro s8
          have x40 := okX.out.few
          have LS := Hid.intro (r_list (T8.out.below (Below.refl _ w7).drew))
          have LF := Hid.intro (fun (V : World) (hV : Below w7.heap.size w7 V) => r_left (T8.out.below hV))
          have RL := Hid.intro (fun (V : World) (hV : Below w7.heap.size w7 V) => r_rleft (T8.out.below hV))
          have SM : Hid (∀ (V : World) (v9 : Value) (R9 : Nat → Prop), Below w7.heap.size w7 V → JsAt R9 V v9 Y → Calls Try.prog 22 #[v9, .slice la8 Y.length lc8] V fun e w' => e = .returned (.bool true) ∧ Below V.heap.size V w') := fun V v9 R9 hB9 h9 => by
            have q := refSame12_any R9 R8 v9 (.slice la8 Y.length lc8) Y Y (by omega) (by omega) V h9 (S8.out.below hB9)
            rw [decide_eq_true rfl] at q
            exact q
          clear s8
          generalize Y.length = xn at *
          generalize leftQ Y = lq at *
          have lql : (lq != lq) = false := by simp
          go_wp2_with fail
          go_region_held3 (fun w' => w'.cell? ⟨rb, 0, none⟩ = some (.slice la8 xn lc8))
            (first | exact cellB E12 k8 | exact cellB E11 k8 | exact cellB E10 k8 | exact cellB E9 k8 | go_keep)
            (first
              | (go_at_call 14; refine LS.out.mono ?_; rintro e w9 ⟨v9, rfl, s9, B9⟩; have E9 : Below w7.heap.size w7 w9 := ((Below.refl _ w7).drew).trans B9; clear B9)
              | (go_at_call 22; refine (SM.out w9 v9 _ E9 s9).mono ?_; rintro e w10 ⟨rfl, B10⟩; have E10 := E9.trans (B10.mono E9.size); clear B10)
              | (go_at_call 15; refine (LF.out w10 E10).mono ?_; rintro e w11 ⟨rfl, B11⟩; have E11 := E10.trans (B11.mono E10.size); clear B11)
              | (go_at_call 25; refine (RL.out w11 E11).mono ?_; rintro e w12 ⟨rfl, B12⟩; have E12 := E11.trans (B12.mono E11.size); clear B12)
              | fail)
          all_goals
            have TZ := Hid.intro (((T8.out.below E12).less (G := fun _ => False) (fun _ q => q.elim)).more (show k ≤ k + 1 by omega))
            have BZ := Hid.intro (B8.out.trans (E12.mono B8.out.size))
            clear E9 E10 E11 E12 s9 LS SM LF RL k8 T8 B8 S8 okX
            go_wp2
            go_roundw
            case rel => exact ⟨k + 1, Y, by omega, by go_num, TZ.out, BZ.out⟩
            case measure => simp [intOf]; omega
        · have e1' : (kd == 1) = false := by rw [beq_eq_false_iff_ne]; exact e1
          by_cases e2 : kd = 2
          · subst e2
            go_wp2_with fail
            rw [← HBX.out]
            clear d0 d1 c0 c1 c2 c3 c4 c5 c6 HBX
            generalize wr.alloc (.cells #[.int .i64 2, .int .i64 nn, .int .i64 b0, .int .i64 b1, .int .i64 b2, .int .i64 b3, .int .i64 b4, .int .i64 b5, .int .i64 b6] 43) = wa at *
            have a1 : wa.cell? ⟨bs, 1, none⟩ = some (.int .i64 nn) := by rw [cell_of_row _ _ 1 _ _ _ bAH.out]; rfl
            have X40 := TA.out.okX.few
            have dl := late_len X nn
            have HF := Hid.intro (r_late nn (TA.out.below (Below.refl _ wa).drew) (fun k q => by rw [q]; exact SA.out) BBH.out.size)
            have HRF := Hid.intro (fun (W : World) (R : Nat → Prop) (q : TwoR R w1.heap.size W a rb (lateR X nn) X k) (hR : ∀ k, R k → k < W.heap.size) (hs : wa.heap.size ≤ W.heap.size) => r_rlate nn q hR (Nat.le_trans BBH.out.size hs))
            have SMM : Hid (∀ (W : World) (R R' : Nat → Prop) (u v : Value), JsAt R W u (lateD X nn) → JsAt R' W v (lateD X nn) → Calls Try.prog 22 #[u, v] W fun e w' => e = .returned (.bool true) ∧ Below W.heap.size W w') := fun W R R' u v h1 h2 => by
              have q := refSame12_any R R' u v (lateD X nn) (lateD X nn) (by omega) (by omega) W h1 h2
              rw [decide_eq_true rfl] at q
              exact q
            clear bAH
            go_region_held3 (fun w' => w'.cell? ⟨bs, 1, none⟩ = some (.int .i64 nn))
              (first | exact cell_chg D7 a1 (fun q => q.2 rfl) | exact cell_chg D6 a1 (fun q => q.2 rfl) | exact cell_chg D5 a1 (fun q => q.2 rfl) | go_keep)
              (first
                | (go_at_call 12; refine HF.out.mono ?_; rintro e w5 ⟨v5, N5, rfl, s5, n5, T5, C5⟩; have D5 : Chg (fun k => w1.heap.size ≤ k ∧ ¬ k = bs) wa w5 := ((Chg.refl _ wa).drew).trans C5 (fun _ q _ => q); clear C5)
                | (go_at_call 23; refine (HRF.out w5 _ T5 (fun k q => q.elim (fun q => by rw [q]; exact Nat.lt_of_lt_of_le SA.out D5.size) (fun q => (n5 k q).2)) D5.size).mono ?_; rintro e w6 ⟨v6, N6, rfl, s6, n6, T6, C6⟩; have D6 : Chg (fun k => w1.heap.size ≤ k ∧ ¬ k = bs) wa w6 := D5.trans C6 (fun k q _ => ⟨q.1, fun e => q.2 (.inl e)⟩); have s56 := s5.kept C6 (fun k hk q => q.2 (.inr hk)); clear C6)
                | (go_at_call 22; refine (SMM.out w6 _ _ v5 v6 s56 s6).mono ?_; rintro e w7 ⟨rfl, B7⟩; have D7 := D6.trans ((below_chg B7).mono (T := fun _ => False) (fun _ f _ => f)) (fun _ f _ => f.elim); have T7 := T6.below B7; clear B7)
                | fail)
            all_goals
              generalize lateR X nn = Y at *
              have T8 := Hid.intro (T7)
              have B8 := Hid.intro (BBH.out.trans (D7.below BBH.out.size (fun k hk => hk.1)))
              clear T5 T6 T7 D5 D6 D7 HF HRF SMM s5 s6 s56 n5 n6 a1 TA BBH dl
              obtain ⟨v8, R8, k8, s8⟩ := T8.out.lists
              obtain ⟨la8, lc8, rfl⟩ := s8.len
              have okX := Hid.intro T8.out.okX
              have S8 := Hid.intro s8
              have x40 := okX.out.few
              have LS := Hid.intro (r_list (T8.out.below (Below.refl _ w7).drew))
              have LF := Hid.intro (fun (V : World) (hV : Below w7.heap.size w7 V) => r_left (T8.out.below hV))
              have RL := Hid.intro (fun (V : World) (hV : Below w7.heap.size w7 V) => r_rleft (T8.out.below hV))
              have SM : Hid (∀ (V : World) (v9 : Value) (R9 : Nat → Prop), Below w7.heap.size w7 V → JsAt R9 V v9 Y → Calls Try.prog 22 #[v9, .slice la8 Y.length lc8] V fun e w' => e = .returned (.bool true) ∧ Below V.heap.size V w') := fun V v9 R9 hB9 h9 => by
                have q := refSame12_any R9 R8 v9 (.slice la8 Y.length lc8) Y Y (by omega) (by omega) V h9 (S8.out.below hB9)
                rw [decide_eq_true rfl] at q
                exact q
              clear s8
              generalize Y.length = xn at *
              generalize leftQ Y = lq at *
              have lql : (lq != lq) = false := by simp
              go_wp2_with fail
              go_region_held3 (fun w' => w'.cell? ⟨rb, 0, none⟩ = some (.slice la8 xn lc8))
                (first | exact cellB E12 k8 | exact cellB E11 k8 | exact cellB E10 k8 | exact cellB E9 k8 | go_keep)
                (first
                  | (go_at_call 14; refine LS.out.mono ?_; rintro e w9 ⟨v9, rfl, s9, B9⟩; have E9 : Below w7.heap.size w7 w9 := ((Below.refl _ w7).drew).trans B9; clear B9)
                  | (go_at_call 22; refine (SM.out w9 v9 _ E9 s9).mono ?_; rintro e w10 ⟨rfl, B10⟩; have E10 := E9.trans (B10.mono E9.size); clear B10)
                  | (go_at_call 15; refine (LF.out w10 E10).mono ?_; rintro e w11 ⟨rfl, B11⟩; have E11 := E10.trans (B11.mono E10.size); clear B11)
                  | (go_at_call 25; refine (RL.out w11 E11).mono ?_; rintro e w12 ⟨rfl, B12⟩; have E12 := E11.trans (B12.mono E11.size); clear B12)
                  | fail)
              all_goals
                have TZ := Hid.intro (((T8.out.below E12).less (G := fun _ => False) (fun _ q => q.elim)).more (show k ≤ k + 1 by omega))
                have BZ := Hid.intro (B8.out.trans (E12.mono B8.out.size))
                clear E9 E10 E11 E12 s9 LS SM LF RL k8 T8 B8 S8 okX
                go_wp2
                go_roundw
                case rel => exact ⟨k + 1, Y, by omega, by go_num, TZ.out, BZ.out⟩
                case measure => simp [intOf]; omega
          · have e2' : (kd == 2) = false := by rw [beq_eq_false_iff_ne]; exact e2
            by_cases e3 : kd = 3
            · subst e3
              go_wp2_with fail
              rw [← HBX.out]
              clear d0 d1 c0 c1 c2 c3 c4 c5 c6 HBX
              generalize wr.alloc (.cells #[.int .i64 3, .int .i64 nn, .int .i64 b0, .int .i64 b1, .int .i64 b2, .int .i64 b3, .int .i64 b4, .int .i64 b5, .int .i64 b6] 43) = wa at *
              have a1 : wa.cell? ⟨bs, 1, none⟩ = some (.int .i64 nn) := by rw [cell_of_row _ _ 1 _ _ _ bAH.out]; rfl
              have HF := Hid.intro (r_drop nn (TA.out.below (Below.refl _ wa).drew) (fun k q => by rw [q]; exact SA.out) BBH.out.size)
              have HRF := Hid.intro (fun (W : World) (q : TwoR (fun k => k = bs) w1.heap.size W a rb (dropR X nn) X k) (hs : wa.heap.size ≤ W.heap.size) => r_rdrop nn q (fun k q => by rw [q]; exact Nat.lt_of_lt_of_le SA.out hs) (Nat.le_trans BBH.out.size hs))
              generalize dropN X nn = dn at *
              have dnd : ((dn : Int) == (dn : Int)) = true := by simp
              clear bAH
              go_region_held3 (fun w' => w'.cell? ⟨bs, 1, none⟩ = some (.int .i64 nn))
                (first | exact cell_chg D6 a1 (fun q => q.2 rfl) | exact cell_chg D5 a1 (fun q => q.2 rfl) | go_keep)
                (first
                  | (go_at_call 13; refine HF.out.mono ?_; rintro e w5 ⟨rfl, T5, C5⟩; have D5 : Chg (fun k => w1.heap.size ≤ k ∧ ¬ k = bs) wa w5 := ((Chg.refl _ wa).drew).trans C5 (fun _ q _ => q); clear C5)
                  | (go_at_call 24; refine (HRF.out w5 T5 D5.size).mono ?_; rintro e w6 ⟨rfl, T6, C6⟩; have D6 : Chg (fun k => w1.heap.size ≤ k ∧ ¬ k = bs) wa w6 := D5.trans C6 (fun _ q _ => q); clear C6)
                  | fail)
              all_goals
                generalize dropR X nn = Y at *
                have T8 := Hid.intro (T6)
                have B8 := Hid.intro (BBH.out.trans (D6.below BBH.out.size (fun k hk => hk.1)))
                clear T5 T6 D5 D6 HF HRF a1 TA BBH
                obtain ⟨v8, R8, k8, s8⟩ := T8.out.lists
                obtain ⟨la8, lc8, rfl⟩ := s8.len
                have okX := Hid.intro T8.out.okX
                have S8 := Hid.intro s8
                have x40 := okX.out.few
                have LS := Hid.intro (r_list (T8.out.below (Below.refl _ w6).drew))
                have LF := Hid.intro (fun (V : World) (hV : Below w6.heap.size w6 V) => r_left (T8.out.below hV))
                have RL := Hid.intro (fun (V : World) (hV : Below w6.heap.size w6 V) => r_rleft (T8.out.below hV))
                have SM : Hid (∀ (V : World) (v9 : Value) (R9 : Nat → Prop), Below w6.heap.size w6 V → JsAt R9 V v9 Y → Calls Try.prog 22 #[v9, .slice la8 Y.length lc8] V fun e w' => e = .returned (.bool true) ∧ Below V.heap.size V w') := fun V v9 R9 hB9 h9 => by
                  have q := refSame12_any R9 R8 v9 (.slice la8 Y.length lc8) Y Y (by omega) (by omega) V h9 (S8.out.below hB9)
                  rw [decide_eq_true rfl] at q
                  exact q
                clear s8
                generalize Y.length = xn at *
                generalize leftQ Y = lq at *
                have lql : (lq != lq) = false := by simp
                go_wp2_with fail
                go_region_held3 (fun w' => w'.cell? ⟨rb, 0, none⟩ = some (.slice la8 xn lc8))
                  (first | exact cellB E12 k8 | exact cellB E11 k8 | exact cellB E10 k8 | exact cellB E9 k8 | go_keep)
                  (first
                    | (go_at_call 14; refine LS.out.mono ?_; rintro e w9 ⟨v9, rfl, s9, B9⟩; have E9 : Below w6.heap.size w6 w9 := ((Below.refl _ w6).drew).trans B9; clear B9)
                    | (go_at_call 22; refine (SM.out w9 v9 _ E9 s9).mono ?_; rintro e w10 ⟨rfl, B10⟩; have E10 := E9.trans (B10.mono E9.size); clear B10)
                    | (go_at_call 15; refine (LF.out w10 E10).mono ?_; rintro e w11 ⟨rfl, B11⟩; have E11 := E10.trans (B11.mono E10.size); clear B11)
                    | (go_at_call 25; refine (RL.out w11 E11).mono ?_; rintro e w12 ⟨rfl, B12⟩; have E12 := E11.trans (B12.mono E11.size); clear B12)
                    | fail)
                all_goals
                  have TZ := Hid.intro (((T8.out.below E12).less (G := fun _ => False) (fun _ q => q.elim)).more (show k ≤ k + 1 by omega))
                  have BZ := Hid.intro (B8.out.trans (E12.mono B8.out.size))
                  clear E9 E10 E11 E12 s9 LS SM LF RL k8 T8 B8 S8 okX
                  go_wp2
                  go_roundw
                  case rel => exact ⟨k + 1, Y, by omega, by go_num, TZ.out, BZ.out⟩
                  case measure => simp [intOf]; omega
            · have e3' : (kd == 3) = false := by rw [beq_eq_false_iff_ne]; exact e3
              obtain ⟨wa, hwa⟩ : ∃ wa, wa = wr.alloc (.cells #[.int .i64 kd, .int .i64 nn, .int .i64 b0, .int .i64 b1, .int .i64 b2, .int .i64 b3, .int .i64 b4, .int .i64 b5, .int .i64 b6] 43) := ⟨_, rfl⟩
              rw [← hwa] at TA BBH bAH
              have a0 : wa.cell? ⟨bs, 0, none⟩ = some (.int .i64 kd) := by rw [cell_of_row _ _ 0 _ _ _ bAH.out]; rfl
              go_wp2_with fail
              rw [← HBX.out, ← hwa]
              clear d0 d1 c0 c1 c2 c3 c4 c5 c6 HBX bAH hwa
              have T8 := Hid.intro (TA.out)
              have B8 := Hid.intro (BBH.out)
              clear TA BBH a0
              obtain ⟨v8, R8, k8, s8⟩ := T8.out.lists
              obtain ⟨la8, lc8, rfl⟩ := s8.len
              have okX := Hid.intro T8.out.okX
              have S8 := Hid.intro s8
              have x40 := okX.out.few
              have LS := Hid.intro (r_list (T8.out.below (Below.refl _ wa).drew))
              have LF := Hid.intro (fun (V : World) (hV : Below wa.heap.size wa V) => r_left (T8.out.below hV))
              have RL := Hid.intro (fun (V : World) (hV : Below wa.heap.size wa V) => r_rleft (T8.out.below hV))
              have SM : Hid (∀ (V : World) (v9 : Value) (R9 : Nat → Prop), Below wa.heap.size wa V → JsAt R9 V v9 X → Calls Try.prog 22 #[v9, .slice la8 X.length lc8] V fun e w' => e = .returned (.bool true) ∧ Below V.heap.size V w') := fun V v9 R9 hB9 h9 => by
                have q := refSame12_any R9 R8 v9 (.slice la8 X.length lc8) X X (by omega) (by omega) V h9 (S8.out.below hB9)
                rw [decide_eq_true rfl] at q
                exact q
              clear s8
              generalize X.length = xn at *
              generalize leftQ X = lq at *
              have lql : (lq != lq) = false := by simp
              go_wp2_with fail
              go_region_held3 (fun w' => w'.cell? ⟨rb, 0, none⟩ = some (.slice la8 xn lc8))
                (first | exact cellB E12 k8 | exact cellB E11 k8 | exact cellB E10 k8 | exact cellB E9 k8 | go_keep)
                (first
                  | (go_at_call 14; refine LS.out.mono ?_; rintro e w9 ⟨v9, rfl, s9, B9⟩; have E9 : Below wa.heap.size wa w9 := ((Below.refl _ wa).drew).trans B9; clear B9)
                  | (go_at_call 22; refine (SM.out w9 v9 _ E9 s9).mono ?_; rintro e w10 ⟨rfl, B10⟩; have E10 := E9.trans (B10.mono E9.size); clear B10)
                  | (go_at_call 15; refine (LF.out w10 E10).mono ?_; rintro e w11 ⟨rfl, B11⟩; have E11 := E10.trans (B11.mono E10.size); clear B11)
                  | (go_at_call 25; refine (RL.out w11 E11).mono ?_; rintro e w12 ⟨rfl, B12⟩; have E12 := E11.trans (B12.mono E11.size); clear B12)
                  | fail)
              all_goals
                have TZ := Hid.intro (((T8.out.below E12).less (G := fun _ => False) (fun _ q => q.elim)).more (show k ≤ k + 1 by omega))
                have BZ := Hid.intro (B8.out.trans (E12.mono B8.out.size))
                clear E9 E10 E11 E12 s9 LS SM LF RL k8 T8 B8 S8 okX
                go_wp2
                go_roundw
                case rel => exact ⟨k + 1, X, by omega, by go_num, TZ.out, BZ.out⟩
                case measure => simp [intOf]; omega
    · obtain rfl : k = L := by omega
      have k1 : ¬ (k : Int) < (k : Int) := by omega
      have FIN := Hid.intro (B1H.out.trans (BH.out.mono B1H.out.size))
      go_wp2
      go_ret
      exact ⟨rfl, FIN.out⟩

theorem walk (ao : Option Addr) (len c : Nat) (l : List Act12) (w : World) (hz : l.length = len ∧ ActsAt12 w ao l ∧ len ≤ maxLen) :
    Calls Try.prog 3 #[.slice ao len c] w fun e w' => e = .returned (.bool true) ∧ Below w.heap.size w w' := by
  obtain ⟨hl, hr, _⟩ := hz
  subst hl
  exact walk_main ao c l w hr

set_option maxRecDepth 100000 in
theorem lifted (os : Os) (started : os.Started) (H : Type) (enc : TypeId × Value → H) :
    ReturnsInHanded {} Try.checked os 3 .any (Rows.edfActsSpec.pre6 enc Try.prog Try.f3 Rows.edfActsRow.domain false) (Rows.edfActsSpec.post enc Try.prog Try.f3 false true false false) := by
  refine returnsInHanded_of_change (C := Try.checked) own started (by kernel_rfl) Try.func3
    (ChangeSpec.witness6 (enc := enc) (C := Try.checked) false ⟨#[], #[.slice none 0 0], []⟩ 8 (by kernel_rfl) (by kernel_rfl) (by kernel_rfl) (by kernel_rfl)) ?_
  intro W base args ds gs before hval0 hW hcnd _
  have hval : ∀ (j : Nat) t v, Try.f3.params[j]? = some t → args[j]? = some v → Value.okWide Try.prog W .any base t v := hval0
  have hW' := hW
  obtain ⟨p, q, hA0, hV, rfl, hfz, hnd⟩ := hW
  have hA : DataW.TrodAll enc Try.prog W 0 (fun _ => true) true Try.f3.params.toList args.toList ds p := hA0
  rw [Try.params3] at hA hval
  obtain ⟨v0, vs0, d0, ds0, p0, q0, hargs, rfl, rfl, h0, r0⟩ := trodAll_cons hA
  obtain ⟨rfl, rfl, rfl⟩ := trodAll_nil r0
  obtain rfl : args = #[v0] := by cases args; simp_all
  obtain ⟨rfl, rfl⟩ := trodVars_none hV
  have k0 := h0
  have lt0 : ∀ x ∈ p0, x.block < W.heap.size := by obtain ⟨m, hm⟩ := k0; exact DataW.trod_lt m _ _ _ hm
  obtain ⟨a0, len0, cap0, rfl⟩ := okWide_slice Try.underlying22 (hval 0 22 v0 rfl rfl)
  obtain ⟨z0, w0⟩ := open_acts h0
  clear hA0 hval0
  refine (walk a0 len0 cap0 z0 W w0).mono fun e W' ⟨he, bel⟩ => ?_
  subst he
  exact ⟨_, rfl, _, _, _, [], _, [], hW', trodAll_mk1 (shut_bool Try.underlying4 _), (trodAll_cons_mk (Below.trod laidOut (by kernel_rfl) (of_decide_eq_true (by kernel_rfl)) k0 bel lt0) trodAll_mk0), rfl, bel.frame _, fun h => by cases h⟩

theorem over : Rows.edfActsRow.holds Try.pinned (OpenSpec.ofChange Rows.edfActsSpec) :=
  OpenClaim.holds_of_wide 3 Try.f3 rfl rfl rfl rfl rfl rfl rfl ⟨rfl, rfl, rfl, rfl, rfl⟩ rfl rfl rfl rfl rfl (by kernel_rfl) Try.func3 (by kernel_rfl)
    (of_decide_eq_true (by kernel_rfl)) (by unfold Func.isWrapper; first | (rw [if_pos (by decide +kernel)]; kernel_rfl) | (rw [if_neg (by decide +kernel)]; exact ⟨rfl, rfl⟩))
    (fun os started H enc _ => lifted os started H enc)

end Go.Proofs.Ytgcpkploeobafaa.LEdfActs

namespace Go.Proofs.Ytgcpkploeobafaa
theorem edfActs_holds : Rows.EdfActsSaid := LEdfActs.over
#print axioms edfActs_holds
end Go.Proofs.Ytgcpkploeobafaa
