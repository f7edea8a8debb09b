/- The statement RoamActs: whoever is heard, wherever, and forgotten, what comes of it, and who is followed, are the document's all along. -/
import Derived.Test.YtohedeeajcdjcaaDoorRoAlive
import Derived.Test.YtohedeeajcdjcaaDoorRoArg
import Derived.Test.YtohedeeajcdjcaaDoorRoFew9
import Derived.Test.YtohedeeajcdjcaaDoorRoTwo
import Derived.Test.YtohedeeajcdjcaaDoorFrmLaid
namespace Go.Proofs.YtohedeeajcdjcaaDoor
open Go.ChangeShapes Go.WideShapes Go.ChangeAt Go.RowKit Go.Joins
open Bt

namespace LRoamActs

theorem acts_below {w w' : World} {ao : Option Addr} {l : List Act9} (h : ActsAt9 w ao l) (hb : Below w.heap.size w w') : ActsAt9 w' ao l := fun h0 => by
  obtain ⟨b, off, e, hc⟩ := h h0
  exact ⟨b, off, e, fun i hi => by
    obtain ⟨x0, x1, x2, x3, x4⟩ := hc i hi
    exact ⟨cell9 hb x0, cell9 hb x1, cell9 hb x2, cell9 hb x3, cell9 hb x4⟩⟩

open Classical in
set_option maxRecDepth 100000 in
set_option maxHeartbeats 1000000 in
theorem walk_nil (r a m : Int) (ao : Option Addr) (cap : Nat) (l : List Act9) (w : World) (hr : ActsAt9 w ao l) (hW : Wid w) (h : mayR r a m = false) :
    Calls Tryd.prog 3 #[Rm r a m, .slice ao l.length cap] w fun e w' => e = .returned (.bool true) ∧ Below w.heap.size w w' := by
  have NO := Hid.intro (fun w => onew_no r a m h w)
  have MY := Hid.intro (fun w => omay_any r a m w)
  have RM := Hid.intro (fun w => refMay9_any r a m w)
  rw [h] at MY RM
  have B0 := Hid.intro ((Below.refl _ w).alloc (Nat.le_refl _) (.cells #[.int .i64 r, .int .i64 a, .int .i64 m] 23))
  have b0 := Hid.intro (heap_alloc_new w (.cells #[.int .i64 r, .int .i64 a, .int .i64 m] 23))
  have W0 := Hid.intro (hW.below B0.out)
  have HR := Hid.intro hr
  clear h hW hr
  go_enter Tryd.func3, Tryd.ntmps3
  go_wp2_with fail
  refine (alive9_any _ W0.out).mono ?_
  rintro e w1 ⟨rfl, B1⟩
  have b1 := (B1.block _ (lt_of_heap b0.out)).trans b0.out
  have B1H := Hid.intro (B0.out.trans (B1.mono B0.out.size))
  have FW := Hid.intro (few9_any ao cap l w1 (acts_below HR.out B1H.out))
  have b1H := Hid.intro b1
  clear B1 B0 W0 b0 b1
  generalize l.length = n at *
  go_wp2_with fail
  refine FW.out.mono ?_
  rintro e w2 ⟨rfl, B2⟩
  have B2H := Hid.intro (B1H.out.trans (B2.mono B1H.out.size))
  have b2 := (B2.block _ (lt_of_heap b1H.out)).trans b1H.out
  clear B2 FW b1H B1H
  generalize decide (few9B l) = fb
  cases fb with
  | false =>
    go_wp2
    go_ret
    exact ⟨rfl, B2H.out⟩
  | true =>
    have c0 : w2.cell? ⟨w.heap.size, 0, none⟩ = some (.int .i64 r) := by rw [cell_of_row _ _ 0 _ _ _ b2]; rfl
    have c1 : w2.cell? ⟨w.heap.size, 1, none⟩ = some (.int .i64 a) := by rw [cell_of_row _ _ 1 _ _ _ b2]; rfl
    have c2 : w2.cell? ⟨w.heap.size, 2, none⟩ = some (.int .i64 m) := by rw [cell_of_row _ _ 2 _ _ _ b2]; rfl
    go_wp2_with fail
    refine (NO.out w2).mono ?_
    rintro e w3 ⟨rfl, B3⟩
    have B3H := Hid.intro (B2H.out.trans (B3.mono B2H.out.size))
    have d0 := below_cell B3 c0
    have d1 := below_cell B3 c1
    have d2 := below_cell B3 c2
    clear B3 NO c0 c1 c2 b2
    go_wp2_with fail
    refine (RM.out w3).mono ?_
    rintro e w4 ⟨rfl, B4⟩
    have B4H := Hid.intro (B3H.out.trans (B4.mono B3H.out.size))
    have c0 := below_cell B4 d0
    have c1 := below_cell B4 d1
    have c2 := below_cell B4 d2
    clear B4 RM d0 d1 d2
    go_wp2_with fail
    refine (ohome_nil 0 w4).mono ?_
    rintro e w5 ⟨rfl, B5⟩
    have B5H := Hid.intro (B4H.out.trans (B5.mono B4H.out.size))
    have d0 := below_cell B5 c0
    have d1 := below_cell B5 c1
    have d2 := below_cell B5 c2
    clear B5 c0 c1 c2
    go_wp2_with fail
    refine (MY.out w5).mono ?_
    rintro e w6 ⟨rfl, B6⟩
    have B6H := Hid.intro (B5H.out.trans (B6.mono B5H.out.size))
    clear B6 MY d0 d1 d2
    go_wp2_with fail
    refine (ohear_nil 0 0 0 0 w6).mono ?_
    rintro e w7 ⟨rfl, B7⟩
    have B7H := Hid.intro (B6H.out.trans (B7.mono B6H.out.size))
    clear B7
    go_wp2_with fail
    refine (oforget_nil 0 w7).mono ?_
    rintro e w8 ⟨a8, c8, rfl, B8⟩
    have B8H := Hid.intro (B7H.out.trans (B8.mono B7H.out.size))
    clear B8
    go_wp2_with fail
    refine (olist_nil w8).mono ?_
    rintro e w9 ⟨a9, c9, rfl, B9⟩
    have B9H := Hid.intro (B8H.out.trans (B9.mono B8H.out.size))
    clear B9
    go_wp2
    go_ret
    exact ⟨rfl, B9H.out⟩

open Classical in
set_option maxRecDepth 100000 in
set_option maxHeartbeats 4000000 in
theorem walk_near (r a m : Nat) (ao : Option Addr) (cap : Nat) (l : List Act9) (hmx : l.length ≤ maxLen) (w : World) (hr : ActsAt9 w ao l) (hW : Wid w) (h : mayR r a m = true) :
    Calls Tryd.prog 3 #[Rm r a m, .slice ao l.length cap] w fun e w' => e = .returned (.bool true) ∧ Below w.heap.size w w' := by
  have NW := Hid.intro (fun w => onew_yes r a m h w)
  have RM := Hid.intro (fun w => refMay9_any (r : Int) a m w)
  have T0 := Hid.intro (tab0_ok h)
  have hb := mayR_true h
  rw [h] at RM
  have B0 := Hid.intro ((Below.refl _ w).alloc (Nat.le_refl _) (.cells #[.int .i64 (r : Int), .int .i64 (a : Int), .int .i64 (m : Int)] 23))
  have b0 := Hid.intro (heap_alloc_new w (.cells #[.int .i64 (r : Int), .int .i64 (a : Int), .int .i64 (m : Int)] 23))
  have W0 := Hid.intro (hW.below B0.out)
  have HR := Hid.intro hr
  obtain ⟨LL, hLL⟩ : ∃ LL, LL = l.length := ⟨_, rfl⟩
  have HLL := Hid.intro hLL
  have FWA := Hid.intro (fun (W : World) (q : ActsAt9 W ao l) => few9_any ao cap l W q)
  rw [← hLL] at hmx FWA ⊢
  clear h hW hr hLL
  go_enter Tryd.func3, Tryd.ntmps3
  go_wp2_with fail
  refine (alive9_any _ W0.out).mono ?_
  rintro e w1 ⟨rfl, B1⟩
  have b1 := (B1.block _ (lt_of_heap b0.out)).trans b0.out
  have W1 := Hid.intro (W0.out.below B1)
  have B1H := Hid.intro (B0.out.trans (B1.mono B0.out.size))
  have FW := Hid.intro (FWA.out w1 (acts_below HR.out B1H.out))
  have b1H := Hid.intro b1
  clear b1 B1 B0 W0 b0 FWA
  go_wp2_with fail
  refine FW.out.mono ?_
  rintro e w2 ⟨rfl, B2⟩
  have W2 := Hid.intro (W1.out.below B2)
  have B2H := Hid.intro (B1H.out.trans (B2.mono B1H.out.size))
  have b2 := (B2.block _ (lt_of_heap b1H.out)).trans b1H.out
  clear B2 FW b1H W1
  rcases Classical.em (few9B l) with hfb | hfb
  case inr =>
    rw [decide_eq_false hfb]
    clear hfb
    go_wp2
    go_ret
    exact ⟨rfl, B2H.out⟩
  rw [decide_eq_true hfb]
  have HFB := Hid.intro hfb
  have h80 : LL ≤ 80 := by rw [HLL.out]; exact hfb.1
  clear hfb
  have c0 : w2.cell? ⟨w.heap.size, 0, none⟩ = some (.int .i64 (r : Int)) := by rw [cell_of_row _ _ 0 _ _ _ b2]; rfl
  have c1 : w2.cell? ⟨w.heap.size, 1, none⟩ = some (.int .i64 (a : Int)) := by rw [cell_of_row _ _ 1 _ _ _ b2]; rfl
  have c2 : w2.cell? ⟨w.heap.size, 2, none⟩ = some (.int .i64 (m : Int)) := by rw [cell_of_row _ _ 2 _ _ _ b2]; rfl
  clear b2
  go_wp2_with fail
  refine (NW.out w2).mono ?_
  rintro e w3 ⟨b, S, rfl, hS, hF, B3⟩
  have SH := Hid.intro hS
  have FH := Hid.intro hF
  have B3H := Hid.intro B3
  have d0 := below_cell B3 c0
  have d1 := below_cell B3 c1
  have d2 := below_cell B3 c2
  clear hS hF B3 NW c0 c1 c2
  go_wp2_with fail
  refine (RM.out w3).mono ?_
  rintro e w4 ⟨rfl, B4⟩
  have c0 := below_cell B4 d0
  have c1 := below_cell B4 d1
  have c2 := below_cell B4 d2
  have BR := (Below.refl _ w4).alloc (Nat.le_refl _) (.cells #[.int .i64 (r : Int), .int .i64 (a : Int), .int .i64 (m : Int), .slice none 0 0] 39)
  have bR := heap_alloc_new w4 (.cells #[.int .i64 (r : Int), .int .i64 (a : Int), .int .i64 (m : Int), .slice none 0 0] 39)
  have TW : Two9 (fun _ => False) w2.heap.size (w4.alloc (.cells #[.int .i64 (r : Int), .int .i64 (a : Int), .int .i64 (m : Int), .slice none 0 0] 39)) b w4.heap.size (tab0 r a m) (tab0 r a m) := by
    have hs3 := B3H.out.size
    have hs4 := B4.size
    refine ⟨S, fun k => k = w4.heap.size, (SH.out.kept (below_chg B4) (fun _ _ => id)).kept (below_chg BR) (fun _ _ => id), ⟨.slice none 0 0, bR, World.ownsRow_nil _ _ _ _, rfl, fun k hk => by simp [Value.ownBlock] at hk, fun k hk => by rw [hk]; exact lt_of_heap bR, T0.out⟩, fun k hk q => ?_, fun k hk => ⟨FH.out k hk, id⟩, fun k hk => ⟨by omega, id⟩⟩
    have := SH.out.lt k hk
    omega
  have TWH := Hid.intro TW
  have BW := Hid.intro (B3H.out.trans ((B4.mono B3H.out.size).trans (BR.mono (Nat.le_trans B3H.out.size B4.size))))
  have RD := Hid.intro (acts_below HR.out B2H.out)
  clear B4 RM d0 d1 d2 bR BR TW
  go_wp2_with fail
  have hBs : w2.heap.size ≤ (w4.alloc (.cells #[.int .i64 (r : Int), .int .i64 (a : Int), .int .i64 (m : Int), .slice none 0 0] 39)).heap.size := BW.out.size
  have HBS := Hid.intro hBs
  obtain ⟨rb, hrb⟩ : ∃ rb, rb = w4.heap.size := ⟨_, rfl⟩
  rw [← hrb] at TWH ⊢
  clear hBs hrb c0 c1 c2
  generalize w4.alloc (.cells #[.int .i64 (r : Int), .int .i64 (a : Int), .int .i64 (m : Int), .slice none 0 0] 39) = w5 at *
  go_loopw [9] (fun i wr => ∃ (k : Nat) (x : Tab), k ≤ LL ∧ i = .int .i64 k ∧ Two9 (fun _ => False) w2.heap.size wr b rb x x ∧ Below w2.heap.size w2 wr) (fun i _ => LL - (intOf i).toNat)
  case atStart => exact ⟨0, _, by omega, rfl, TWH.out, BW.out⟩
  case round =>
    clear TWH BW SH FH B3H
    obtain ⟨k, x, hk, rfl, hT, hBw⟩ := hrel
    have BWH := Hid.intro hBw
    by_cases hlt : k < LL
    · have k0 : (0 : Int) ≤ (k : Int) := by omega
      have k1 : (k : Int) < (LL : Int) := by omega
      have hkb : k < l.length := by rw [← HLL.out]; exact hlt
      obtain ⟨bb, off, rfl, hcc⟩ := RD.out (by omega)
      have FWK : few9P l[k] := HFB.out.2 _ (List.getElem_mem hkb)
      obtain ⟨x0, x1, x2, x3, x4⟩ := hcc k hkb
      generalize l[k] = A at x0 x1 x2 x3 x4 FWK
      obtain ⟨kd, ⟨tx, an, rs, la⟩⟩ := A
      have hla : 0 ≤ la ∧ la ≤ 1099511627776 := FWK
      dsimp only at x0 x1 x2 x3 x4
      have hc : ∀ {ad : Addr} {v : Value}, w2.cell? ad = some v → wr.cell? ad = some v := fun {ad v} q => (hBw.cell (p := ad) (cell_lt q)).trans q
      have y0 := hc x0
      have y1 := hc x1
      have y2 := hc x2
      have y3 := hc x3
      have y4 := hc x4
      have BA := (Below.refl _ wr).alloc (Nat.le_refl _) (.cells #[.int .i64 tx, .int .i64 an, .int .i64 rs, .int .i64 la] 41)
      have bA := heap_alloc_new wr (.cells #[.int .i64 tx, .int .i64 an, .int .i64 rs, .int .i64 la] 41)
      have sA := lt_of_heap bA
      have z0 := below_cell BA y0
      obtain ⟨bs, hbs⟩ : ∃ bs, bs = wr.heap.size := ⟨_, rfl⟩
      have TA := Hid.intro ((hT.grow BA).less (G := fun k => k = bs) (fun k q => .inr (by omega)))
      have BBH := Hid.intro (hBw.trans (BA.mono hBw.size))
      have WA : Hid (Wid (wr.alloc (.cells #[.int .i64 tx, .int .i64 an, .int .i64 rs, .int .i64 la] 41))) := by
        obtain ⟨t, fr, q⟩ := W2.out
        exact ⟨t, fr, (BBH.out.block 0 (lt_of_heap q)).trans q⟩
      rw [← hbs] at bA sA
      have HBX := Hid.intro hbs
      have SA := Hid.intro sA
      have bAH := Hid.intro bA
      clear x0 x1 x2 x3 x4 FWK hcc hT hBw BA hbs hc sA bA
      by_cases hkd : kd = 0
      · subst hkd
        go_wp2_with fail
        rw [← HBX.out]
        clear y0 y1 y2 y3 y4 HBX
        generalize wr.alloc (.cells #[.int .i64 tx, .int .i64 an, .int .i64 rs, .int .i64 la] 41) = wa at *
        have a0 : wa.cell? ⟨bs, 0, none⟩ = some (.int .i64 tx) := by rw [cell_of_row _ _ 0 _ _ _ bAH.out]; rfl
        have a1 : wa.cell? ⟨bs, 1, none⟩ = some (.int .i64 an) := by rw [cell_of_row _ _ 1 _ _ _ bAH.out]; rfl
        have a2 : wa.cell? ⟨bs, 2, none⟩ = some (.int .i64 rs) := by rw [cell_of_row _ _ 2 _ _ _ bAH.out]; rfl
        have a3 : wa.cell? ⟨bs, 3, none⟩ = some (.int .i64 la) := by rw [cell_of_row _ _ 3 _ _ _ bAH.out]; rfl
        clear bAH
        have HT := Hid.intro (two_hear tx an rs la (by omega) (WA.out.below (Below.refl _ wa).drew) (TA.out.below (Below.refl _ wa).drew) (fun k q => by rw [q]; exact SA.out) BBH.out.size)
        have HRT := Hid.intro (fun (W : World) (y : Tab) (q : Two9 (fun k => k = bs) w2.heap.size W b rb y x) (hs : wa.heap.size ≤ W.heap.size) => two_rhear tx an rs la (by omega) q (fun k q => by rw [q]; exact Nat.lt_of_lt_of_le SA.out hs) (Nat.le_trans BBH.out.size hs))
        go_region_held3 (fun w' => w'.cell? ⟨bs, 0, none⟩ = some (.int .i64 tx) ∧ w'.cell? ⟨bs, 1, none⟩ = some (.int .i64 an) ∧ w'.cell? ⟨bs, 2, none⟩ = some (.int .i64 rs) ∧ w'.cell? ⟨bs, 3, none⟩ = some (.int .i64 la))
          (first | exact ⟨cell_chg D6 a0 (fun q => q.2 rfl), cell_chg D6 a1 (fun q => q.2 rfl), cell_chg D6 a2 (fun q => q.2 rfl), cell_chg D6 a3 (fun q => q.2 rfl)⟩ | exact ⟨cell_chg D5 a0 (fun q => q.2 rfl), cell_chg D5 a1 (fun q => q.2 rfl), cell_chg D5 a2 (fun q => q.2 rfl), cell_chg D5 a3 (fun q => q.2 rfl)⟩ | go_keep)
          (first
            | (go_at_call 15; refine HT.out.mono ?_; rintro e w5 ⟨rfl, T5, C5⟩; have D5 : Chg (fun k => w2.heap.size ≤ k ∧ ¬ k = bs) wa w5 := ((Chg.refl _ wa).drew).trans C5 (fun _ q _ => q); clear C5)
            | (go_at_call 18; refine (HRT.out w5 _ T5 D5.size).mono ?_; rintro e w6 ⟨rfl, T6, C6⟩; have D6 : Chg (fun k => w2.heap.size ≤ k ∧ ¬ k = bs) wa w6 := D5.trans C6 (fun _ q _ => q); clear C6))
        all_goals
          have HX := Hid.intro T6.okX
          have e0 := cell_chg D6 a0 (fun q => q.2 rfl)
          have BZ6 := Hid.intro (BBH.out.trans (D6.below BBH.out.size (fun k hk => hk.1)))
          obtain ⟨z, hz⟩ : ∃ z, z = hearX x tx an rs la := ⟨_, rfl⟩
          rw [← hz] at T6 HX
          have HM := Hid.intro (two_home tx T6)
          have HRM := Hid.intro (fun W (q : Two9 (fun k => k = bs) w2.heap.size W b rb z z) => two_rhome tx q)
          have hz8 : z.l.length ≤ 8 := by have := HX.out.few; have := (mayR_true HX.out.may).2.1; omega
          obtain ⟨hA, ehA⟩ : ∃ hA, hA = homeA z tx := ⟨_, rfl⟩
          obtain ⟨hQ, ehQ⟩ : ∃ hQ, hQ = homeB z tx := ⟨_, rfl⟩
          rw [← ehA, ← ehQ] at HM HRM
          have T6H := Hid.intro T6
          clear HT HRT T5 D5 T6 D6 a0 a1 a2 a3 hz ehA ehQ BBH TA
          go_wp2_with fail
          refine HM.out.mono ?_
          rintro e w7 ⟨rfl, B7⟩
          have f0 := below_cell B7 e0
          have HRM7 := Hid.intro (HRM.out w7 (T6H.out.below B7))
          have T7 := Hid.intro (T6H.out.below B7)
          have BZ7 := Hid.intro (BZ6.out.trans (B7.mono BZ6.out.size))
          clear HM HRM B7 e0 T6H BZ6
          go_wp2_with fail
          refine HRM7.out.mono ?_
          rintro e w8 ⟨rfl, B8⟩
          have T8 := Hid.intro (T7.out.below B8)
          have BZ8 := Hid.intro (BZ7.out.trans (B8.mono BZ7.out.size))
          clear HRM7 B8 f0 T7 BZ7
          obtain ⟨la8, lc8, T9, k3, s8, _⟩ := T8.out.lists
          have S8 := Hid.intro s8
          have LS := Hid.intro (two_list (T8.out.below (Below.refl _ w8).drew))
          have SM : Hid (∀ (W : World) (v9 : Value) (R9 : Nat → Prop), Below w8.heap.size w8 W → SensAt R9 W v9 z.l → Calls Tryd.prog 22 #[v9, .slice la8 z.l.length lc8] W fun e w' => e = .returned (.bool true) ∧ Below W.heap.size W w') := fun W v9 R9 hB9 h9 => by
            have q := same9_any R9 T9 v9 (.slice la8 z.l.length lc8) z.l z.l (by omega) (by omega) W h9 (S8.out.below hB9)
            rw [decide_eq_true rfl] at q
            exact q
          clear s8
          generalize z.l.length = zn at *
          cases hQ <;>
          · go_wp2_with fail
            go_region_held3 (fun w' => w'.cell? ⟨rb, 3, none⟩ = some (.slice la8 zn lc8)) (first | exact below_cell E10 k3 | exact below_cell E9 k3 | go_keep)
              (first
                | (go_at_call 17; refine LS.out.mono ?_; rintro e w9 ⟨v9, rfl, s9, B9⟩; have E9 : Below w8.heap.size w8 w9 := below_undrew B9; clear B9)
                | (go_at_call 22; refine (SM.out w9 v9 _ E9 s9).mono ?_; rintro e w10 ⟨rfl, B10⟩; have E10 := E9.trans (B10.mono E9.size); clear B10))
            all_goals
              have TZ := Hid.intro ((T8.out.below E10).less (G := fun _ => False) (fun _ q => q.elim))
              have BZ := Hid.intro (BZ8.out.trans (E10.mono BZ8.out.size))
              clear E9 E10 s9 LS SM k3 T8 BZ8 S8
              go_wp2
              go_roundw
              case rel => exact ⟨k + 1, z, by omega, by go_num, TZ.out, BZ.out⟩
              case measure => simp [intOf]; omega
      · have hkd' : (kd == 0) = false := by simpa using hkd
        go_wp2_with fail
        rw [← HBX.out]
        clear y0 y1 y2 y3 y4 HBX
        generalize wr.alloc (.cells #[.int .i64 tx, .int .i64 an, .int .i64 rs, .int .i64 la] 41) = wa at *
        have a0 : wa.cell? ⟨bs, 0, none⟩ = some (.int .i64 tx) := by rw [cell_of_row _ _ 0 _ _ _ bAH.out]; rfl
        have a1 : wa.cell? ⟨bs, 1, none⟩ = some (.int .i64 an) := by rw [cell_of_row _ _ 1 _ _ _ bAH.out]; rfl
        have a2 : wa.cell? ⟨bs, 2, none⟩ = some (.int .i64 rs) := by rw [cell_of_row _ _ 2 _ _ _ bAH.out]; rfl
        have a3 : wa.cell? ⟨bs, 3, none⟩ = some (.int .i64 la) := by rw [cell_of_row _ _ 3 _ _ _ bAH.out]; rfl
        clear bAH
        have HF := Hid.intro (two_forget la (by omega) (TA.out.below (Below.refl _ wa).drew) (fun k q => by rw [q]; exact SA.out) BBH.out.size)
        have HRF := Hid.intro (fun (W : World) (y : Tab) (R : Nat → Prop) (q : Two9 R w2.heap.size W b rb y x) (hR : ∀ k, R k → k < W.heap.size) (hs : wa.heap.size ≤ W.heap.size) => two_rforget la (by omega) q hR (Nat.le_trans BBH.out.size hs))
        have hx8 : (goneX x la).length ≤ 1000 := by
          unfold goneX
          rw [List.length_map]
          have q1 := List.length_filter_le (oldS x la) x.l
          have q2 := TA.out.okX.few
          have q3 := (mayR_true TA.out.okX.may).2.1
          omega
        have HIN : Hid (∀ (W : World) (R R' : Nat → Prop) (u v : Value), NumsAt R W u (goneX x la) → NumsAt R' W v (goneX x la) → Calls Tryd.prog 19 #[u, v] W fun e w' => e = .returned (.bool true) ∧ Below W.heap.size W w') := fun W R R' u v h1 h2 => by
          have q := ints_any R R' u v (goneX x la) (goneX x la) hx8 hx8 W h1 h2
          rw [decide_eq_true rfl] at q
          exact q
        go_region_held3 (fun w' => w'.cell? ⟨bs, 3, none⟩ = some (.int .i64 la))
          (first | exact cell_chg D6 a3 (fun q => q.2 rfl) | exact cell_chg D6' a3 (fun q => q.2 rfl) | exact cell_chg D5 a3 (fun q => q.2 rfl) | go_keep)
          (first
            | (go_at_call 16; refine HF.out.mono ?_; rintro e w5 ⟨v5, R5, rfl, N5, hR5, hl5, T5, C5⟩; have D5 : Chg (fun k => w2.heap.size ≤ k ∧ ¬ k = bs) wa w5 := ((Chg.refl _ wa).drew).trans C5 (fun _ q _ => q); clear C5)
            | (go_at_call 20; refine (HRF.out w5 _ R5 T5 hl5 D5.size).mono ?_; rintro e w6 ⟨v6, R6, rfl, N6, hR6, hl6, T6', C6⟩; have D6' : Chg (fun k => w2.heap.size ≤ k ∧ ¬ k = bs) wa w6 := D5.trans C6 (fun k q _ => ⟨q.1, fun e => q.2 (hR5 k e)⟩); have R56 := N5.kept C6 (fun k hk q => q.2 hk); clear C6)
            | (go_at_call 19; refine (HIN.out w6 R5 R6 v5 v6 R56 N6).mono ?_; rintro e w7 ⟨rfl, B7⟩; have D6 : Chg (fun k => w2.heap.size ≤ k ∧ ¬ k = bs) wa w7 := D6'.trans ((below_chg B7).mono (fun _ q _ => q.elim)) (fun _ q _ => q); have T6 := (T6'.below B7).less (G := fun k => k = bs) (fun k q => hR6 k (hR5 k q)); clear B7 T6'))
        all_goals
          clear hx8 hR5 hl5 hR6 hl6
          have HX := Hid.intro T6.okX
          have e0 := cell_chg D6 a0 (fun q => q.2 rfl)
          have BZ6 := Hid.intro (BBH.out.trans (D6.below BBH.out.size (fun k hk => hk.1)))
          obtain ⟨z, hz⟩ : ∃ z, z = forgetX x la := ⟨_, rfl⟩
          rw [← hz] at T6 HX
          have HM := Hid.intro (two_home tx T6)
          have HRM := Hid.intro (fun W (q : Two9 (fun k => k = bs) w2.heap.size W b rb z z) => two_rhome tx q)
          have hz8 : z.l.length ≤ 8 := by have := HX.out.few; have := (mayR_true HX.out.may).2.1; omega
          obtain ⟨hA, ehA⟩ : ∃ hA, hA = homeA z tx := ⟨_, rfl⟩
          obtain ⟨hQ, ehQ⟩ : ∃ hQ, hQ = homeB z tx := ⟨_, rfl⟩
          rw [← ehA, ← ehQ] at HM HRM
          have T6H := Hid.intro T6
          clear HF HRF HIN T5 D5 D6' N5 N6 R56 T6 D6 a0 a1 a2 a3 hz ehA ehQ BBH TA
          go_wp2_with fail
          refine HM.out.mono ?_
          rintro e w7x ⟨rfl, B7x⟩
          have f0 := below_cell B7x e0
          have HRM7 := Hid.intro (HRM.out w7x (T6H.out.below B7x))
          have T7 := Hid.intro (T6H.out.below B7x)
          have BZ7 := Hid.intro (BZ6.out.trans (B7x.mono BZ6.out.size))
          clear HM HRM B7x e0 T6H BZ6
          go_wp2_with fail
          refine HRM7.out.mono ?_
          rintro e w8 ⟨rfl, B8⟩
          have T8 := Hid.intro (T7.out.below B8)
          have BZ8 := Hid.intro (BZ7.out.trans (B8.mono BZ7.out.size))
          clear HRM7 B8 f0 T7 BZ7
          obtain ⟨la8, lc8, T9, k3, s8, _⟩ := T8.out.lists
          have S8 := Hid.intro s8
          have LS := Hid.intro (two_list (T8.out.below (Below.refl _ w8).drew))
          have SM : Hid (∀ (W : World) (v9 : Value) (R9 : Nat → Prop), Below w8.heap.size w8 W → SensAt R9 W v9 z.l → Calls Tryd.prog 22 #[v9, .slice la8 z.l.length lc8] W fun e w' => e = .returned (.bool true) ∧ Below W.heap.size W w') := fun W v9 R9 hB9 h9 => by
            have q := same9_any R9 T9 v9 (.slice la8 z.l.length lc8) z.l z.l (by omega) (by omega) W h9 (S8.out.below hB9)
            rw [decide_eq_true rfl] at q
            exact q
          clear s8
          generalize z.l.length = zn at *
          cases hQ <;>
          · go_wp2_with fail
            go_region_held3 (fun w' => w'.cell? ⟨rb, 3, none⟩ = some (.slice la8 zn lc8)) (first | exact below_cell E10 k3 | exact below_cell E9 k3 | go_keep)
              (first
                | (go_at_call 17; refine LS.out.mono ?_; rintro e w9 ⟨v9, rfl, s9, B9⟩; have E9 : Below w8.heap.size w8 w9 := below_undrew B9; clear B9)
                | (go_at_call 22; refine (SM.out w9 v9 _ E9 s9).mono ?_; rintro e w10 ⟨rfl, B10⟩; have E10 := E9.trans (B10.mono E9.size); clear B10))
            all_goals
              have TZ := Hid.intro ((T8.out.below E10).less (G := fun _ => False) (fun _ q => q.elim))
              have BZ := Hid.intro (BZ8.out.trans (E10.mono BZ8.out.size))
              clear E9 E10 s9 LS SM k3 T8 BZ8 S8
              go_wp2
              go_roundw
              case rel => exact ⟨k + 1, z, by omega, by go_num, TZ.out, BZ.out⟩
              case measure => simp [intOf]; omega
    · obtain rfl : k = LL := by omega
      have kk : ¬ (k : Int) < (k : Int) := by omega
      have FIN := Hid.intro (B2H.out.trans (hBw.mono B2H.out.size))
      clear hT hBw
      go_wp2
      go_ret
      exact ⟨rfl, FIN.out⟩

theorem walk (r a m : Int) (ao : Option Addr) (len cap : Nat) (l : List Act9) (w : World) (_ : (Lit.int .i64 r).wf = true ∧ (Lit.int .i64 a).wf = true ∧ (Lit.int .i64 m).wf = true) (hz : l.length = len ∧ ActsAt9 w ao l ∧ len ≤ maxLen) (hW : Wid w) :
    Calls Tryd.prog 3 #[Rm r a m, .slice ao len cap] w fun e w' => e = .returned (.bool true) ∧ Below w.heap.size w w' := by
  obtain ⟨hl, hr, hmx⟩ := hz
  subst hl
  cases h : mayR r a m with
  | false => exact walk_nil r a m ao cap l w hr hW h
  | true =>
    have hb := mayR_true h
    obtain ⟨R, rfl⟩ := Int.eq_ofNat_of_zero_le (show 0 ≤ r by omega)
    obtain ⟨A, rfl⟩ := Int.eq_ofNat_of_zero_le (show 0 ≤ a by omega)
    obtain ⟨Mg, rfl⟩ := Int.eq_ofNat_of_zero_le (show 0 ≤ m by omega)
    exact walk_near R A Mg ao cap l hmx w hr hW h

set_option maxRecDepth 100000 in
theorem lifted (os : Os) (started : os.Started) (H : Type) (enc : TypeId × Value → H) :
    ReturnsInHanded {} Tryd.checked os 3 .any (fun w args => (Rows.roamActsSpec.pre enc Tryd.prog Tryd.f3 [] false w args ∧ laidMetH Tryd.prog LW w) ∧ sizedMet enc Tryd.prog Tryd.f3 (OpenSpec.ofChange Rows.roamActsSpec) false w args) (Rows.roamActsSpec.post enc Tryd.prog Tryd.f3 false true false false) := by
  refine returnsInHanded_of_change_and (C := Tryd.checked) (X := fun w _ => laidMetH Tryd.prog LW w) (fun _ _ _ hh h => h.of_heap hh) own started (by kernel_rfl) Tryd.func3
    (ChangeSpec.witness_shaped (enc := enc) (C := Tryd.checked) (os := os) (X := fun w _ => laidMetH Tryd.prog LW w) false (World.doorLaid Tryd.prog 400 os) #[.agg #[.int .i64 0, .int .i64 0, .int .i64 0], .slice none 0 0] 8 rfl (World.shaped_of_RefB (by kernel_rfl) (by kernel_rfl)) (by kernel_rfl) (by kernel_rfl) (by kernel_rfl) (door_met os _)) ?_
  intro W base args ds gs before hval0 hW _ _ hL _
  have hval : ∀ (j : Nat) t v, Tryd.f3.params[j]? = some t → args[j]? = some v → Value.okWide Tryd.prog W .any base t v := hval0
  have hW' := hW
  obtain ⟨p, q, hA0, hV, rfl, hfz, hnd⟩ := hW
  have hA : DataW.TrodAll enc Tryd.prog W 0 (fun _ => true) true Tryd.f3.params.toList args.toList ds p := hA0
  rw [Tryd.params3] at hA hval
  obtain ⟨v0, vs0, d0, ds0, p0, q0, hargs, rfl, rfl, h0, r0⟩ := trodAll_cons hA
  obtain ⟨v1, vs1, d1, ds1, p1, q1, rfl, rfl, rfl, h1, r1⟩ := trodAll_cons r0
  obtain ⟨rfl, rfl, rfl⟩ := trodAll_nil r1
  obtain rfl : args = #[v0, v1] := by cases args; simp_all
  obtain ⟨rfl, rfl⟩ := trodVars_none hV
  have k0 := h0
  have lt0 : ∀ x ∈ p0, x.block < W.heap.size := by obtain ⟨m, hm⟩ := k0; exact DataW.trod_lt m _ _ _ hm
  obtain ⟨kc0, nc0, sc0, rfl, w0⟩ := open_roam (hval 0 23 v0 rfl rfl) h0
  have k1 := h1
  have lt1 : ∀ x ∈ p1, x.block < W.heap.size := by obtain ⟨m, hm⟩ := k1; exact DataW.trod_lt m _ _ _ hm
  obtain ⟨a1, len1, cap1, rfl⟩ := okWide_slice Tryd.underlying24 (hval 1 24 v1 rfl rfl)
  obtain ⟨z1, w1⟩ := open_acts h1
  clear hA0 hval0
  refine (walk kc0 nc0 sc0 a1 len1 cap1 z1 W w0 w1 (laid_fact hL)).mono fun e W' ⟨he, bel⟩ => ?_
  subst he
  exact ⟨_, rfl, _, _, _, [], _, [], hW', trodAll_mk1 (shut_bool Tryd.underlying4 _), (trodAll_cons_mk (Below.trod laidOut (by kernel_rfl) (of_decide_eq_true (by kernel_rfl)) k0 bel lt0) (trodAll_cons_mk (Below.trod laidOut (by kernel_rfl) (of_decide_eq_true (by kernel_rfl)) k1 bel lt1) trodAll_mk0)), rfl, bel.frame _, fun h => by cases h⟩

theorem over : Rows.roamActsRow.holds Tryd.pinned (OpenSpec.ofChange Rows.roamActsSpec) :=
  OpenClaim.holds_of_wide 3 Tryd.f3 rfl rfl rfl rfl rfl rfl rfl ⟨rfl, rfl, rfl, rfl, rfl⟩ rfl rfl rfl rfl rfl (by kernel_rfl) Tryd.func3 (by kernel_rfl)
    (of_decide_eq_true (by kernel_rfl)) (by unfold Func.isWrapper; first | (rw [if_pos (by decide +kernel)]; kernel_rfl) | (rw [if_neg (by decide +kernel)]; exact ⟨rfl, rfl⟩))
    (fun os started H enc _ => lifted os started H enc)

end Go.Proofs.YtohedeeajcdjcaaDoor.LRoamActs

namespace Go.Proofs.YtohedeeajcdjcaaDoor
theorem roamActs_holds : Rows.RoamActsCardSaid :=
  Claim7.holds_tied_plain_at .later [] [.data] true (true, "25c53ae29fda08d9d042b4c4856af7eab08bb405629bf16a006be57b24e6dc14") false
    LRoamActs.over (fun _ h => by cases h) (by kernel_rfl) (fun _ h => by cases h) roamActs_row_tie rfl ⟨rfl, rfl⟩ (by kernel_rfl) rfl
    (fun f fn hf hfn => by
      obtain rfl : f = 3 := Option.some.inj ((show Tryd.prog.funcNamed "gurney/gurneylaw09.RoamActs" = some 3 by kernel_rfl).symm.trans hf) |>.symm
      obtain rfl : fn = Tryd.f3 := (Option.some.inj (Tryd.func3.symm.trans hfn)).symm
      exact ⟨by kernel_rfl, fun j t ht => by
        rw [Tryd.params3] at ht
        have hm : t ∈ [23, 24] := by simpa using Array.mem_of_getElem? ht
        have hall : ([23, 24].all fun u => !Tryd.prog.wantsStandIn u) = true := by kernel_rfl
        exact (show Tryd.prog.wantsStandIn t = false by simpa using List.all_eq_true.1 hall t hm)⟩)
    (by kernel_rfl)
#print axioms roamActs_holds
end Go.Proofs.YtohedeeajcdjcaaDoor
