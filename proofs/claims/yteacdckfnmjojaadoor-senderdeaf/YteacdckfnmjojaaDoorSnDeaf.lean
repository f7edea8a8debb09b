/- The statement SenderDeaf: a frame that isn't an ack of this transmitter turns nothing. -/
import Derived.Test.YteacdckfnmjojaaDoorSnAlive
import Derived.Test.YteacdckfnmjojaaDoorLinkArg
import Derived.Test.YteacdckfnmjojaaDoorFrmLaid
import Derived.Test.YteacdckfnmjojaaDoorFrameArg
namespace Go.Proofs.YteacdckfnmjojaaDoor
open Go.ChangeShapes Go.WideShapes Go.ChangeAt Go.RowKit Go.Joins
open Bt

namespace LSenderDeaf

theorem reads_ltN {w : World} {ad : Addr} {bs : List Nat} (h : Reads w (some ad) bs) (h0 : 0 < bs.length) : ad.block < w.heap.size := by
  obtain ⟨b, off, e, hc⟩ := reads_at h h0
  cases e
  exact cell_lt (hc 0 h0)

theorem two_in {w : World} {x y : Obj} : ((w.alloc x).alloc y).heap[w.heap.size]? = some x ∧ ((w.alloc x).alloc y).heap[w.heap.size + 1]? = some y ∧ Below w.heap.size w ((w.alloc x).alloc y) := by
  have b1 := (Below.refl (w.alloc x).heap.size (w.alloc x)).alloc (Nat.le_refl _) y
  have h1 := heap_alloc_new w x
  have h2 := heap_alloc_new (w.alloc x) y
  rw [World.size_alloc] at h2
  exact ⟨(b1.block _ (by simp)).trans h1, h2, ((Below.refl _ w).alloc (Nat.le_refl _) x).alloc (by simp) y⟩

theorem walk_nil (tx k n s wt ms ft sq an rs kd : Int) (a : Option Addr) (L cap : Nat) (w : World) (hW : Wid w) (h : (mayL k n s wt ms && isTx tx) = false) :
    Calls Tryd.prog 7 #[.int .i64 tx, Lk k n s wt ms, Fr ft sq an rs kd a L cap] w fun e w' => e = .returned (.bool true) ∧ Below w.heap.size w w' := by
  have NO := Hid.intro (fun w hw => nnew_no tx k n s wt ms h w hw)
  obtain ⟨b0, _, B0⟩ := two_in (w := w) (x := (.cells #[.int .i64 k, .int .i64 n, .int .i64 s, .int .i64 wt, .int .i64 ms] 25)) (y := (.cells #[.int .i64 ft, .int .i64 sq, .int .i64 an, .int .i64 rs, .int .i64 kd, .slice a L cap] 39))
  have B0H := Hid.intro B0
  have b0H := Hid.intro b0
  have W0 := Hid.intro (hW.below B0)
  clear h hW b0 B0
  go_enter Tryd.func7, Tryd.ntmps7
  go_wp2_with fail
  refine (alive_any _ W0.out).mono ?_
  rintro e w1 ⟨rfl, B1⟩
  have W1 := Hid.intro (W0.out.below B1)
  have b1 := (B1.block _ (lt_of_heap b0H.out)).trans b0H.out
  have B1H := Hid.intro (B0H.out.trans (B1.mono B0H.out.size))
  obtain ⟨c0, c1, c2, c3, c4⟩ := lk_cells b1
  clear b1 B1 B0H W0 b0H
  go_wp2_with fail
  refine (NO.out w1 W1.out).mono ?_
  rintro e w2 ⟨rfl, B2⟩
  have B2H := Hid.intro (B1H.out.trans (B2.mono B1H.out.size))
  clear B2 B1H NO c0 c1 c2 c3 c4
  go_wp2
  go_ret
  exact ⟨rfl, B2H.out⟩

set_option maxRecDepth 100000 in
set_option maxHeartbeats 2000000 in
theorem walk_near (tx K N S wt ms : Nat) (ft sq an rs kd : Int) (a : Option Addr) (cap : Nat) (ds : List Nat) (hl : ds.length ≤ maxLen) (hY : Byt ds) (w : World) (hW : Wid w) (hr : Reads w a ds) (h : (mayL K N S wt ms && isTx tx) = true) :
    Calls Tryd.prog 7 #[.int .i64 (tx : Int), Lk K N S wt ms, Fr ft sq an rs kd a ds.length cap] w fun e w' => e = .returned (.bool true) ∧ Below w.heap.size w w' := by
  unfold maxLen at hl
  have NW := Hid.intro (fun w hw => nnew_yes tx K N S wt ms h w hw)
  rw [Bool.and_eq_true] at h
  obtain ⟨hmay, htx⟩ := h
  have ht := isTx_true htx
  obtain ⟨h1, h2, h3, h4, h5⟩ := mayL_true hmay
  have h6 := mayC_true h1
  obtain ⟨q, hq⟩ : ∃ q, q = K * S := ⟨_, rfl⟩
  have hq1 : (K : Int) * (S : Int) = (q : Int) := by rw [hq]; simp
  have hq2 : q ≤ 144 := by rw [hq]; exact Nat.mul_le_mul (show K ≤ 6 by omega) (show S ≤ 24 by omega)
  have HQ := Hid.intro hq
  have mk := make_bytes q (by omega)
  have HR := Hid.intro hr
  have HY := Hid.intro hY
  obtain ⟨L, hL⟩ : ∃ L, L = ds.length := ⟨_, rfl⟩
  have HL := Hid.intro hL
  rw [← hL] at hl ⊢
  obtain ⟨b0, f0, B0⟩ := two_in (w := w) (x := (.cells #[.int .i64 (K : Int), .int .i64 (N : Int), .int .i64 (S : Int), .int .i64 (wt : Int), .int .i64 (ms : Int)] 25)) (y := (.cells #[.int .i64 ft, .int .i64 sq, .int .i64 an, .int .i64 rs, .int .i64 kd, .slice a L cap] 39))
  have B0H := Hid.intro B0
  have b0H := Hid.intro b0
  have f0H := Hid.intro f0
  have W0 := Hid.intro (hW.below B0)
  clear hW hmay htx h1 hq hr hY hL b0 f0 B0
  go_enter Tryd.func7, Tryd.ntmps7
  go_wp2_with fail
  refine (alive_any _ W0.out).mono ?_
  rintro e w1 ⟨rfl, B1⟩
  have b1 := (B1.block _ (lt_of_heap b0H.out)).trans b0H.out
  have g1 := (B1.block _ (lt_of_heap f0H.out)).trans f0H.out
  have B1H := Hid.intro (B0H.out.trans (B1.mono B0H.out.size))
  have W1 := Hid.intro (W0.out.below B1)
  have b1H := Hid.intro b1
  have g1H := Hid.intro g1
  obtain ⟨c0, c1, c2, c3, c4⟩ := lk_cells b1
  clear b1 g1 B1 B0H W0 b0H f0H
  go_wp2_with fail
  refine (NW.out w1 W1.out).mono ?_
  rintro e w2 ⟨b, F, rfl, hS, hF, B2⟩
  have i5 : w2.cell? ⟨w.heap.size + 1, 5, none⟩ = some (.slice a L cap) := by rw [cell_of_row w2 _ 5 _ _ _ ((B2.block _ (lt_of_heap g1H.out)).trans g1H.out)]; rfl
  obtain ⟨d0, d1, d2, d3, d4⟩ := lk_cells ((B2.block _ (lt_of_heap b1H.out)).trans b1H.out)
  have B2H := Hid.intro B2
  have SN := Hid.intro (sl_new hS hF B2)
  clear hS hF B2 NW c0 c1 c2 c3 c4
  by_cases hlong : 100 < L
  · have j1 : (100 : Int) < (L : Int) := by omega
    go_wp2
    go_ret
    exact ⟨rfl, B1H.out.trans (B2H.out.mono B1H.out.size)⟩
  · have j1 : ¬ (100 : Int) < (L : Int) := by omega
    have BA := (Below.refl _ w2).alloc (Nat.le_refl _) (.cells (madeCells #[.int .u8 0] q) 5 (0, 0))
    have L1 := (SN.out.grow BA).less (G := fun k => k < w1.heap.size ∨ k = w2.heap.size) (fun k hk => by
      rcases hk with q | q
      · exact .inl q
      · subst q; exact .inr ⟨Nat.le_refl _, by simp⟩)
    have R1 := zeros_made q w2
    have PU := slpush (some ⟨w2.heap.size, 0, none⟩) q (List.replicate q 0) (byt_zeros q) ⟨(fun q => by cases q), by simp⟩ (by decide) L1 R1 (fun _ ad ha => by cases ha; exact .inr rfl)
    have PF := fun i (hi : i < 4) => push_few (tx := tx) (K := K) (N := N) (S := S) (wait := wt) (most := ms) (bs := List.replicate q 0) (i := i) hi (by rw [List.length_replicate]; exact HQ.out)
    have pe := PF 0 (by decide)
    rw [sndP_zero] at pe
    rw [pe.1, pe.2, List.length_replicate] at PU
    have PUH := Hid.intro PU
    have PFH := Hid.intro (PF 1 (by decide))
    have RH := Hid.intro R1
    have BW := Hid.intro (B2H.out.trans (BA.mono B2H.out.size))
    clear BA L1 R1 PU PF pe SN
    go_wp2_with fail
    refine PUH.out.mono ?_
    rintro e w4 ⟨rfl, L4⟩
    have PU2 := slpush (some ⟨w2.heap.size, 0, none⟩) q (List.replicate q 0) (byt_zeros q) ⟨(fun q => by cases q), by simp⟩ (by decide) L4 (L4.reads RH.out (fun ad ha => by cases ha; exact .inr rfl)) (fun _ ad ha => by cases ha; exact .inr rfl)
    have pe := PFH.out
    rw [pe.1, pe.2, List.length_replicate] at PU2
    have PU2H := Hid.intro PU2
    clear PU2 pe L4 PUH PFH d0 d1 d2 d3 d4 mk hq1 i5
    go_wp2_with fail
    refine PU2H.out.mono ?_
    rintro e w5 ⟨rfl, L5⟩
    have BW5 := Hid.intro (BW.out.trans (L5.out (B := w1.heap.size) BW.out.size (fun k hk => .inl hk)))
    have L5' := (L5.less (G := fun k => k < w1.heap.size) (fun k hk => .inl hk)).here
    have hfb := lt_of_heap g1H.out
    have FBH := Hid.intro hfb
    have g5 := (BW5.out.block _ hfb).trans g1H.out
    have g5H := Hid.intro g5
    generalize encL K N S (List.replicate q 0) = R at L5'
    have L5H : Hid (SL (fun k => k < w1.heap.size) 0 w5 w5 b (sndP tx K N S wt ms R 2)) := L5'
    have i0 : w5.cell? ⟨w.heap.size + 1, 0, none⟩ = some (.int .i64 ft) := by rw [cell_of_row w5 _ 0 _ _ _ g5]; rfl
    have i1 : w5.cell? ⟨w.heap.size + 1, 1, none⟩ = some (.int .i64 sq) := by rw [cell_of_row w5 _ 1 _ _ _ g5]; rfl
    have i2 : w5.cell? ⟨w.heap.size + 1, 2, none⟩ = some (.int .i64 an) := by rw [cell_of_row w5 _ 2 _ _ _ g5]; rfl
    have i3 : w5.cell? ⟨w.heap.size + 1, 3, none⟩ = some (.int .i64 rs) := by rw [cell_of_row w5 _ 3 _ _ _ g5]; rfl
    have i4 : w5.cell? ⟨w.heap.size + 1, 4, none⟩ = some (.int .i64 kd) := by rw [cell_of_row w5 _ 4 _ _ _ g5]; rfl
    have i5 : w5.cell? ⟨w.heap.size + 1, 5, none⟩ = some (.slice a L cap) := by rw [cell_of_row w5 _ 5 _ _ _ g5]; rfl
    have z4 := frozen_of_row w5 (w.heap.size + 1) 4 _ _ g5
    clear L5 L5' PU2H RH BW g5 hfb
    clear i0 i1 i2 i3 i5
    have x5 := (BW5.out.block _ (lt_of_heap b1H.out)).trans b1H.out
    have BW5w := Hid.intro (B1H.out.trans (BW5.out.mono B1H.out.size))
    have LBH := Hid.intro (lt_of_heap b1H.out)
    have W5 : Hid (Wid w5) := by
      obtain ⟨ty, fr, q0⟩ := W1.out
      exact ⟨ty, fr, (BW5.out.block 0 (lt_of_heap q0)).trans q0⟩
    have hq0 : 0 < w.heap.size + 1 := by omega
    by_cases hk : kd = 1
    · subst hk
      by_cases hx : ft = (tx : Int)
      · subst hx
        have i0 : w5.cell? ⟨w.heap.size + 1, 0, none⟩ = some (.int .i64 (tx : Int)) := by rw [cell_of_row w5 _ 0 _ _ _ g5H.out]; rfl
        go_wp2_with fail
        have gx := heap_setCell_same w5 (w.heap.size + 1) 4 _ _ (.int .i64 0) g5H.out
        have Lx := L5H.out.write (p := ⟨w.heap.size + 1, 4, none⟩) FBH.out (.int .i64 0)
        have Bx := BW5w.out.setCell (p := ⟨w.heap.size + 1, 4, none⟩) (by simp) (.int .i64 0)
        have hWx : Wid (w5.setCell ⟨w.heap.size + 1, 4, none⟩ (.int .i64 0)) := by
          obtain ⟨ty, fr, q0⟩ := W5.out
          exact ⟨ty, fr, by rw [heap_setCell_other _ _ _ _ (by simp)]; exact q0⟩
        have xx : (w5.setCell ⟨w.heap.size + 1, 4, none⟩ (.int .i64 0)).heap[w.heap.size]? = some (.cells #[.int .i64 (K : Int), .int .i64 (N : Int), .int .i64 (S : Int), .int .i64 (wt : Int), .int .i64 (ms : Int)] 25 (0, 0)) := by
          rw [heap_setCell_other _ _ _ _ (by simp)]; exact x5
        have SX : Hid (w1.heap.size ≤ (w5.setCell ⟨w.heap.size + 1, 4, none⟩ (.int .i64 0)).heap.size) := by rw [Hid, World.size_setCell]; exact BW5.out.size
        generalize w5.setCell ⟨w.heap.size + 1, 4, none⟩ (.int .i64 0) = wx at gx Lx Bx hWx xx SX ⊢
        obtain ⟨_, c1, _, _, _⟩ := lk_cells xx
        have HA : hearA (sndP tx K N S wt ms R 2) ⟨(tx : Int), sq, an, rs, 0, ds⟩ = false := by simp [hearA]
        clear x5 xx L5H BW5w W5 i0 i4 z4 g5H
        have ha : hearA (sndP tx K N S wt ms R 2) ⟨(tx : Int), sq, an, rs, 0, ds⟩ = false := HA
        have hc : hearC (sndP tx K N S wt ms R 2) ⟨(tx : Int), sq, an, rs, 0, ds⟩ = sndP tx K N S wt ms R 2 := by unfold hearC; rw [if_neg (by rw [ha]; decide)]
        have i0 : wx.cell? ⟨w.heap.size + 1, 0, none⟩ = some (.int .i64 (tx : Int)) := by rw [cell_of_row wx _ 0 _ _ _ gx]; rfl
        have i1 : wx.cell? ⟨w.heap.size + 1, 1, none⟩ = some (.int .i64 sq) := by rw [cell_of_row wx _ 1 _ _ _ gx]; rfl
        have i2 : wx.cell? ⟨w.heap.size + 1, 2, none⟩ = some (.int .i64 an) := by rw [cell_of_row wx _ 2 _ _ _ gx]; rfl
        have i3 : wx.cell? ⟨w.heap.size + 1, 3, none⟩ = some (.int .i64 rs) := by rw [cell_of_row wx _ 3 _ _ _ gx]; rfl
        have i4 : wx.cell? ⟨w.heap.size + 1, 4, none⟩ = some (.int .i64 0) := by rw [cell_of_row wx _ 4 _ _ _ gx]; rfl
        have i5 : wx.cell? ⟨w.heap.size + 1, 5, none⟩ = some (.slice a L cap) := by rw [cell_of_row wx _ 5 _ _ _ gx]; rfl
        have WX : Wid wx := hWx
        have HE := slhear ⟨(tx : Int), sq, an, rs, 0, ds⟩ a cap HY.out (by decide) (Lx.below (Below.refl _ wx).drew) (WX.below (Below.refl _ wx).drew) ((HR.out.below Bx).below (Below.refl _ wx).drew) (fun h0 ad hd => Nat.lt_of_lt_of_le (reads_ltN (by rw [← hd]; exact HR.out) h0) B1H.out.size)
        rw [ha, hc] at HE
        have HEH := Hid.intro HE
        have TKH := Hid.intro (fun W (h : SL (fun k => k < w1.heap.size) (0 + 4) wx W b (sndP tx K N S wt ms R 2)) => sltick 0 (by decide) (by decide) h)
        have RMH := Hid.intro (fun W (h : SL (fun k => k < w1.heap.size) (0 + 4) wx W b (sndP tx K N S wt ms R 2)) => slroom h)
        have TL := Hid.intro (tick_two (tx := tx) (K := K) (N := N) (S := S) (wait := wt) (most := ms) (R := R) (by omega))
        obtain ⟨p, hp⟩ : ∃ p, p = 2 * N := ⟨_, rfl⟩
        rw [← hp] at TL
        have p1 : (2 : Int) * (N : Int) = (p : Int) := by omega
        have p2 : p ≤ 20 := by omega
        have p3 : IntKind.i64.wrap (p : Int) = (p : Int) := IntWalk.i64_in _ (by omega)
        have BXH := Hid.intro Bx
        have hLL := HL.out
        have HELL : Hid (Calls Tryd.prog 15 #[.pointer (some ⟨b, 0, none⟩), Fr (tx : Int) sq an rs 0 a L cap] wx.drew fun e w' => e = .returned (.bool false) ∧ SL (fun k => k < w1.heap.size) (0 + 4) wx w' b (sndP tx K N S wt ms R 2)) := by
          rw [hLL]; exact HEH.out
        have RML : Hid (∀ W, SL (fun k => k < w1.heap.size) (0 + 4) wx W b (sndP tx K N S wt ms R 2) → Calls Tryd.prog 16 #[.pointer (some ⟨b, 0, none⟩)] W fun e w' => e = .returned (.int .i64 2) ∧ Below W.heap.size W w') := RMH.out
        clear ha hc HE HEH Lx gx WX hWx Bx HA hp hLL RMH
        go_region_held3 (fun w' => w'.cell? ⟨w.heap.size + 1, 0, none⟩ = some (.int .i64 (tx : Int)) ∧ w'.cell? ⟨w.heap.size + 1, 1, none⟩ = some (.int .i64 sq) ∧ w'.cell? ⟨w.heap.size + 1, 2, none⟩ = some (.int .i64 an) ∧ w'.cell? ⟨w.heap.size + 1, 3, none⟩ = some (.int .i64 rs) ∧ w'.cell? ⟨w.heap.size + 1, 4, none⟩ = some (.int .i64 0) ∧ w'.cell? ⟨w.heap.size + 1, 5, none⟩ = some (.slice a L cap) ∧ w'.cell? ⟨w.heap.size, 1, none⟩ = some (.int .i64 (N : Int)))
          (first | exact ⟨L8.cell i0 FBH.out, L8.cell i1 FBH.out, L8.cell i2 FBH.out, L8.cell i3 FBH.out, L8.cell i4 FBH.out, L8.cell i5 FBH.out, L8.cell c1 LBH.out⟩ | exact ⟨L7.cell i0 FBH.out, L7.cell i1 FBH.out, L7.cell i2 FBH.out, L7.cell i3 FBH.out, L7.cell i4 FBH.out, L7.cell i5 FBH.out, L7.cell c1 LBH.out⟩ | exact ⟨L6.cell i0 FBH.out, L6.cell i1 FBH.out, L6.cell i2 FBH.out, L6.cell i3 FBH.out, L6.cell i4 FBH.out, L6.cell i5 FBH.out, L6.cell c1 LBH.out⟩ | go_keep)
          (first
            | (go_at_call 15; refine HELL.out.mono ?_; rintro e w6 ⟨rfl, L6⟩)
            | (go_at_call 16; refine (RML.out _ L6).mono ?_; rintro e w7 ⟨rfl, B7⟩; have L7 := L6.below B7; clear B7)
            | (go_at_call 14; refine (TKH.out _ L7).mono ?_; rintro e w8 ⟨v8, G8, rfl, _, f8, _, L8⟩; obtain ⟨a8, c8, e8⟩ := f8.len; rw [TL.out] at e8; subst e8; clear f8))
        all_goals
          have BF := Hid.intro (BXH.out.trans ((L8.out (B := w1.heap.size) SX.out (fun k hk => hk)).mono B1H.out.size))
          clear L6 L7 L8 i0 i1 i2 i3 i4 i5 c1
          go_wp2
          go_ret
          exact ⟨rfl, BF.out⟩
      · have hx' : (ft == (tx : Int)) = false := by rw [beq_eq_false_iff_ne]; exact hx
        have i0 : w5.cell? ⟨w.heap.size + 1, 0, none⟩ = some (.int .i64 ft) := by rw [cell_of_row w5 _ 0 _ _ _ g5H.out]; rfl
        go_wp2_with fail
        have gx := g5H.out
        have Lx := L5H.out
        have Bx := BW5w.out
        have hWx : Wid w5 := W5.out
        have SX := Hid.intro BW5.out.size
        obtain ⟨_, c1, _, _, _⟩ := lk_cells x5
        have HA : hearA (sndP tx K N S wt ms R 2) ⟨ft, sq, an, rs, 1, ds⟩ = false := by
          have : decide (ft = ((sndP tx K N S wt ms R 2).tx : Int)) = false := decide_eq_false hx
          simp [hearA, this]
        clear x5 L5H BW5w W5 i0 i4 z4 g5H
        have ha : hearA (sndP tx K N S wt ms R 2) ⟨ft, sq, an, rs, 1, ds⟩ = false := HA
        have hc : hearC (sndP tx K N S wt ms R 2) ⟨ft, sq, an, rs, 1, ds⟩ = sndP tx K N S wt ms R 2 := by unfold hearC; rw [if_neg (by rw [ha]; decide)]
        have i0 : w5.cell? ⟨w.heap.size + 1, 0, none⟩ = some (.int .i64 ft) := by rw [cell_of_row w5 _ 0 _ _ _ gx]; rfl
        have i1 : w5.cell? ⟨w.heap.size + 1, 1, none⟩ = some (.int .i64 sq) := by rw [cell_of_row w5 _ 1 _ _ _ gx]; rfl
        have i2 : w5.cell? ⟨w.heap.size + 1, 2, none⟩ = some (.int .i64 an) := by rw [cell_of_row w5 _ 2 _ _ _ gx]; rfl
        have i3 : w5.cell? ⟨w.heap.size + 1, 3, none⟩ = some (.int .i64 rs) := by rw [cell_of_row w5 _ 3 _ _ _ gx]; rfl
        have i4 : w5.cell? ⟨w.heap.size + 1, 4, none⟩ = some (.int .i64 1) := by rw [cell_of_row w5 _ 4 _ _ _ gx]; rfl
        have i5 : w5.cell? ⟨w.heap.size + 1, 5, none⟩ = some (.slice a L cap) := by rw [cell_of_row w5 _ 5 _ _ _ gx]; rfl
        have WX : Wid w5 := hWx
        have HE := slhear ⟨ft, sq, an, rs, 1, ds⟩ a cap HY.out (by decide) (Lx.below (Below.refl _ w5).drew) (WX.below (Below.refl _ w5).drew) ((HR.out.below Bx).below (Below.refl _ w5).drew) (fun h0 ad hd => Nat.lt_of_lt_of_le (reads_ltN (by rw [← hd]; exact HR.out) h0) B1H.out.size)
        rw [ha, hc] at HE
        have HEH := Hid.intro HE
        have TKH := Hid.intro (fun W (h : SL (fun k => k < w1.heap.size) (0 + 4) w5 W b (sndP tx K N S wt ms R 2)) => sltick 0 (by decide) (by decide) h)
        have RMH := Hid.intro (fun W (h : SL (fun k => k < w1.heap.size) (0 + 4) w5 W b (sndP tx K N S wt ms R 2)) => slroom h)
        have TL := Hid.intro (tick_two (tx := tx) (K := K) (N := N) (S := S) (wait := wt) (most := ms) (R := R) (by omega))
        obtain ⟨p, hp⟩ : ∃ p, p = 2 * N := ⟨_, rfl⟩
        rw [← hp] at TL
        have p1 : (2 : Int) * (N : Int) = (p : Int) := by omega
        have p2 : p ≤ 20 := by omega
        have p3 : IntKind.i64.wrap (p : Int) = (p : Int) := IntWalk.i64_in _ (by omega)
        have BXH := Hid.intro Bx
        have hLL := HL.out
        have HELL : Hid (Calls Tryd.prog 15 #[.pointer (some ⟨b, 0, none⟩), Fr ft sq an rs 1 a L cap] w5.drew fun e w' => e = .returned (.bool false) ∧ SL (fun k => k < w1.heap.size) (0 + 4) w5 w' b (sndP tx K N S wt ms R 2)) := by
          rw [hLL]; exact HEH.out
        have RML : Hid (∀ W, SL (fun k => k < w1.heap.size) (0 + 4) w5 W b (sndP tx K N S wt ms R 2) → Calls Tryd.prog 16 #[.pointer (some ⟨b, 0, none⟩)] W fun e w' => e = .returned (.int .i64 2) ∧ Below W.heap.size W w') := RMH.out
        clear ha hc HE HEH Lx gx WX hWx Bx HA hp hLL RMH
        go_region_held3 (fun w' => w'.cell? ⟨w.heap.size + 1, 0, none⟩ = some (.int .i64 ft) ∧ w'.cell? ⟨w.heap.size + 1, 1, none⟩ = some (.int .i64 sq) ∧ w'.cell? ⟨w.heap.size + 1, 2, none⟩ = some (.int .i64 an) ∧ w'.cell? ⟨w.heap.size + 1, 3, none⟩ = some (.int .i64 rs) ∧ w'.cell? ⟨w.heap.size + 1, 4, none⟩ = some (.int .i64 1) ∧ w'.cell? ⟨w.heap.size + 1, 5, none⟩ = some (.slice a L cap) ∧ w'.cell? ⟨w.heap.size, 1, none⟩ = some (.int .i64 (N : Int)))
          (first | exact ⟨L8.cell i0 FBH.out, L8.cell i1 FBH.out, L8.cell i2 FBH.out, L8.cell i3 FBH.out, L8.cell i4 FBH.out, L8.cell i5 FBH.out, L8.cell c1 LBH.out⟩ | exact ⟨L7.cell i0 FBH.out, L7.cell i1 FBH.out, L7.cell i2 FBH.out, L7.cell i3 FBH.out, L7.cell i4 FBH.out, L7.cell i5 FBH.out, L7.cell c1 LBH.out⟩ | exact ⟨L6.cell i0 FBH.out, L6.cell i1 FBH.out, L6.cell i2 FBH.out, L6.cell i3 FBH.out, L6.cell i4 FBH.out, L6.cell i5 FBH.out, L6.cell c1 LBH.out⟩ | go_keep)
          (first
            | (go_at_call 15; refine HELL.out.mono ?_; rintro e w6 ⟨rfl, L6⟩)
            | (go_at_call 16; refine (RML.out _ L6).mono ?_; rintro e w7 ⟨rfl, B7⟩; have L7 := L6.below B7; clear B7)
            | (go_at_call 14; refine (TKH.out _ L7).mono ?_; rintro e w8 ⟨v8, G8, rfl, _, f8, _, L8⟩; obtain ⟨a8, c8, e8⟩ := f8.len; rw [TL.out] at e8; subst e8; clear f8))
        all_goals
          have BF := Hid.intro (BXH.out.trans ((L8.out (B := w1.heap.size) SX.out (fun k hk => hk)).mono B1H.out.size))
          clear L6 L7 L8 i0 i1 i2 i3 i4 i5 c1
          go_wp2
          go_ret
          exact ⟨rfl, BF.out⟩
    · have hk' : (kd == 1) = false := by rw [beq_eq_false_iff_ne]; exact hk
      go_wp2_with fail
      have gx := g5H.out
      have Lx := L5H.out
      have Bx := BW5w.out
      have hWx : Wid w5 := W5.out
      have SX := Hid.intro BW5.out.size
      obtain ⟨_, c1, _, _, _⟩ := lk_cells x5
      have HA : hearA (sndP tx K N S wt ms R 2) ⟨ft, sq, an, rs, kd, ds⟩ = false := by simp [hearA, hk]
      clear x5 L5H BW5w W5 i4 z4 g5H
      have ha : hearA (sndP tx K N S wt ms R 2) ⟨ft, sq, an, rs, kd, ds⟩ = false := HA
      have hc : hearC (sndP tx K N S wt ms R 2) ⟨ft, sq, an, rs, kd, ds⟩ = sndP tx K N S wt ms R 2 := by unfold hearC; rw [if_neg (by rw [ha]; decide)]
      have i0 : w5.cell? ⟨w.heap.size + 1, 0, none⟩ = some (.int .i64 ft) := by rw [cell_of_row w5 _ 0 _ _ _ gx]; rfl
      have i1 : w5.cell? ⟨w.heap.size + 1, 1, none⟩ = some (.int .i64 sq) := by rw [cell_of_row w5 _ 1 _ _ _ gx]; rfl
      have i2 : w5.cell? ⟨w.heap.size + 1, 2, none⟩ = some (.int .i64 an) := by rw [cell_of_row w5 _ 2 _ _ _ gx]; rfl
      have i3 : w5.cell? ⟨w.heap.size + 1, 3, none⟩ = some (.int .i64 rs) := by rw [cell_of_row w5 _ 3 _ _ _ gx]; rfl
      have i4 : w5.cell? ⟨w.heap.size + 1, 4, none⟩ = some (.int .i64 kd) := by rw [cell_of_row w5 _ 4 _ _ _ gx]; rfl
      have i5 : w5.cell? ⟨w.heap.size + 1, 5, none⟩ = some (.slice a L cap) := by rw [cell_of_row w5 _ 5 _ _ _ gx]; rfl
      have WX : Wid w5 := hWx
      have HE := slhear ⟨ft, sq, an, rs, kd, ds⟩ a cap HY.out (by decide) (Lx.below (Below.refl _ w5).drew) (WX.below (Below.refl _ w5).drew) ((HR.out.below Bx).below (Below.refl _ w5).drew) (fun h0 ad hd => Nat.lt_of_lt_of_le (reads_ltN (by rw [← hd]; exact HR.out) h0) B1H.out.size)
      rw [ha, hc] at HE
      have HEH := Hid.intro HE
      have TKH := Hid.intro (fun W (h : SL (fun k => k < w1.heap.size) (0 + 4) w5 W b (sndP tx K N S wt ms R 2)) => sltick 0 (by decide) (by decide) h)
      have RMH := Hid.intro (fun W (h : SL (fun k => k < w1.heap.size) (0 + 4) w5 W b (sndP tx K N S wt ms R 2)) => slroom h)
      have TL := Hid.intro (tick_two (tx := tx) (K := K) (N := N) (S := S) (wait := wt) (most := ms) (R := R) (by omega))
      obtain ⟨p, hp⟩ : ∃ p, p = 2 * N := ⟨_, rfl⟩
      rw [← hp] at TL
      have p1 : (2 : Int) * (N : Int) = (p : Int) := by omega
      have p2 : p ≤ 20 := by omega
      have p3 : IntKind.i64.wrap (p : Int) = (p : Int) := IntWalk.i64_in _ (by omega)
      have BXH := Hid.intro Bx
      have hLL := HL.out
      have HELL : Hid (Calls Tryd.prog 15 #[.pointer (some ⟨b, 0, none⟩), Fr ft sq an rs kd a L cap] w5.drew fun e w' => e = .returned (.bool false) ∧ SL (fun k => k < w1.heap.size) (0 + 4) w5 w' b (sndP tx K N S wt ms R 2)) := by
        rw [hLL]; exact HEH.out
      have RML : Hid (∀ W, SL (fun k => k < w1.heap.size) (0 + 4) w5 W b (sndP tx K N S wt ms R 2) → Calls Tryd.prog 16 #[.pointer (some ⟨b, 0, none⟩)] W fun e w' => e = .returned (.int .i64 2) ∧ Below W.heap.size W w') := RMH.out
      clear ha hc HE HEH Lx gx WX hWx Bx HA hp hLL RMH
      go_region_held3 (fun w' => w'.cell? ⟨w.heap.size + 1, 0, none⟩ = some (.int .i64 ft) ∧ w'.cell? ⟨w.heap.size + 1, 1, none⟩ = some (.int .i64 sq) ∧ w'.cell? ⟨w.heap.size + 1, 2, none⟩ = some (.int .i64 an) ∧ w'.cell? ⟨w.heap.size + 1, 3, none⟩ = some (.int .i64 rs) ∧ w'.cell? ⟨w.heap.size + 1, 4, none⟩ = some (.int .i64 kd) ∧ w'.cell? ⟨w.heap.size + 1, 5, none⟩ = some (.slice a L cap) ∧ w'.cell? ⟨w.heap.size, 1, none⟩ = some (.int .i64 (N : Int)))
        (first | exact ⟨L8.cell i0 FBH.out, L8.cell i1 FBH.out, L8.cell i2 FBH.out, L8.cell i3 FBH.out, L8.cell i4 FBH.out, L8.cell i5 FBH.out, L8.cell c1 LBH.out⟩ | exact ⟨L7.cell i0 FBH.out, L7.cell i1 FBH.out, L7.cell i2 FBH.out, L7.cell i3 FBH.out, L7.cell i4 FBH.out, L7.cell i5 FBH.out, L7.cell c1 LBH.out⟩ | exact ⟨L6.cell i0 FBH.out, L6.cell i1 FBH.out, L6.cell i2 FBH.out, L6.cell i3 FBH.out, L6.cell i4 FBH.out, L6.cell i5 FBH.out, L6.cell c1 LBH.out⟩ | go_keep)
        (first
          | (go_at_call 15; refine HELL.out.mono ?_; rintro e w6 ⟨rfl, L6⟩)
          | (go_at_call 16; refine (RML.out _ L6).mono ?_; rintro e w7 ⟨rfl, B7⟩; have L7 := L6.below B7; clear B7)
          | (go_at_call 14; refine (TKH.out _ L7).mono ?_; rintro e w8 ⟨v8, G8, rfl, _, f8, _, L8⟩; obtain ⟨a8, c8, e8⟩ := f8.len; rw [TL.out] at e8; subst e8; clear f8))
      all_goals
        have BF := Hid.intro (BXH.out.trans ((L8.out (B := w1.heap.size) SX.out (fun k hk => hk)).mono B1H.out.size))
        clear L6 L7 L8 i0 i1 i2 i3 i4 i5 c1
        go_wp2
        go_ret
        exact ⟨rfl, BF.out⟩

theorem walk (tx k n s wt ms ft sq an rs kd : Int) (a : Option Addr) (len cap : Nat) (zs : List Int) (w : World) (_ : (Lit.int .i64 tx).wf = true) (_ : (Lit.int .i64 k).wf = true ∧ (Lit.int .i64 n).wf = true ∧ (Lit.int .i64 s).wf = true ∧ (Lit.int .i64 wt).wf = true ∧ (Lit.int .i64 ms).wf = true)
    (w2 : (Lit.int .i64 ft).wf = true ∧ (Lit.int .i64 sq).wf = true ∧ (Lit.int .i64 an).wf = true ∧ (Lit.int .i64 rs).wf = true ∧ (Lit.int .i64 kd).wf = true ∧ IsRow .u8 w a len cap zs) (hW : Wid w) :
    Calls Tryd.prog 7 #[.int .i64 tx, Lk k n s wt ms, Fr ft sq an rs kd a len cap] w fun e w' => e = .returned (.bool true) ∧ Below w.heap.size w w' := by
  rcases hn : (mayL k n s wt ms && isTx tx) with _ | _
  · exact walk_nil tx k n s wt ms ft sq an rs kd a len cap w hW hn
  · have h' := hn
    rw [Bool.and_eq_true] at h'
    obtain ⟨h1, h2, h3, h4, h5⟩ := mayL_true h'.1
    have h6 := mayC_true h1
    have h7 := isTx_true h'.2
    obtain ⟨_, _, _, _, _, hz⟩ := w2
    have hl := hz.len
    obtain ⟨ds, rfl, h256, hr⟩ := hz.bytes
    obtain ⟨T, rfl⟩ := Int.eq_ofNat_of_zero_le h7.1
    obtain ⟨K, rfl⟩ := Int.eq_ofNat_of_zero_le (show 0 ≤ k by omega)
    obtain ⟨N, rfl⟩ := Int.eq_ofNat_of_zero_le (show 0 ≤ n by omega)
    obtain ⟨S, rfl⟩ := Int.eq_ofNat_of_zero_le (show 0 ≤ s by omega)
    obtain ⟨A, rfl⟩ := Int.eq_ofNat_of_zero_le (show 0 ≤ wt by omega)
    obtain ⟨B, rfl⟩ := Int.eq_ofNat_of_zero_le (show 0 ≤ ms by omega)
    exact walk_near T K N S A B ft sq an rs kd a cap ds hl h256 w hW hr hn

set_option maxRecDepth 100000 in
theorem lifted (os : Os) (started : os.Started) (H : Type) (enc : TypeId × Value → H) :
    ReturnsInHanded {} Tryd.checked os 7 .any (fun w args => (Rows.senderDeafSpec.pre enc Tryd.prog Tryd.f7 [] false w args ∧ laidMetH Tryd.prog LW w) ∧ sizedMet enc Tryd.prog Tryd.f7 (OpenSpec.ofChange Rows.senderDeafSpec) false w args) (Rows.senderDeafSpec.post enc Tryd.prog Tryd.f7 false true false false) := by
  refine returnsInHanded_of_change_and (C := Tryd.checked) (X := fun w _ => laidMetH Tryd.prog LW w) (fun _ _ _ hh h => h.of_heap hh) own started (by kernel_rfl) Tryd.func7
    (ChangeSpec.witness_shaped (enc := enc) (C := Tryd.checked) (os := os) (X := fun w _ => laidMetH Tryd.prog LW w) false (World.doorLaid Tryd.prog 400 os) #[.int .i64 0, .agg #[.int .i64 0, .int .i64 0, .int .i64 0, .int .i64 0, .int .i64 0], .agg #[.int .i64 0, .int .i64 0, .int .i64 0, .int .i64 0, .int .i64 0, .slice none 0 0]] 8 rfl (World.shaped_of_RefB (by kernel_rfl) (by kernel_rfl)) (by kernel_rfl) (by kernel_rfl) (by kernel_rfl) (door_met os _)) ?_
  intro W base args ds gs before hval0 hW _ _ hL _
  have hval : ∀ (j : Nat) t v, Tryd.f7.params[j]? = some t → args[j]? = some v → Value.okWide Tryd.prog W .any base t v := hval0
  have hW' := hW
  obtain ⟨p, q, hA0, hV, rfl, hfz, hnd⟩ := hW
  have hA : DataW.TrodAll enc Tryd.prog W 0 (fun _ => true) true Tryd.f7.params.toList args.toList ds p := hA0
  rw [Tryd.params7] at hA hval
  obtain ⟨v0, vs0, d0, ds0, p0, q0, hargs, rfl, rfl, h0, r0⟩ := trodAll_cons hA
  obtain ⟨v1, vs1, d1, ds1, p1, q1, rfl, rfl, rfl, h1, r1⟩ := trodAll_cons r0
  obtain ⟨v2, vs2, d2, ds2, p2, q2, rfl, rfl, rfl, h2, r2⟩ := trodAll_cons r1
  obtain ⟨rfl, rfl, rfl⟩ := trodAll_nil r2
  obtain rfl : args = #[v0, v1, v2] := by cases args; simp_all
  obtain ⟨rfl, rfl⟩ := trodVars_none hV
  obtain ⟨a0, rfl, rfl, rfl, w0⟩ := open_int Tryd.underlying3 (hval 0 3 v0 rfl rfl) h0
  have k1 := h1
  have lt1 : ∀ x ∈ p1, x.block < W.heap.size := by obtain ⟨m, hm⟩ := k1; exact DataW.trod_lt m _ _ _ hm
  obtain ⟨kc1, nc1, sc1, wc1, mc1, rfl, w1⟩ := open_link (hval 1 25 v1 rfl rfl) h1
  have k2 := h2
  have lt2 : ∀ x ∈ p2, x.block < W.heap.size := by obtain ⟨m, hm⟩ := k2; exact DataW.trod_lt m _ _ _ hm
  obtain ⟨tx2, sq2, an2, rs2, kd2, a2, len2, cap2, z2, rfl, w2⟩ := open_frame (hval 2 39 v2 rfl rfl) h2
  clear hA0 hval0
  refine (walk a0 kc1 nc1 sc1 wc1 mc1 tx2 sq2 an2 rs2 kd2 a2 len2 cap2 z2 W w0 w1 w2 (laid_fact hL)).mono fun e W' ⟨he, bel⟩ => ?_
  subst he
  exact ⟨_, rfl, _, _, _, [], _, [], hW', trodAll_mk1 (shut_bool Tryd.underlying4 _), (trodAll_cons_mk (shut_int Tryd.underlying3 w0) (trodAll_cons_mk (Below.trod laidOut (by kernel_rfl) (of_decide_eq_true (by kernel_rfl)) k1 bel lt1) (trodAll_cons_mk (Below.trod laidOut (by kernel_rfl) (of_decide_eq_true (by kernel_rfl)) k2 bel lt2) trodAll_mk0))), rfl, bel.frame _, fun h => by cases h⟩

theorem over : Rows.senderDeafRow.holds Tryd.pinned (OpenSpec.ofChange Rows.senderDeafSpec) :=
  OpenClaim.holds_of_wide 7 Tryd.f7 rfl rfl rfl rfl rfl rfl rfl ⟨rfl, rfl, rfl, rfl, rfl⟩ rfl rfl rfl rfl rfl (by kernel_rfl) Tryd.func7 (by kernel_rfl)
    (of_decide_eq_true (by kernel_rfl)) (by unfold Func.isWrapper; first | (rw [if_pos (by decide +kernel)]; kernel_rfl) | (rw [if_neg (by decide +kernel)]; exact ⟨rfl, rfl⟩))
    (fun os started H enc _ => lifted os started H enc)

end Go.Proofs.YteacdckfnmjojaaDoor.LSenderDeaf

namespace Go.Proofs.YteacdckfnmjojaaDoor
theorem senderDeaf_holds : Rows.SenderDeafCardSaid :=
  Claim7.holds_tied_plain_at .later [] [.data] true (true, "9b5cfb4e48c1552a5b4377346394cfbd12191835c5e1507131bd829a00487da3") false
    LSenderDeaf.over (fun _ h => by cases h) (by kernel_rfl) (fun _ h => by cases h) senderDeaf_row_tie rfl ⟨rfl, rfl⟩ (by kernel_rfl) rfl
    (fun f fn hf hfn => by
      obtain rfl : f = 7 := Option.some.inj ((show Tryd.prog.funcNamed "gurney/gurneylaw08.SenderDeaf" = some 7 by kernel_rfl).symm.trans hf) |>.symm
      obtain rfl : fn = Tryd.f7 := (Option.some.inj (Tryd.func7.symm.trans hfn)).symm
      exact ⟨by kernel_rfl, fun j t ht => by
        rw [Tryd.params7] at ht
        have hm : t ∈ [3, 25, 39] := by simpa using Array.mem_of_getElem? ht
        have hall : ([3, 25, 39].all fun u => !Tryd.prog.wantsStandIn u) = true := by kernel_rfl
        exact (show Tryd.prog.wantsStandIn t = false by simpa using List.all_eq_true.1 hall t hm)⟩)
    (by kernel_rfl)
#print axioms senderDeaf_holds
end Go.Proofs.YteacdckfnmjojaaDoor
