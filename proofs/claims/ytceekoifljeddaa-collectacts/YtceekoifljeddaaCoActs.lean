/- The statement CollectActs: whatever comes in, errors, what is due, and which groups are ready, are the document's all along. -/
import Derived.Test.YtceekoifljeddaaCoAlive
import Derived.Test.YtceekoifljeddaaCoTwo
import Derived.Test.YtceekoifljeddaaRefSevG
import Derived.Test.YtceekoifljeddaaRsArg
import Derived.Test.YtceekoifljeddaaCoArg
import Derived.Deep.RegionHeld3
namespace Go.Proofs.Ytceekoifljeddaa
open Go.ChangeShapes Go.WideShapes Go.ChangeAt Go.RowKit Go.Joins
open Bt

namespace LCollectActs

theorem dueP_few (x : Col) : (dueP x).length ≤ 1000 := by
  unfold dueP
  have := dueM_le 4 x
  simp; omega

theorem dueP_short {x : Col} (h : x.Ok) : ∀ t, (ht : t < (dueP x).length) → (dueP x)[t].data.length ≤ 100000 := by
  intro t ht
  have hb := (shiftN_ok h t).bounds
  have e : (dueP x)[t] = partOf (shiftN t x) := by simp [dueP]
  rw [e]
  unfold partOf
  split
  · show (decT _ _ _).length ≤ _
    rw [decT_length]
    have : (shiftN t x).K * (shiftN t x).S ≤ 6 * 24 := Nat.mul_le_mul (by omega) (by omega)
    omega
  · exact Nat.zero_le _

theorem walk_far (k n s g : Int) (a : Option Addr) (len cap : Nat) (w : World) (hlen : len ≤ maxLen) (h : 80 < len) :
    Calls Try.prog 3 #[Cd k n s, .int .i64 g, .slice a len cap] w fun e w' => e = .returned (.bool true) ∧ Below w.heap.size w w' := by
  unfold maxLen at hlen
  have j : decide ((80 : Int) < (len : Int)) = true := by simp; omega
  have B0 := Hid.intro ((Below.refl _ w).alloc (Nat.le_refl _) (.cells #[.int .i64 k, .int .i64 n, .int .i64 s] 23))
  go_enter Try.func3, Try.ntmps3
  go_wp2_with fail
  refine (alive_any _).mono ?_
  rintro e w1 ⟨rfl, B1⟩
  go_wp2
  go_ret
  exact ⟨rfl, B0.out.trans (B1.mono B0.out.size)⟩

set_option maxRecDepth 100000 in
set_option maxHeartbeats 1000000 in
theorem walk_bad (k n s g : Int) (a : Option Addr) (len cap : Nat) (w : World) (hlen : len ≤ 80) (h : (mayC k n s && isG g) = false) :
    Calls Try.prog 3 #[Cd k n s, .int .i64 g, .slice a len cap] w fun e w' => e = .returned (.bool true) ∧ Below w.heap.size w w' := by
  have j : decide ((80 : Int) < (len : Int)) = false := by simp; omega
  have MA := Hid.intro (fun w => refMay_any k n s w)
  have IS := Hid.intro (fun w => refIs_any g w)
  have NO := Hid.intro (fun w => cnew_no k n s g h w)
  have HH := Hid.intro h
  have b0 := Hid.intro (heap_alloc_new w (.cells #[.int .i64 k, .int .i64 n, .int .i64 s] 23))
  have B0 := Hid.intro ((Below.refl _ w).alloc (Nat.le_refl _) (.cells #[.int .i64 k, .int .i64 n, .int .i64 s] 23))
  generalize mayC k n s = vm at MA HH
  generalize isG g = vg at IS HH
  clear h
  go_enter Try.func3, Try.ntmps3
  go_wp2_with fail
  refine (alive_any _).mono ?_
  rintro e w1 ⟨rfl, B1⟩
  have b1 := (B1.block _ (lt_of_heap b0.out)).trans b0.out
  have B1H := Hid.intro (B0.out.trans (B1.mono B0.out.size))
  have b1H := Hid.intro b1
  obtain ⟨c0, c1, c2⟩ := cd_cells b1
  clear b1 B1 B0 b0
  go_wp2_with fail
  refine (NO.out _).mono ?_
  rintro e w2 ⟨rfl, B2⟩
  have b2 := (B2.block _ (lt_of_heap b1H.out)).trans b1H.out
  have B2H := Hid.intro (B1H.out.trans (B2.mono B1H.out.size))
  obtain ⟨d0, d1, d2⟩ := cd_cells b2
  clear B2 B1H NO c0 c1 c2 b2 b1H
  go_wp2_with fail
  refine (MA.out _).mono ?_
  rintro e w3 ⟨rfl, B3⟩
  have B3H := Hid.intro (B2H.out.trans (B3.mono B2H.out.size))
  clear B3 B2H MA d0 d1 d2
  cases vm
  · clear IS
    go_wp2_with fail
    refine (cshard_nil 0 0 (.slice none 0 0) w3).mono ?_
    rintro e w4 ⟨rfl, B4⟩
    have B4H := Hid.intro (B3H.out.trans (B4.mono B3H.out.size))
    clear B4 B3H
    go_wp2_with fail
    refine (cskip_nil 0 w4).mono ?_
    rintro e w5 ⟨rfl, B5⟩
    have B5H := Hid.intro (B4H.out.trans (B5.mono B4H.out.size))
    clear B5 B4H
    go_wp2_with fail
    refine (cdue_nil w5).mono ?_
    rintro e w6 ⟨ao, cp, rfl, B6⟩
    have B6H := Hid.intro (B5H.out.trans (B6.mono B5H.out.size))
    clear B6 B5H
    go_wp2_with fail
    refine (cbase_nil w6).mono ?_
    rintro e w7 ⟨rfl, B7⟩
    have B7H := Hid.intro (B6H.out.trans (B7.mono B6H.out.size))
    clear B7 B6H
    go_wp2_with fail
    refine (cready_nil w7).mono ?_
    rintro e w8 ⟨rfl, B8⟩
    have B8H := Hid.intro (B7H.out.trans (B8.mono B7H.out.size))
    clear B8 B7H
    go_wp2_with fail
    refine (chave_nil 0 w8).mono ?_
    rintro e w9 ⟨rfl, B9⟩
    have B9H := Hid.intro (B8H.out.trans (B9.mono B8H.out.size))
    clear B9 B8H
    go_wp2
    go_ret
    exact ⟨rfl, B9H.out⟩
  · obtain rfl : vg = false := by have := HH.out; simpa using this
    go_wp2_with fail
    refine (IS.out _).mono ?_
    rintro e w0 ⟨rfl, rfl⟩
    clear IS
    go_wp2_with fail
    refine (cshard_nil 0 0 (.slice none 0 0) w3).mono ?_
    rintro e w4 ⟨rfl, B4⟩
    have B4H := Hid.intro (B3H.out.trans (B4.mono B3H.out.size))
    clear B4 B3H
    go_wp2_with fail
    refine (cskip_nil 0 w4).mono ?_
    rintro e w5 ⟨rfl, B5⟩
    have B5H := Hid.intro (B4H.out.trans (B5.mono B4H.out.size))
    clear B5 B4H
    go_wp2_with fail
    refine (cdue_nil w5).mono ?_
    rintro e w6 ⟨ao, cp, rfl, B6⟩
    have B6H := Hid.intro (B5H.out.trans (B6.mono B5H.out.size))
    clear B6 B5H
    go_wp2_with fail
    refine (cbase_nil w6).mono ?_
    rintro e w7 ⟨rfl, B7⟩
    have B7H := Hid.intro (B6H.out.trans (B7.mono B6H.out.size))
    clear B7 B6H
    go_wp2_with fail
    refine (cready_nil w7).mono ?_
    rintro e w8 ⟨rfl, B8⟩
    have B8H := Hid.intro (B7H.out.trans (B8.mono B7H.out.size))
    clear B8 B7H
    go_wp2_with fail
    refine (chave_nil 0 w8).mono ?_
    rintro e w9 ⟨rfl, B9⟩
    have B9H := Hid.intro (B8H.out.trans (B9.mono B8H.out.size))
    clear B9 B8H
    go_wp2
    go_ret
    exact ⟨rfl, B9H.out⟩

set_option maxRecDepth 100000 in
set_option maxHeartbeats 4000000 in
theorem walk_near (K N S G : Nat) (hnew : (mayC K N S && isG G) = true) (a : Option Addr) (cap : Nat) (l : List Act7) (w : World) (h3 : l.length ≤ 80) (hY : ∀ x ∈ l, x.Wf) (hr : ActsAt w a l) :
    Calls Try.prog 3 #[Cd K N S, .int .i64 (G : Int), .slice a l.length cap] w fun e w' => e = .returned (.bool true) ∧ Below w.heap.size w w' := by
  have hnew2 := hnew
  rw [Bool.and_eq_true] at hnew2
  have hmay := hnew2.1
  obtain ⟨m1, m2, m3, m4, m5, m6⟩ := mayC_true hmay
  have hG : G < 256 := by have := isG_true hnew2.2; omega
  have HR := Hid.intro hr
  have HY := Hid.intro hY
  have NW := Hid.intro (fun w => cnew_yes K N S G hnew w)
  have MA := fun w => refMay_any (K : Int) N S w
  rw [hnew2.1] at MA
  have MAH := Hid.intro MA
  have IS := fun w => refIs_any (G : Int) w
  rw [hnew2.2] at IS
  have ISH := Hid.intro IS
  have b0 := Hid.intro (heap_alloc_new w (.cells #[.int .i64 (K : Int), .int .i64 (N : Int), .int .i64 (S : Int)] 23))
  have B0 := Hid.intro ((Below.refl _ w).alloc (Nat.le_refl _) (.cells #[.int .i64 (K : Int), .int .i64 (N : Int), .int .i64 (S : Int)] 23))
  have j2 : decide ((80 : Int) < (l.length : Int)) = false := by simp; omega
  have HMY := Hid.intro hmay
  clear hr hY hmay hnew hnew2 MA IS
  go_enter Try.func3, Try.ntmps3
  go_wp2_with fail
  refine (alive_any _).mono ?_
  rintro e w1 ⟨rfl, B1⟩
  have b1 := (B1.block _ (lt_of_heap b0.out)).trans b0.out
  have B1H := Hid.intro (B0.out.trans (B1.mono B0.out.size))
  have b1H := Hid.intro b1
  obtain ⟨c0, c1, c2⟩ := cd_cells b1
  clear b1 B1 B0 b0
  go_wp2_with fail
  refine (NW.out w1).mono ?_
  rintro e w2 ⟨b, F, rfl, hC, hF, B2⟩
  have B2H := Hid.intro B2
  have C2H := Hid.intro hC
  have F2H := Hid.intro hF
  obtain ⟨d0, d1, d2⟩ := cd_cells ((B2.block _ (lt_of_heap b1H.out)).trans b1H.out)
  clear c0 c1 c2 B2 hC hF NW
  go_wp2_with fail
  refine (MAH.out w2).mono ?_
  rintro e w3 ⟨rfl, B3⟩
  have B3H := Hid.intro (B2H.out.trans (B3.mono B2H.out.size))
  have C3H := Hid.intro (C2H.out.kept (below_chg B3) (fun _ _ => id))
  have b3H := Hid.intro ((B3H.out.block _ (lt_of_heap b1H.out)).trans b1H.out)
  clear d0 d1 d2 B3 B2H C2H MAH
  go_wp2_with fail
  refine (ISH.out w3).mono ?_
  rintro e w0 ⟨rfl, rfl⟩
  obtain ⟨c0, c1, c2⟩ := cd_cells b3H.out
  clear ISH
  go_wp2_with fail
  refine (two_new C3H.out F2H.out B3H.out.size HMY.out hG).mono ?_
  rintro e w4 ⟨r, rfl, T4, B4⟩
  have T4H := Hid.intro T4
  have B4H := Hid.intro (B3H.out.trans (B4.mono B3H.out.size))
  clear c0 c1 c2 T4 B4 C3H B3H b3H F2H HMY
  go_wp2_with fail
  go_loopw [9] (fun i wr => ∃ (t : Nat) (x : Col), t ≤ l.length ∧ i = .int .i64 t ∧ Two (fun k => k < w1.heap.size) wr.heap.size wr b r x x ∧ Below w1.heap.size w1 wr) (fun i _ => l.length - (intOf i).toNat)
  case atStart => exact ⟨0, _, by omega, rfl, T4H.out, B4H.out⟩
  case round =>
    clear T4H B4H
    obtain ⟨t, x, ht, rfl, TX, BX⟩ := hrel
    have BW := Hid.intro (B1H.out.trans (BX.mono B1H.out.size))
    by_cases hlt : t < l.length
    · have t0 : (0 : Int) ≤ (t : Int) := by omega
      have t1 : (t : Int) < (l.length : Int) := by omega
      obtain ⟨lb, lo, rfl, hl⟩ := HR.out (by omega)
      obtain ⟨ao, ac, y0, y1, y2, y3, yr, ym⟩ := hl t hlt
      have yb := HY.out l[t] (List.getElem_mem hlt)
      generalize l[t] = A at y0 y1 y2 y3 yr ym yb
      obtain ⟨kd, g, p, bs⟩ := A
      dsimp only at y0 y1 y2 y3 yr ym yb
      have YG : Hid (isI g) := yb.2.2
      have x0 := cellK BW.out y0
      have x1 := cellK BW.out y1
      have x2 := cellK BW.out y2
      have x3 := cellK BW.out y3
      obtain ⟨L, hL⟩ : ∃ L, L = bs.length := ⟨_, rfl⟩
      have HLL := Hid.intro hL
      rw [← hL] at x3
      clear hL y0 y1 y2 y3 hl
      by_cases k0 : kd = 0
      · subst k0
        have hn := heap_alloc_new wr (.cells #[.int .i64 0, .int .i64 g, .int .i64 p, .slice ao L ac] 41)
        have BA := (Below.refl _ wr).alloc (Nat.le_refl _) (.cells #[.int .i64 0, .int .i64 g, .int .i64 p, .slice ao L ac] 41)
        have TA := (TX.grow BA).less (G := fun k => k < w1.heap.size ∨ k = wr.heap.size) (fun k hk => by
          rcases hk with q | q
          · exact .inl q
          · subst q; exact .inr ⟨Nat.le_refl _, by simp⟩)
        have BXA := BX.trans (BA.mono BX.size)
        have a0 : (wr.alloc (.cells #[.int .i64 0, .int .i64 g, .int .i64 p, .slice ao L ac] 41)).cell? ⟨wr.heap.size, 0, none⟩ = some (.int .i64 0) := by rw [cell_of_row _ _ 0 _ _ _ hn]; rfl
        have a1 : (wr.alloc (.cells #[.int .i64 0, .int .i64 g, .int .i64 p, .slice ao L ac] 41)).cell? ⟨wr.heap.size, 1, none⟩ = some (.int .i64 g) := by rw [cell_of_row _ _ 1 _ _ _ hn]; rfl
        have a2 : (wr.alloc (.cells #[.int .i64 0, .int .i64 g, .int .i64 p, .slice ao L ac] 41)).cell? ⟨wr.heap.size, 2, none⟩ = some (.int .i64 p) := by rw [cell_of_row _ _ 2 _ _ _ hn]; rfl
        have a3 : (wr.alloc (.cells #[.int .i64 0, .int .i64 g, .int .i64 p, .slice ao L ac] 41)).cell? ⟨wr.heap.size, 3, none⟩ = some (.slice ao L ac) := by rw [cell_of_row _ _ 3 _ _ _ hn]; rfl
        go_wp2_with fail
        generalize wr.alloc (.cells #[.int .i64 0, .int .i64 g, .int .i64 p, .slice ao L ac] 41) = wa at TA BXA a0 a1 a2 a3 ⊢
        clear hn BA x0 x1 x2 x3 TX BX
        have RA := yr.below (B1H.out.trans (BXA.mono B1H.out.size))
        have TAH := Hid.intro TA
        have BAH := Hid.intro BXA
        clear TA BXA
        have HS := two_shard g p ao ac bs yb.1 ym (TAH.out.below (Below.refl _ wa).drew) (RA.below (Below.refl _ wa).drew) (fun h0 ad ha => .inl (Nat.lt_of_lt_of_le (reads_lt (by rw [← ha]; exact yr) h0) B1H.out.size))
        have HRS := fun (W : World) (T : Two (fun k => k < w1.heap.size ∨ k = wr.heap.size) wr.heap.size W b r (shardC x g p bs) x) (hq : Reads W ao bs) => two_rshard g p yb.2.1 ao ac bs yb.1 ym T hq
        rw [← HLL.out] at HS HRS
        generalize shardE x g p L = E at HS HRS
        generalize shardC x g p bs = z at HS HRS
        have HSH := Hid.intro HS
        have HRSH := Hid.intro HRS
        have hee : ((E : Int) == E) = true := by simp
        have RK : Hid (∀ W, Chg (fun k => ¬ (k < w1.heap.size ∨ k = wr.heap.size)) wa W → Reads W ao bs) := fun W hW => yr.below (B1H.out.trans ((BAH.out.trans (chg_below hW BAH.out.size (fun k hk => .inl hk))).mono B1H.out.size))
        clear HS HRS yb ym yr RA
        go_region_held3 (fun w' => w'.cell? ⟨wr.heap.size, 1, none⟩ = some (.int .i64 g) ∧ w'.cell? ⟨wr.heap.size, 2, none⟩ = some (.int .i64 p) ∧ w'.cell? ⟨wr.heap.size, 3, none⟩ = some (.slice ao L ac))
          (first | exact ⟨chg_cell (F := fun k => k < w1.heap.size ∨ k = wr.heap.size) D6 a1 (.inr rfl), chg_cell (F := fun k => k < w1.heap.size ∨ k = wr.heap.size) D6 a2 (.inr rfl), chg_cell (F := fun k => k < w1.heap.size ∨ k = wr.heap.size) D6 a3 (.inr rfl)⟩ | exact ⟨chg_cell (F := fun k => k < w1.heap.size ∨ k = wr.heap.size) D5 a1 (.inr rfl), chg_cell (F := fun k => k < w1.heap.size ∨ k = wr.heap.size) D5 a2 (.inr rfl), chg_cell (F := fun k => k < w1.heap.size ∨ k = wr.heap.size) D5 a3 (.inr rfl)⟩ | go_keep)
          (first
            | (go_at_call 13; refine HSH.out.mono ?_; rintro e w5 ⟨rfl, T5, C5⟩; have D5 : Chg (fun k => ¬ (k < w1.heap.size ∨ k = wr.heap.size)) wa w5 := ((Chg.refl _ wa).drew).trans C5 (fun _ q _ => q); clear C5)
            | (go_at_call 20; refine (HRSH.out w5 T5 (RK.out w5 D5)).mono ?_; rintro e w6 ⟨rfl, T6, C6⟩; have D6 : Chg (fun k => ¬ (k < w1.heap.size ∨ k = wr.heap.size)) wa w6 := D5.trans C6 (fun _ q _ => q); clear C6))
        all_goals
          have B6H := Hid.intro (BAH.out.trans (chg_below D6 BAH.out.size (fun k hk => .inl hk)))
          have e1 := chg_cell (F := fun k => k < w1.heap.size ∨ k = wr.heap.size) D6 a1 (.inr rfl)
          clear D5 D6 T5 HSH HRSH RK TAH BAH a0 a1 a2 a3
          have c3 := T6.base
          have FB := Hid.intro (two_base (T6.below (Below.refl _ w6).drew))
          have FR := Hid.intro (fun W (h : Two (fun k => k < w1.heap.size ∨ k = wr.heap.size) w6.heap.size W b r z z) => two_ready h)
          have FRR := Hid.intro (fun W (h : Two (fun k => k < w1.heap.size ∨ k = wr.heap.size) w6.heap.size W b r z z) => two_rready h)
          have FH := Hid.intro (fun W (h : Two (fun k => k < w1.heap.size ∨ k = wr.heap.size) w6.heap.size W b r z z) => two_have g YG.out h)
          have FRH := Hid.intro (fun W (h : Two (fun k => k < w1.heap.size ∨ k = wr.heap.size) w6.heap.size W b r z z) => two_rhave g h)
          generalize z.base = zb at c3 FB
          generalize readyN z = zr at FR FRR
          generalize haveN z g = zh at FH FRH
          have n1 : ((zb : Int) != (zb : Int)) = false := by simp
          have n2 : ((zr : Int) != (zr : Int)) = false := by simp
          have n3 : ((zh : Int) != (zh : Int)) = false := by simp
          go_wp2_with fail
          go_region_held3 (fun w' => w'.cell? ⟨r, 3, none⟩ = some (.int .i64 (zb : Int)) ∧ w'.cell? ⟨wr.heap.size, 1, none⟩ = some (.int .i64 g))
            (first | exact ⟨cellK E11 c3, cellK E11 e1⟩ | exact ⟨cellK E10 c3, cellK E10 e1⟩ | exact ⟨cellK E9 c3, cellK E9 e1⟩ | exact ⟨cellK E8 c3, cellK E8 e1⟩ | exact ⟨cellK E7 c3, cellK E7 e1⟩ | go_keep)
            (first
              | (go_at_call 16; refine FB.out.mono ?_; rintro e w7 ⟨rfl, B7⟩; have E7 : Below w6.heap.size w6 w7 := undrewK B7 rfl; have T7 := T6.below E7; clear B7)
              | (go_at_call 17; refine (FR.out _ T7).mono ?_; rintro e w8 ⟨rfl, B8⟩; have E8 := E7.trans (B8.mono E7.size); have T8 := T7.below B8; clear B8)
              | (go_at_call 24; refine (FRR.out _ T8).mono ?_; rintro e w9 ⟨rfl, B9⟩; have E9 := E8.trans (B9.mono E8.size); have T9 := T8.below B9; clear B9)
              | (go_at_call 18; refine (FH.out _ T9).mono ?_; rintro e w10 ⟨rfl, B10⟩; have E10 := E9.trans (B10.mono E9.size); have T10 := T9.below B10; clear B10)
              | (go_at_call 25; refine (FRH.out _ T10).mono ?_; rintro e w11 ⟨rfl, B11⟩; have E11 := E10.trans (B11.mono E10.size); have T11 := T10.below B11; clear B11))
          all_goals
            have TZ := Hid.intro (T11.less (G := fun k => k < w1.heap.size) (fun k hk => .inl hk)).here
            have BZ := Hid.intro (B6H.out.trans (E11.mono B6H.out.size))
            clear T6 T7 T8 T9 T10 T11 E7 E8 E9 E10 E11 FB FR FRR FH FRH c3 e1 B6H
            go_wp2
            go_roundw
            case rel => exact ⟨t + 1, z, by omega, by go_num, TZ.out, BZ.out⟩
            case measure => simp [intOf]; omega
      · have j0 : (kd == 0) = false := by rw [beq_eq_false_iff_ne]; exact k0
        by_cases k1 : kd = 1
        · subst k1
          have hn := heap_alloc_new wr (.cells #[.int .i64 1, .int .i64 g, .int .i64 p, .slice ao L ac] 41)
          have BA := (Below.refl _ wr).alloc (Nat.le_refl _) (.cells #[.int .i64 1, .int .i64 g, .int .i64 p, .slice ao L ac] 41)
          have TA := (TX.grow BA).less (G := fun k => k < w1.heap.size ∨ k = wr.heap.size) (fun k hk => by
            rcases hk with q | q
            · exact .inl q
            · subst q; exact .inr ⟨Nat.le_refl _, by simp⟩)
          have BXA := BX.trans (BA.mono BX.size)
          have a0 : (wr.alloc (.cells #[.int .i64 1, .int .i64 g, .int .i64 p, .slice ao L ac] 41)).cell? ⟨wr.heap.size, 0, none⟩ = some (.int .i64 1) := by rw [cell_of_row _ _ 0 _ _ _ hn]; rfl
          have a1 : (wr.alloc (.cells #[.int .i64 1, .int .i64 g, .int .i64 p, .slice ao L ac] 41)).cell? ⟨wr.heap.size, 1, none⟩ = some (.int .i64 g) := by rw [cell_of_row _ _ 1 _ _ _ hn]; rfl
          have a2 : (wr.alloc (.cells #[.int .i64 1, .int .i64 g, .int .i64 p, .slice ao L ac] 41)).cell? ⟨wr.heap.size, 2, none⟩ = some (.int .i64 p) := by rw [cell_of_row _ _ 2 _ _ _ hn]; rfl
          have a3 : (wr.alloc (.cells #[.int .i64 1, .int .i64 g, .int .i64 p, .slice ao L ac] 41)).cell? ⟨wr.heap.size, 3, none⟩ = some (.slice ao L ac) := by rw [cell_of_row _ _ 3 _ _ _ hn]; rfl
          go_wp2_with fail
          generalize wr.alloc (.cells #[.int .i64 1, .int .i64 g, .int .i64 p, .slice ao L ac] 41) = wa at TA BXA a0 a1 a2 a3 ⊢
          clear hn BA x0 x1 x2 x3 TX BX
          have RA := yr.below (B1H.out.trans (BXA.mono B1H.out.size))
          have TAH := Hid.intro TA
          have BAH := Hid.intro BXA
          clear TA BXA
          have HS := two_skip g (TAH.out.below (Below.refl _ wa).drew)
          have HRS := fun (W : World) (T : Two (fun k => k < w1.heap.size ∨ k = wr.heap.size) wr.heap.size W b r (skipC x g) x) => two_rskip g T
          generalize skipE x g = E at HS HRS
          generalize skipC x g = z at HS HRS
          have HSH := Hid.intro HS
          have HRSH := Hid.intro HRS
          have hee : ((E : Int) == E) = true := by simp
          clear HS HRS yb ym yr RA
          go_region_held3 (fun w' => w'.cell? ⟨wr.heap.size, 1, none⟩ = some (.int .i64 g))
            (first | exact chg_cell (F := fun k => k < w1.heap.size ∨ k = wr.heap.size) D6 a1 (.inr rfl) | exact chg_cell (F := fun k => k < w1.heap.size ∨ k = wr.heap.size) D5 a1 (.inr rfl) | go_keep)
            (first
              | (go_at_call 14; refine HSH.out.mono ?_; rintro e w5 ⟨rfl, T5, C5⟩; have D5 : Chg (fun k => ¬ (k < w1.heap.size ∨ k = wr.heap.size)) wa w5 := ((Chg.refl _ wa).drew).trans C5 (fun _ q _ => q); clear C5)
              | (go_at_call 21; refine (HRSH.out w5 T5).mono ?_; rintro e w6 ⟨rfl, T6, C6⟩; have D6 : Chg (fun k => ¬ (k < w1.heap.size ∨ k = wr.heap.size)) wa w6 := D5.trans C6 (fun _ q _ => q); clear C6))
          all_goals
            have B6H := Hid.intro (BAH.out.trans (chg_below D6 BAH.out.size (fun k hk => .inl hk)))
            have e1 := chg_cell (F := fun k => k < w1.heap.size ∨ k = wr.heap.size) D6 a1 (.inr rfl)
            clear D5 D6 T5 HSH HRSH TAH BAH a0 a1 a2 a3
            have c3 := T6.base
            have FB := Hid.intro (two_base (T6.below (Below.refl _ w6).drew))
            have FR := Hid.intro (fun W (h : Two (fun k => k < w1.heap.size ∨ k = wr.heap.size) w6.heap.size W b r z z) => two_ready h)
            have FRR := Hid.intro (fun W (h : Two (fun k => k < w1.heap.size ∨ k = wr.heap.size) w6.heap.size W b r z z) => two_rready h)
            have FH := Hid.intro (fun W (h : Two (fun k => k < w1.heap.size ∨ k = wr.heap.size) w6.heap.size W b r z z) => two_have g YG.out h)
            have FRH := Hid.intro (fun W (h : Two (fun k => k < w1.heap.size ∨ k = wr.heap.size) w6.heap.size W b r z z) => two_rhave g h)
            generalize z.base = zb at c3 FB
            generalize readyN z = zr at FR FRR
            generalize haveN z g = zh at FH FRH
            have n1 : ((zb : Int) != (zb : Int)) = false := by simp
            have n2 : ((zr : Int) != (zr : Int)) = false := by simp
            have n3 : ((zh : Int) != (zh : Int)) = false := by simp
            go_wp2_with fail
            go_region_held3 (fun w' => w'.cell? ⟨r, 3, none⟩ = some (.int .i64 (zb : Int)) ∧ w'.cell? ⟨wr.heap.size, 1, none⟩ = some (.int .i64 g))
              (first | exact ⟨cellK E11 c3, cellK E11 e1⟩ | exact ⟨cellK E10 c3, cellK E10 e1⟩ | exact ⟨cellK E9 c3, cellK E9 e1⟩ | exact ⟨cellK E8 c3, cellK E8 e1⟩ | exact ⟨cellK E7 c3, cellK E7 e1⟩ | go_keep)
              (first
                | (go_at_call 16; refine FB.out.mono ?_; rintro e w7 ⟨rfl, B7⟩; have E7 : Below w6.heap.size w6 w7 := undrewK B7 rfl; have T7 := T6.below E7; clear B7)
                | (go_at_call 17; refine (FR.out _ T7).mono ?_; rintro e w8 ⟨rfl, B8⟩; have E8 := E7.trans (B8.mono E7.size); have T8 := T7.below B8; clear B8)
                | (go_at_call 24; refine (FRR.out _ T8).mono ?_; rintro e w9 ⟨rfl, B9⟩; have E9 := E8.trans (B9.mono E8.size); have T9 := T8.below B9; clear B9)
                | (go_at_call 18; refine (FH.out _ T9).mono ?_; rintro e w10 ⟨rfl, B10⟩; have E10 := E9.trans (B10.mono E9.size); have T10 := T9.below B10; clear B10)
                | (go_at_call 25; refine (FRH.out _ T10).mono ?_; rintro e w11 ⟨rfl, B11⟩; have E11 := E10.trans (B11.mono E10.size); have T11 := T10.below B11; clear B11))
            all_goals
              have TZ := Hid.intro (T11.less (G := fun k => k < w1.heap.size) (fun k hk => .inl hk)).here
              have BZ := Hid.intro (B6H.out.trans (E11.mono B6H.out.size))
              clear T6 T7 T8 T9 T10 T11 E7 E8 E9 E10 E11 FB FR FRR FH FRH c3 e1 B6H
              go_wp2
              go_roundw
              case rel => exact ⟨t + 1, z, by omega, by go_num, TZ.out, BZ.out⟩
              case measure => simp [intOf]; omega
        · have j1 : (kd == 1) = false := by rw [beq_eq_false_iff_ne]; exact k1
          by_cases k2 : kd = 2
          · subst k2
            have hn := heap_alloc_new wr (.cells #[.int .i64 2, .int .i64 g, .int .i64 p, .slice ao L ac] 41)
            have BA := (Below.refl _ wr).alloc (Nat.le_refl _) (.cells #[.int .i64 2, .int .i64 g, .int .i64 p, .slice ao L ac] 41)
            have TA := (TX.grow BA).less (G := fun k => k < w1.heap.size ∨ k = wr.heap.size) (fun k hk => by
              rcases hk with q | q
              · exact .inl q
              · subst q; exact .inr ⟨Nat.le_refl _, by simp⟩)
            have BXA := BX.trans (BA.mono BX.size)
            have a0 : (wr.alloc (.cells #[.int .i64 2, .int .i64 g, .int .i64 p, .slice ao L ac] 41)).cell? ⟨wr.heap.size, 0, none⟩ = some (.int .i64 2) := by rw [cell_of_row _ _ 0 _ _ _ hn]; rfl
            have a1 : (wr.alloc (.cells #[.int .i64 2, .int .i64 g, .int .i64 p, .slice ao L ac] 41)).cell? ⟨wr.heap.size, 1, none⟩ = some (.int .i64 g) := by rw [cell_of_row _ _ 1 _ _ _ hn]; rfl
            have a2 : (wr.alloc (.cells #[.int .i64 2, .int .i64 g, .int .i64 p, .slice ao L ac] 41)).cell? ⟨wr.heap.size, 2, none⟩ = some (.int .i64 p) := by rw [cell_of_row _ _ 2 _ _ _ hn]; rfl
            have a3 : (wr.alloc (.cells #[.int .i64 2, .int .i64 g, .int .i64 p, .slice ao L ac] 41)).cell? ⟨wr.heap.size, 3, none⟩ = some (.slice ao L ac) := by rw [cell_of_row _ _ 3 _ _ _ hn]; rfl
            go_wp2_with fail
            generalize wr.alloc (.cells #[.int .i64 2, .int .i64 g, .int .i64 p, .slice ao L ac] 41) = wa at TA BXA a0 a1 a2 a3 ⊢
            clear hn BA x0 x1 x2 x3 TX BX
            have RA := yr.below (B1H.out.trans (BXA.mono B1H.out.size))
            have TAH := Hid.intro TA
            have BAH := Hid.intro BXA
            clear TA BXA
            have hfew := Hid.intro (dueP_few x)
            have hshort := Hid.intro (dueP_short TAH.out.ok.1)
            clear yb ym yr RA
            refine (two_due TAH.out).mono ?_
            rintro e w5 ⟨v5, rfl, P5, T5, C5⟩
            have P5H := Hid.intro P5
            have T5H := Hid.intro T5
            have C5H := Hid.intro C5
            clear P5 T5 C5
            go_wp2_with fail
            refine (two_rdue T5H.out).mono ?_
            rintro e w6 ⟨v6, rfl, P6, T6, C6, K6⟩
            have P6H := Hid.intro P6
            have Q6H := Hid.intro (K6 v5 _ P5H.out)
            have T6H := Hid.intro T6
            have D6H := Hid.intro (C5H.out.trans C6 (fun _ q _ => q))
            clear P6 T6 C6 K6 T5H C5H P5H
            go_wp2_with fail
            refine (refParts_true _ _ v5 v6 (dueP x) hfew.out hshort.out w6 Q6H.out P6H.out).mono ?_
            rintro e wp ⟨rfl, Bp⟩
            have T6 := T6H.out.here.below Bp
            have T6 := T6.here
            have B6H := Hid.intro ((BAH.out.trans (chg_below D6H.out BAH.out.size (fun k hk => .inl hk))).trans (Bp.mono (Nat.le_trans BAH.out.size D6H.out.size)))
            have e1 := cellK Bp (chg_cell (F := fun k => k < w1.heap.size ∨ k = wr.heap.size) D6H.out a1 (.inr rfl))
            clear Bp P6H Q6H T6H D6H hfew hshort TAH BAH a0 a1 a2 a3
            generalize dueC x = z at T6
            have c3 := T6.base
            have FB := Hid.intro (two_base (T6.below (Below.refl _ wp).drew))
            have FR := Hid.intro (fun W (h : Two (fun k => k < w1.heap.size ∨ k = wr.heap.size) wp.heap.size W b r z z) => two_ready h)
            have FRR := Hid.intro (fun W (h : Two (fun k => k < w1.heap.size ∨ k = wr.heap.size) wp.heap.size W b r z z) => two_rready h)
            have FH := Hid.intro (fun W (h : Two (fun k => k < w1.heap.size ∨ k = wr.heap.size) wp.heap.size W b r z z) => two_have g YG.out h)
            have FRH := Hid.intro (fun W (h : Two (fun k => k < w1.heap.size ∨ k = wr.heap.size) wp.heap.size W b r z z) => two_rhave g h)
            generalize z.base = zb at c3 FB
            generalize readyN z = zr at FR FRR
            generalize haveN z g = zh at FH FRH
            have n1 : ((zb : Int) != (zb : Int)) = false := by simp
            have n2 : ((zr : Int) != (zr : Int)) = false := by simp
            have n3 : ((zh : Int) != (zh : Int)) = false := by simp
            go_wp2_with fail
            go_region_held3 (fun w' => w'.cell? ⟨r, 3, none⟩ = some (.int .i64 (zb : Int)) ∧ w'.cell? ⟨wr.heap.size, 1, none⟩ = some (.int .i64 g))
              (first | exact ⟨cellK E11 c3, cellK E11 e1⟩ | exact ⟨cellK E10 c3, cellK E10 e1⟩ | exact ⟨cellK E9 c3, cellK E9 e1⟩ | exact ⟨cellK E8 c3, cellK E8 e1⟩ | exact ⟨cellK E7 c3, cellK E7 e1⟩ | go_keep)
              (first
                | (go_at_call 16; refine FB.out.mono ?_; rintro e w7 ⟨rfl, B7⟩; have E7 : Below wp.heap.size wp w7 := undrewK B7 rfl; have T7 := T6.below E7; clear B7)
                | (go_at_call 17; refine (FR.out _ T7).mono ?_; rintro e w8 ⟨rfl, B8⟩; have E8 := E7.trans (B8.mono E7.size); have T8 := T7.below B8; clear B8)
                | (go_at_call 24; refine (FRR.out _ T8).mono ?_; rintro e w9 ⟨rfl, B9⟩; have E9 := E8.trans (B9.mono E8.size); have T9 := T8.below B9; clear B9)
                | (go_at_call 18; refine (FH.out _ T9).mono ?_; rintro e w10 ⟨rfl, B10⟩; have E10 := E9.trans (B10.mono E9.size); have T10 := T9.below B10; clear B10)
                | (go_at_call 25; refine (FRH.out _ T10).mono ?_; rintro e w11 ⟨rfl, B11⟩; have E11 := E10.trans (B11.mono E10.size); have T11 := T10.below B11; clear B11))
            all_goals
              have TZ := Hid.intro (T11.less (G := fun k => k < w1.heap.size) (fun k hk => .inl hk)).here
              have BZ := Hid.intro (B6H.out.trans (E11.mono B6H.out.size))
              clear T6 T7 T8 T9 T10 T11 E7 E8 E9 E10 E11 FB FR FRR FH FRH c3 e1 B6H
              go_wp2
              go_roundw
              case rel => exact ⟨t + 1, z, by omega, by go_num, TZ.out, BZ.out⟩
              case measure => simp [intOf]; omega
          · have j2' : (kd == 2) = false := by rw [beq_eq_false_iff_ne]; exact k2
            have hn := heap_alloc_new wr (.cells #[.int .i64 kd, .int .i64 g, .int .i64 p, .slice ao L ac] 41)
            have BA := (Below.refl _ wr).alloc (Nat.le_refl _) (.cells #[.int .i64 kd, .int .i64 g, .int .i64 p, .slice ao L ac] 41)
            have TA := (TX.grow BA).less (G := fun k => k < w1.heap.size ∨ k = wr.heap.size) (fun k hk => by
              rcases hk with q | q
              · exact .inl q
              · subst q; exact .inr ⟨Nat.le_refl _, by simp⟩)
            have BXA := BX.trans (BA.mono BX.size)
            have a0 : (wr.alloc (.cells #[.int .i64 kd, .int .i64 g, .int .i64 p, .slice ao L ac] 41)).cell? ⟨wr.heap.size, 0, none⟩ = some (.int .i64 kd) := by rw [cell_of_row _ _ 0 _ _ _ hn]; rfl
            have a1 : (wr.alloc (.cells #[.int .i64 kd, .int .i64 g, .int .i64 p, .slice ao L ac] 41)).cell? ⟨wr.heap.size, 1, none⟩ = some (.int .i64 g) := by rw [cell_of_row _ _ 1 _ _ _ hn]; rfl
            have a2 : (wr.alloc (.cells #[.int .i64 kd, .int .i64 g, .int .i64 p, .slice ao L ac] 41)).cell? ⟨wr.heap.size, 2, none⟩ = some (.int .i64 p) := by rw [cell_of_row _ _ 2 _ _ _ hn]; rfl
            have a3 : (wr.alloc (.cells #[.int .i64 kd, .int .i64 g, .int .i64 p, .slice ao L ac] 41)).cell? ⟨wr.heap.size, 3, none⟩ = some (.slice ao L ac) := by rw [cell_of_row _ _ 3 _ _ _ hn]; rfl
            go_wp2_with fail
            generalize wr.alloc (.cells #[.int .i64 kd, .int .i64 g, .int .i64 p, .slice ao L ac] 41) = wa at TA BXA a0 a1 a2 a3 ⊢
            clear hn BA x0 x1 x2 x3 TX BX
            have RA := yr.below (B1H.out.trans (BXA.mono B1H.out.size))
            have TAH := Hid.intro TA
            have BAH := Hid.intro BXA
            clear TA BXA
            have T6 := TAH.out.here
            have B6H := Hid.intro BAH.out
            have e1 := a1
            clear yb ym yr RA TAH BAH a0 a1 a2 a3
            have c3 := T6.base
            have FB := Hid.intro (two_base (T6.below (Below.refl _ wa).drew))
            have FR := Hid.intro (fun W (h : Two (fun k => k < w1.heap.size ∨ k = wr.heap.size) wa.heap.size W b r x x) => two_ready h)
            have FRR := Hid.intro (fun W (h : Two (fun k => k < w1.heap.size ∨ k = wr.heap.size) wa.heap.size W b r x x) => two_rready h)
            have FH := Hid.intro (fun W (h : Two (fun k => k < w1.heap.size ∨ k = wr.heap.size) wa.heap.size W b r x x) => two_have g YG.out h)
            have FRH := Hid.intro (fun W (h : Two (fun k => k < w1.heap.size ∨ k = wr.heap.size) wa.heap.size W b r x x) => two_rhave g h)
            generalize x.base = zb at c3 FB
            generalize readyN x = zr at FR FRR
            generalize haveN x g = zh at FH FRH
            have n1 : ((zb : Int) != (zb : Int)) = false := by simp
            have n2 : ((zr : Int) != (zr : Int)) = false := by simp
            have n3 : ((zh : Int) != (zh : Int)) = false := by simp
            go_wp2_with fail
            go_region_held3 (fun w' => w'.cell? ⟨r, 3, none⟩ = some (.int .i64 (zb : Int)) ∧ w'.cell? ⟨wr.heap.size, 1, none⟩ = some (.int .i64 g))
              (first | exact ⟨cellK E11 c3, cellK E11 e1⟩ | exact ⟨cellK E10 c3, cellK E10 e1⟩ | exact ⟨cellK E9 c3, cellK E9 e1⟩ | exact ⟨cellK E8 c3, cellK E8 e1⟩ | exact ⟨cellK E7 c3, cellK E7 e1⟩ | go_keep)
              (first
                | (go_at_call 16; refine FB.out.mono ?_; rintro e w7 ⟨rfl, B7⟩; have E7 : Below wa.heap.size wa w7 := undrewK B7 rfl; have T7 := T6.below E7; clear B7)
                | (go_at_call 17; refine (FR.out _ T7).mono ?_; rintro e w8 ⟨rfl, B8⟩; have E8 := E7.trans (B8.mono E7.size); have T8 := T7.below B8; clear B8)
                | (go_at_call 24; refine (FRR.out _ T8).mono ?_; rintro e w9 ⟨rfl, B9⟩; have E9 := E8.trans (B9.mono E8.size); have T9 := T8.below B9; clear B9)
                | (go_at_call 18; refine (FH.out _ T9).mono ?_; rintro e w10 ⟨rfl, B10⟩; have E10 := E9.trans (B10.mono E9.size); have T10 := T9.below B10; clear B10)
                | (go_at_call 25; refine (FRH.out _ T10).mono ?_; rintro e w11 ⟨rfl, B11⟩; have E11 := E10.trans (B11.mono E10.size); have T11 := T10.below B11; clear B11))
            all_goals
              have TZ := Hid.intro (T11.less (G := fun k => k < w1.heap.size) (fun k hk => .inl hk)).here
              have BZ := Hid.intro (B6H.out.trans (E11.mono B6H.out.size))
              clear T6 T7 T8 T9 T10 T11 E7 E8 E9 E10 E11 FB FR FRR FH FRH c3 e1 B6H
              go_wp2
              go_roundw
              case rel => exact ⟨t + 1, x, by omega, by go_num, TZ.out, BZ.out⟩
              case measure => simp [intOf]; omega
    · have hte : l.length = t := by omega
      have t1 : ¬ (t : Int) < (l.length : Int) := by omega
      clear TX BX ht
      go_wp2
      go_ret
      exact ⟨rfl, BW.out⟩

theorem walk (k n s g : Int) (a : Option Addr) (len cap : Nat) (l : List Act7) (w : World) (_ : (Lit.int .i64 k).wf = true ∧ (Lit.int .i64 n).wf = true ∧ (Lit.int .i64 s).wf = true) (_ : (Lit.int .i64 g).wf = true) (hz : l.length = len ∧ (∀ x ∈ l, x.Wf) ∧ ActsAt w a l ∧ len ≤ maxLen) :
    Calls Try.prog 3 #[Cd k n s, .int .i64 g, .slice a len cap] w fun e w' => e = .returned (.bool true) ∧ Below w.heap.size w w' := by
  obtain ⟨rfl, hY, hr, hm⟩ := hz
  rcases Nat.lt_or_ge 80 l.length with h | h
  · exact walk_far k n s g a _ cap w hm h
  · rcases hn : (mayC k n s && isG g) with _ | _
    · exact walk_bad k n s g a _ cap w h hn
    · have h' := hn
      rw [Bool.and_eq_true] at h'
      have h1 := mayC_true h'.1
      have h2 := isG_true h'.2
      obtain ⟨K, rfl⟩ := Int.eq_ofNat_of_zero_le (show 0 ≤ k by omega)
      obtain ⟨N, rfl⟩ := Int.eq_ofNat_of_zero_le (show 0 ≤ n by omega)
      obtain ⟨S, rfl⟩ := Int.eq_ofNat_of_zero_le (show 0 ≤ s by omega)
      obtain ⟨G, rfl⟩ := Int.eq_ofNat_of_zero_le h2.1
      exact walk_near K N S G hn a cap l w h hY hr

set_option maxRecDepth 100000 in
theorem lifted (os : Os) (started : os.Started) (H : Type) (enc : TypeId × Value → H) :
    ReturnsInHanded {} Try.checked os 3 .any (Rows.collectActsSpec.pre6 enc Try.prog Try.f3 Rows.collectActsRow.domain false) (Rows.collectActsSpec.post enc Try.prog Try.f3 false true false false) := by
  refine returnsInHanded_of_change (C := Try.checked) own started (by kernel_rfl) Try.func3
    (ChangeSpec.witness6 (enc := enc) (C := Try.checked) false ⟨#[], #[.agg #[.int .i64 0, .int .i64 0, .int .i64 0], .int .i64 0, .slice none 0 0], []⟩ 8 (by kernel_rfl) (by kernel_rfl) (by kernel_rfl) (by kernel_rfl)) ?_
  intro W base args ds gs before hval0 hW hcnd _
  have hval : ∀ (j : Nat) t v, Try.f3.params[j]? = some t → args[j]? = some v → Value.okWide Try.prog W .any base t v := hval0
  have hW' := hW
  obtain ⟨p, q, hA0, hV, rfl, hfz, hnd⟩ := hW
  have hA : DataW.TrodAll enc Try.prog W 0 (fun _ => true) true Try.f3.params.toList args.toList ds p := hA0
  rw [Try.params3] at hA hval
  obtain ⟨v0, vs0, d0, ds0, p0, q0, hargs, rfl, rfl, h0, r0⟩ := trodAll_cons hA
  obtain ⟨v1, vs1, d1, ds1, p1, q1, rfl, rfl, rfl, h1, r1⟩ := trodAll_cons r0
  obtain ⟨v2, vs2, d2, ds2, p2, q2, rfl, rfl, rfl, h2, r2⟩ := trodAll_cons r1
  obtain ⟨rfl, rfl, rfl⟩ := trodAll_nil r2
  obtain rfl : args = #[v0, v1, v2] := by cases args; simp_all
  obtain ⟨rfl, rfl⟩ := trodVars_none hV
  have k0 := h0
  have lt0 : ∀ x ∈ p0, x.block < W.heap.size := by obtain ⟨m, hm⟩ := k0; exact DataW.trod_lt m _ _ _ hm
  obtain ⟨kc0, nc0, sc0, rfl, w0⟩ := open_code (hval 0 23 v0 rfl rfl) h0
  obtain ⟨a1, rfl, rfl, rfl, w1⟩ := open_int Try.underlying3 (hval 1 3 v1 rfl rfl) h1
  have k2 := h2
  have lt2 : ∀ x ∈ p2, x.block < W.heap.size := by obtain ⟨m, hm⟩ := k2; exact DataW.trod_lt m _ _ _ hm
  obtain ⟨a2, len2, cap2, rfl⟩ := okWide_slice Try.underlying24 (hval 2 24 v2 rfl rfl)
  obtain ⟨z2, w2⟩ := open_acts h2
  clear hA0 hval0
  refine (walk kc0 nc0 sc0 a1 a2 len2 cap2 z2 W w0 w1 w2).mono fun e W' ⟨he, bel⟩ => ?_
  subst he
  exact ⟨_, rfl, _, _, _, [], _, [], hW', trodAll_mk1 (shut_bool Try.underlying4 _), (trodAll_cons_mk (Below.trod laidOut (by kernel_rfl) (of_decide_eq_true (by kernel_rfl)) k0 bel lt0) (trodAll_cons_mk (shut_int Try.underlying3 w1) (trodAll_cons_mk (Below.trod laidOut (by kernel_rfl) (of_decide_eq_true (by kernel_rfl)) k2 bel lt2) trodAll_mk0))), rfl, bel.frame _, fun h => by cases h⟩

theorem over : Rows.collectActsRow.holds Try.pinned (OpenSpec.ofChange Rows.collectActsSpec) :=
  OpenClaim.holds_of_wide 3 Try.f3 rfl rfl rfl rfl rfl rfl rfl ⟨rfl, rfl, rfl, rfl, rfl⟩ rfl rfl rfl rfl rfl (by kernel_rfl) Try.func3 (by kernel_rfl)
    (of_decide_eq_true (by kernel_rfl)) (by unfold Func.isWrapper; first | (rw [if_pos (by decide +kernel)]; kernel_rfl) | (rw [if_neg (by decide +kernel)]; exact ⟨rfl, rfl⟩))
    (fun os started H enc _ => lifted os started H enc)

end Go.Proofs.Ytceekoifljeddaa.LCollectActs

namespace Go.Proofs.Ytceekoifljeddaa
theorem collectActs_holds : Rows.CollectActsSaid := LCollectActs.over
#print axioms collectActs_holds
end Go.Proofs.Ytceekoifljeddaa
