/- Several texts, one behind the other: SnK2 SnK3 SnK4 SnK5 SnK6. -/
import Derived.Test.YthhggjakenalpaaGreatDoorMSnA
import Derived.Test.YthhggjakenalpaaGreatDoorMFrmA
import Derived.Test.YthhggjakenalpaaGreatDoorMRs
import Derived.Test.YthhggjakenalpaaGreatDoorMSq
import Derived.Deep.RegionLaw
/- Package sender: within, isTx, May, New, Room, Lost, frameAt, bare, Hello. -/
namespace Go.Proofs.YthhggjakenalpaaGreatDoor
set_option maxRecDepth 100000
open Go.RowKit
open Bt

variable {M : Nat} {S : Nat → Prop} {w w' : World} {b n : Nat} {v : Value} {P : Nat → Flt} {lv : Nat → Value} {x : Snd}

theorem nwithin_any (n f t : Int) (w : World) :
    Calls Tryz.prog 119 #[.int .i64 n, .int .i64 f, .int .i64 t] w fun e w' => e = .returned (.bool (inW n f t)) ∧ w = w' := by
  by_cases h1 : f ≤ n
  · by_cases h2 : n ≤ t
    · have e : inW n f t = true := by simp [inW, h1, h2]
      rw [e]
      clear e
      go_enter Tryz.func119, Tryz.ntmps119
      go_wp2
      go_ret
      exact ⟨rfl, rfl⟩
    · have e : inW n f t = false := by simp [inW]; omega
      rw [e]
      clear e
      go_enter Tryz.func119, Tryz.ntmps119
      go_wp2
      go_ret
      exact ⟨rfl, rfl⟩
  · have e : inW n f t = false := by simp [inW]; omega
    rw [e]
    clear e
    go_enter Tryz.func119, Tryz.ntmps119
    go_wp2
    go_ret
    exact ⟨rfl, rfl⟩

theorem isTx_any (n : Int) (w : World) (hw : Wid w) :
    Calls Tryz.prog 81 #[.int .i64 n] w fun e w' => e = .returned (.bool (isTx n)) ∧ Below w.heap.size w w' := by
  have R := right_any n 0 0 0 0 none 0 0 w hw
  have e : isFrm n 0 0 0 0 0 = isTx n := by rw [Bool.eq_iff_iff, isFrm_iff]; simp [isTx]; omega
  rw [e] at R
  have RH := Hid.intro R
  generalize isTx n = r at RH ⊢
  clear R e hw
  go_enter Tryz.func81, Tryz.ntmps81
  go_wp2_with fail
  refine RH.out.mono ?_
  rintro e w1 ⟨rfl, B1⟩
  clear RH
  go_wp2
  go_ret
  exact ⟨rfl, B1⟩

theorem mayL_in (k n s wt ms : Int) : mayL k n s wt ms = (mayC k n s && (inW wt 1 100 && inW ms 1 9)) := rfl

set_option maxRecDepth 100000 in
set_option maxHeartbeats 1000000 in
theorem nmay_any (k n s wt ms : Int) (w : World) :
    Calls Tryz.prog 80 #[Lk k n s wt ms] w fun e w' => e = .returned (.bool (mayL k n s wt ms)) ∧ Below w.heap.size w w' := by
  rw [mayL_in]
  have H1 := Hid.intro (rmay_any k n s)
  have H2 := Hid.intro (nwithin_any wt 1 100)
  have H3 := Hid.intro (nwithin_any ms 1 9)
  have HB := Hid.intro ((Below.refl _ w).alloc (Nat.le_refl _) (.cells #[.int .i64 k, .int .i64 n, .int .i64 s, .int .i64 wt, .int .i64 ms] 25))
  have hh := heap_alloc_new w (.cells #[.int .i64 k, .int .i64 n, .int .i64 s, .int .i64 wt, .int .i64 ms] 25)
  have c3 : (w.alloc (.cells #[.int .i64 k, .int .i64 n, .int .i64 s, .int .i64 wt, .int .i64 ms] 25)).cell? ⟨w.heap.size, 3, none⟩ = some (.int .i64 wt) := by rw [cell_of_row _ _ 3 _ _ _ hh]; rfl
  have c4 : (w.alloc (.cells #[.int .i64 k, .int .i64 n, .int .i64 s, .int .i64 wt, .int .i64 ms] 25)).cell? ⟨w.heap.size, 4, none⟩ = some (.int .i64 ms) := by rw [cell_of_row _ _ 4 _ _ _ hh]; rfl
  have CH := Hid.intro (And.intro c3 c4)
  clear c3 c4 hh
  have hsz := World.size_alloc w (.cells #[.int .i64 k, .int .i64 n, .int .i64 s, .int .i64 wt, .int .i64 ms] 25)
  have KEEP : Hid (∀ w1, Below (w.heap.size + 1) (w.alloc (.cells #[.int .i64 k, .int .i64 n, .int .i64 s, .int .i64 wt, .int .i64 ms] 25)) w1 → w1.cell? ⟨w.heap.size, 3, none⟩ = some (.int .i64 wt) ∧ w1.cell? ⟨w.heap.size, 4, none⟩ = some (.int .i64 ms) ∧ Below w.heap.size w w1) := fun w1 B => ⟨(B.cell (p := ⟨w.heap.size, 3, none⟩) (Nat.lt_succ_self _)).trans CH.out.1, (B.cell (p := ⟨w.heap.size, 4, none⟩) (Nat.lt_succ_self _)).trans CH.out.2, HB.out.trans (B.mono (Nat.le_succ _))⟩
  clear CH HB
  rcases e1 : mayC k n s with _ | _
  · rw [e1] at H1
    go_enter Tryz.func80, Tryz.ntmps80
    go_wp2_with fail
    refine (H1.out _).mono ?_
    rintro e w1 ⟨rfl, B1⟩
    rw [hsz] at B1
    have K1 := Hid.intro (KEEP.out _ B1)
    clear B1 H1 H2 H3 KEEP
    go_wp2
    go_ret
    exact ⟨rfl, K1.out.2.2⟩
  · rw [e1] at H1
    rcases e2 : inW wt 1 100 with _ | _
    · rw [e2] at H2
      clear e1 e2
      go_enter Tryz.func80, Tryz.ntmps80
      go_wp2_with fail
      refine (H1.out _).mono ?_
      rintro e w1 ⟨rfl, B1⟩
      rw [hsz] at B1
      have K1 := Hid.intro (KEEP.out _ B1)
      have c3 := K1.out.1
      clear B1 H1 H3 KEEP
      go_wp2_with fail
      refine (H2.out _).mono ?_
      rintro e w1 ⟨rfl, rfl⟩
      clear H2
      go_wp2
      go_ret
      exact ⟨rfl, K1.out.2.2⟩
    · rw [e2] at H2
      clear e1 e2
      generalize inW ms 1 9 = r at H3 ⊢
      go_enter Tryz.func80, Tryz.ntmps80
      go_wp2_with fail
      refine (H1.out _).mono ?_
      rintro e w1 ⟨rfl, B1⟩
      rw [hsz] at B1
      have K1 := Hid.intro (KEEP.out _ B1)
      have c3 := K1.out.1
      have c4 := K1.out.2.1
      clear B1 H1 KEEP
      go_wp2_with fail
      refine (H2.out _).mono ?_
      rintro e w1 ⟨rfl, rfl⟩
      clear H2
      go_wp2_with fail
      refine (H3.out _).mono ?_
      rintro e w1 ⟨rfl, rfl⟩
      clear H3
      go_wp2
      go_ret
      exact ⟨rfl, K1.out.2.2⟩

theorem nroom_any (M b : Nat) (F : Nat → Prop) (x : Snd) (w : World) (hc : Sndr M F w b x) :
    Calls Tryz.prog 41 #[.pointer (some ⟨b, 0, none⟩)] w fun e w' => e = .returned (.int .i64 ((4 - x.fl.length : Nat) : Int)) ∧ Below w.heap.size w w' := by
  obtain ⟨v, n, P, lv, h⟩ := hc
  have c8 := h.cells.2.2.2.2.2.2.2.2
  obtain ⟨ao, c, e, _⟩ := h.form
  have hn := h.ok.few
  rw [h.len] at hn ⊢
  subst e
  have e : ((4 - n : Nat) : Int) = 4 - (n : Int) := by omega
  rw [e]
  clear h e
  go_enter Tryz.func41, Tryz.ntmps41
  go_wp2
  go_ret
  exact ⟨ret_int (by omega), Below.refl _ _⟩

theorem nroom_nil (w : World) :
    Calls Tryz.prog 41 #[.pointer none] w fun e w' => e = .returned (.int .i64 0) ∧ Below w.heap.size w w' := by
  go_enter Tryz.func41, Tryz.ntmps41
  go_wp2
  go_ret
  exact ⟨rfl, Below.refl _ _⟩

theorem nlost_any (M b : Nat) (F : Nat → Prop) (x : Snd) (w : World) (hc : Sndr M F w b x) :
    Calls Tryz.prog 48 #[.pointer (some ⟨b, 0, none⟩)] w fun e w' => e = .returned (.int .i64 (x.lost : Int)) ∧ Below w.heap.size w w' := by
  obtain ⟨v, n, P, lv, h⟩ := hc
  have c2 := h.cells.2.2.1
  clear h
  go_enter Tryz.func48, Tryz.ntmps48
  go_wp2
  go_ret
  exact ⟨rfl, Below.refl _ _⟩

theorem nlost_nil (w : World) :
    Calls Tryz.prog 48 #[.pointer none] w fun e w' => e = .returned (.int .i64 0) ∧ Below w.heap.size w w' := by
  go_enter Tryz.func48, Tryz.ntmps48
  go_wp2
  go_ret
  exact ⟨rfl, Below.refl _ _⟩

/-- A frame of a group and a place. -/
theorem frameAt_any (b tx g p : Nat) (kd : Int) (hg : g < 256) (hp : p < 16) (w : World) (c0 : w.cell? ⟨b, 0, none⟩ = some (.int .i64 (tx : Int))) :
    Calls Tryz.prog 128 #[.pointer (some ⟨b, 0, none⟩), .int .i64 kd, .int .i64 (g : Int), .int .i64 (p : Int)] w fun e w' => e = .returned (Fr tx ((16 * g + p : Nat) : Int) 0 0 kd none 0 0) ∧ Below w.heap.size w w' := by
  have B0 := (Below.refl _ w).alloc (Nat.le_refl _) (.cells ZC 55)
  have hh := heap_alloc_new w (.cells ZC 55)
  have MK := smake_any (g : Int) (p : Int) (w.alloc (.cells ZC 55))
  have hM : isM (g : Int) (p : Int) = true := by simp [isM, isG]; omega
  rw [hM, show makeA (g : Int) (p : Int) = ((16 * g + p : Nat) : Int) by unfold makeA; rw [if_pos hM]; omega] at MK
  have MKH := Hid.intro MK
  have c0' := (B0.cell (p := ⟨b, 0, none⟩) (cell_lt c0)).trans c0
  have B0H := Hid.intro B0
  have HH := Hid.intro hh
  have C0 := Hid.intro c0'
  have hlt := cell_lt c0
  generalize 16 * g + p = sq at MKH ⊢
  generalize hW : w.alloc (.cells ZC 55) = W at MKH B0H HH C0
  have hsz : W.heap.size = w.heap.size + 1 := by rw [← hW]; exact World.size_alloc _ _
  clear MK hM c0 c0' B0 hh
  go_enter Tryz.func128, Tryz.ntmps128
  go_wp2_with fail
  refine MKH.out.mono ?_
  rintro e w1 ⟨rfl, B1⟩
  have d0 := (B1.cell (p := ⟨b, 0, none⟩) (cell_lt C0.out)).trans C0.out
  have H1 := Hid.intro ((B1.block w.heap.size (by omega)).trans HH.out)
  have B1H := Hid.intro (B0H.out.trans (B1.mono (by omega)))
  clear B1 MKH C0 HH hW
  go_wp2_with (refine wpList_store_row rfl 55 (.tmp 8) _ rfl w.heap.size #[.int .i64 (tx : Int), .int .i64 (sq : Int), .int .i64 0, .int .i64 0, .int .i64 kd, .slice none 0 0] rfl rfl 55 ZC H1.out (by kernel_rfl) rfl (by kernel_rfl) ?_)
  (try simp only [Exit.inBlock, Exit.then])
  refine bodyPost_ret (results_cell_row rfl _ _ w.heap.size 55 #[.int .i64 (tx : Int), .int .i64 (sq : Int), .int .i64 0, .int .i64 0, .int .i64 kd, .slice none 0 0] (0, 0) _ rfl (setRow_heap _ w.heap.size ZC _ 55 _ H1.out) Tryz.underlying55 rfl (by kernel_rfl)) rfl ?_
  exact ⟨rfl, below_setRow B1H.out _ (Nat.le_refl _) _⟩

theorem bare_any (b tx g : Nat) (kd : Int) (hg : g < 256) (w : World) (c0 : w.cell? ⟨b, 0, none⟩ = some (.int .i64 (tx : Int))) :
    Calls Tryz.prog 89 #[.pointer (some ⟨b, 0, none⟩), .int .i64 kd, .int .i64 (g : Int)] w fun e w' => e = .returned (Fr tx ((16 * g : Nat) : Int) 0 0 kd none 0 0) ∧ Below w.heap.size w w' := by
  have B0 := (Below.refl _ w).alloc (Nat.le_refl _) (.cells ZC 55)
  have hh := heap_alloc_new w (.cells ZC 55)
  have c0' := (B0.cell (p := ⟨b, 0, none⟩) (cell_lt c0)).trans c0
  have FA := frameAt_any b tx g 0 kd hg (by decide) (w.alloc (.cells ZC 55)) c0'
  rw [Nat.add_zero] at FA
  have FAH := Hid.intro FA
  have B0H := Hid.intro B0
  have HH := Hid.intro hh
  generalize 16 * g = sq at FAH ⊢
  generalize hW : w.alloc (.cells ZC 55) = W at FAH B0H HH
  have hsz : W.heap.size = w.heap.size + 1 := by rw [← hW]; exact World.size_alloc _ _
  clear FA c0 c0' B0 hh
  go_enter Tryz.func89, Tryz.ntmps89
  go_wp2_with fail
  refine FAH.out.mono ?_
  rintro e w1 ⟨rfl, B1⟩
  have H1 := Hid.intro ((B1.block w.heap.size (by omega)).trans HH.out)
  have B1H := Hid.intro (B0H.out.trans (B1.mono (by omega)))
  clear B1 FAH HH hW
  go_wp2_with (refine wpList_store_row rfl 55 (.tmp 6) _ rfl w.heap.size #[.int .i64 (tx : Int), .int .i64 (sq : Int), .int .i64 0, .int .i64 0, .int .i64 kd, .slice none 0 0] rfl rfl 55 ZC H1.out (by kernel_rfl) rfl (by kernel_rfl) ?_)
  (try simp only [Exit.inBlock, Exit.then])
  refine bodyPost_ret (results_cell_row rfl _ _ w.heap.size 55 #[.int .i64 (tx : Int), .int .i64 (sq : Int), .int .i64 0, .int .i64 0, .int .i64 kd, .slice none 0 0] (0, 0) _ rfl (setRow_heap _ w.heap.size ZC _ 55 _ H1.out) Tryz.underlying55 rfl (by kernel_rfl)) rfl ?_
  exact ⟨rfl, below_setRow B1H.out _ (Nat.le_refl _) _⟩

theorem nhelloG_of (h : NS M S w b v n P lv x) : helloG x = if n = 0 then x.next else (P 0).group := by
  unfold helloG
  rw [h.fl]
  cases n with
  | zero => rfl
  | succ k => rw [List.range_succ_eq_map]; rfl

theorem nhello_any (M b : Nat) (F : Nat → Prop) (x : Snd) (w : World) (hc : Sndr M F w b x) :
    Calls Tryz.prog 86 #[.pointer (some ⟨b, 0, none⟩)] w fun e w' => ∃ a c, e = .returned (Fr x.tx ((16 * helloG x : Nat) : Int) 0 0 3 a 0 c) ∧ Below w.heap.size w w' := by
  obtain ⟨v, n, P, lv, h⟩ := hc
  have B0 := (Below.refl _ w).alloc (Nat.le_refl _) (.cells ZC 55)
  have hh := heap_alloc_new w (.cells ZC 55)
  have h0 := h.below B0
  have cs := h0.cells
  have d1 := cs.2.1
  have d8 := cs.2.2.2.2.2.2.2.2
  have hg := nhelloG_of h
  have hn4 := h.ok.few
  rw [h.len] at hn4
  have B0H := Hid.intro B0
  have HH := Hid.intro hh
  have hsz := World.size_alloc w (.cells ZC 55)
  rcases Nat.eq_zero_or_pos n with hz | hz
  · subst hz
    rw [if_pos rfl] at hg
    rw [hg]
    obtain ⟨ao, c, rfl, _⟩ := h.form
    have BR := Hid.intro (bare_any b x.tx x.next 3 h.ok.next (w.alloc (.cells ZC 55)) cs.1)
    generalize x.next = nx at d1 BR ⊢
    generalize x.tx = tx at BR ⊢
    generalize 16 * nx = sq at BR ⊢
    clear h h0 cs B0 hg hh
    go_enter Tryz.func86, Tryz.ntmps86
    go_wp2_with fail
    refine BR.out.mono ?_
    rintro e w1 ⟨rfl, B1⟩
    have H1 := Hid.intro ((B1.block w.heap.size (by omega)).trans HH.out)
    have B1H := Hid.intro (B0H.out.trans (B1.mono (by omega)))
    clear B1 BR HH d1 d8
    go_wp2_with (refine wpList_store_row rfl 55 (.tmp 2) _ rfl w.heap.size #[.int .i64 (tx : Int), .int .i64 (sq : Int), .int .i64 0, .int .i64 0, .int .i64 3, .slice none 0 0] rfl rfl 55 ZC H1.out (by kernel_rfl) rfl (by kernel_rfl) ?_)
    (try simp only [Exit.inBlock, Exit.then])
    refine bodyPost_ret (results_cell_row rfl _ _ w.heap.size 55 #[.int .i64 (tx : Int), .int .i64 (sq : Int), .int .i64 0, .int .i64 0, .int .i64 3, .slice none 0 0] (0, 0) _ rfl (setRow_heap _ w.heap.size ZC _ 55 _ H1.out) Tryz.underlying55 rfl (by kernel_rfl)) rfl ?_
    exact ⟨none, 0, rfl, below_setRow B1H.out _ (Nat.le_refl _) _⟩
  · rw [if_neg (by omega)] at hg
    rw [hg]
    obtain ⟨ao, c, rfl, hf⟩ := h.form
    obtain ⟨g, rfl⟩ : ∃ g, ao = some ⟨g, 0, none⟩ := by
      rcases hf with q | q
      · omega
      · exact q
    have e0 := (h0.flight hz).1
    rw [Nat.zero_mul] at e0
    have BR := Hid.intro (bare_any b x.tx (P 0).group 3 (h.ofOk hz).group (w.alloc (.cells ZC 55)) cs.1)
    have z1 : (0 : Int) < (n : Int) := by omega
    have z2 : ¬ (n : Int) = 0 := by omega
    generalize (P 0).group = gr at e0 BR ⊢
    generalize x.tx = tx at BR ⊢
    generalize 16 * gr = sq at BR ⊢
    clear h h0 cs B0 hg hh
    go_enter Tryz.func86, Tryz.ntmps86
    go_wp2_with fail
    refine BR.out.mono ?_
    rintro e w1 ⟨rfl, B1⟩
    have H1 := Hid.intro ((B1.block w.heap.size (by omega)).trans HH.out)
    have B1H := Hid.intro (B0H.out.trans (B1.mono (by omega)))
    clear B1 BR HH d1 d8 e0
    go_wp2_with (refine wpList_store_row rfl 55 (.tmp 2) _ rfl w.heap.size #[.int .i64 (tx : Int), .int .i64 (sq : Int), .int .i64 0, .int .i64 0, .int .i64 3, .slice none 0 0] rfl rfl 55 ZC H1.out (by kernel_rfl) rfl (by kernel_rfl) ?_)
    (try simp only [Exit.inBlock, Exit.then])
    refine bodyPost_ret (results_cell_row rfl _ _ w.heap.size 55 #[.int .i64 (tx : Int), .int .i64 (sq : Int), .int .i64 0, .int .i64 0, .int .i64 3, .slice none 0 0] (0, 0) _ rfl (setRow_heap _ w.heap.size ZC _ 55 _ H1.out) Tryz.underlying55 rfl (by kernel_rfl)) rfl ?_
    exact ⟨none, 0, rfl, below_setRow B1H.out _ (Nat.le_refl _) _⟩

theorem nhello_nil (w : World) :
    Calls Tryz.prog 86 #[.pointer none] w fun e w' => ∃ a c, e = .returned (Fr 0 0 0 0 0 a 0 c) ∧ Below w.heap.size w w' := by
  have B0H := Hid.intro ((Below.refl _ w).alloc (Nat.le_refl _) (.cells ZC 55))
  have H1 := Hid.intro (heap_alloc_new w (.cells ZC 55))
  go_enter Tryz.func86, Tryz.ntmps86
  go_wp2_with (refine wpList_store_row rfl 55 (.tmp 2) _ rfl w.heap.size #[.int .i64 0, .int .i64 0, .int .i64 0, .int .i64 0, .int .i64 0, .slice none 0 0] rfl rfl 55 ZC H1.out (by kernel_rfl) rfl (by kernel_rfl) ?_)
  (try simp only [Exit.inBlock, Exit.then])
  refine bodyPost_ret (results_cell_row rfl _ _ w.heap.size 55 #[.int .i64 0, .int .i64 0, .int .i64 0, .int .i64 0, .int .i64 0, .slice none 0 0] (0, 0) _ rfl (setRow_heap _ w.heap.size ZC _ 55 _ H1.out) Tryz.underlying55 rfl (by kernel_rfl)) rfl ?_
  exact ⟨none, 0, rfl, below_setRow B0H.out _ (Nat.le_refl _) _⟩

end Go.Proofs.YthhggjakenalpaaGreatDoor

/- Package sender: New. -/
namespace Go.Proofs.YthhggjakenalpaaGreatDoor
set_option maxRecDepth 100000
open Go.RowKit
open Bt

theorem nnew_no (tx k n s wt ms : Int) (h : (mayL k n s wt ms && isTx tx) = false) (w : World) (hw : Wid w) :
    Calls Tryz.prog 39 #[.int .i64 tx, Lk k n s wt ms] w fun e w' => e = .returned (.pointer none) ∧ Below w.heap.size w w' := by
  have B0 := (Below.refl _ w).alloc (Nat.le_refl _) (.cells #[.int .i64 k, .int .i64 n, .int .i64 s, .int .i64 wt, .int .i64 ms] 25)
  have B0H := Hid.intro B0
  have W0 := Hid.intro (hw.below B0)
  have MA := Hid.intro (nmay_any k n s wt ms (w.alloc (.cells #[.int .i64 k, .int .i64 n, .int .i64 s, .int .i64 wt, .int .i64 ms] 25)))
  have TX := Hid.intro (fun w hw => isTx_any tx w hw)
  clear hw B0
  cases e1 : mayL k n s wt ms with
  | false =>
    rw [e1] at MA
    clear h e1 TX
    go_enter Tryz.func39, Tryz.ntmps39
    go_wp2_with fail
    refine MA.out.mono ?_
    rintro e w1 ⟨rfl, B1⟩
    have BB := Hid.intro (B0H.out.trans (B1.mono B0H.out.size))
    clear B1 MA W0
    go_wp2
    go_ret
    exact ⟨rfl, BB.out⟩
  | true =>
    rw [e1] at MA h
    rw [Bool.true_and] at h
    rw [h] at TX
    clear h e1
    go_enter Tryz.func39, Tryz.ntmps39
    go_wp2_with fail
    refine MA.out.mono ?_
    rintro e w1 ⟨rfl, B1⟩
    have W1 := Hid.intro (W0.out.below B1)
    have BB := Hid.intro (B0H.out.trans (B1.mono B0H.out.size))
    clear B1 MA W0
    go_wp2_with fail
    refine (TX.out _ W1.out).mono ?_
    rintro e w2 ⟨rfl, B2⟩
    have BC := Hid.intro (BB.out.trans (B2.mono BB.out.size))
    clear B2 TX BB
    go_wp2
    go_ret
    exact ⟨rfl, BC.out⟩

/-- A new sender in memory. -/
theorem sndr_new {tx K N S wt ms : Nat} (h : (mayL K N S wt ms && isTx tx) = true) (w2 : World) :
    Sndr 0 (fun k => k = w2.heap.size) (w2.alloc (.cells #[.int .i64 (tx : Int), .int .i64 0, .int .i64 0, .int .i64 (K : Int), .int .i64 (N : Int), .int .i64 (S : Int), .int .i64 (wt : Int), .int .i64 (ms : Int), .slice none 0 0] 118)) w2.heap.size (snd0 tx K N S wt ms) := by
  simp only [Bool.and_eq_true] at h
  have ht := isTx_true h.2
  refine ⟨.slice none 0 0, 0, fun _ => ⟨0, 0, 0, [], false, false⟩, fun _ => .slice none 0 0, heap_alloc_new _ _, rfl, World.ownsRow_nil _ _ _ _, fun i hi => by omega, rfl, fun k hk => by simp [Value.ownBlock] at hk, fun _ => rfl, fun k hk => ?_, snd0_ok h.1 (by omega)⟩
  rw [hk]
  simp

theorem nnew_yes (tx K N S wt ms : Nat) (h : (mayL K N S wt ms && isTx tx) = true) (w : World) (hw : Wid w) :
    Calls Tryz.prog 39 #[.int .i64 (tx : Int), Lk K N S wt ms] w fun e w' => ∃ b F, e = .returned (.pointer (some ⟨b, 0, none⟩)) ∧ Sndr 0 F w' b (snd0 tx K N S wt ms) ∧ (∀ k, F k → w.heap.size ≤ k) ∧ Below w.heap.size w w' := by
  have B0 := (Below.refl _ w).alloc (Nat.le_refl _) (.cells #[.int .i64 (K : Int), .int .i64 (N : Int), .int .i64 (S : Int), .int .i64 (wt : Int), .int .i64 (ms : Int)] 25)
  have g0 := heap_alloc_new w (.cells #[.int .i64 (K : Int), .int .i64 (N : Int), .int .i64 (S : Int), .int .i64 (wt : Int), .int .i64 (ms : Int)] 25)
  have B0H := Hid.intro B0
  have G0 := Hid.intro g0
  have W0 := Hid.intro (hw.below B0)
  have MA := Hid.intro (nmay_any K N S wt ms (w.alloc (.cells #[.int .i64 (K : Int), .int .i64 (N : Int), .int .i64 (S : Int), .int .i64 (wt : Int), .int .i64 (ms : Int)] 25)))
  have TX := Hid.intro (fun w hw => isTx_any (tx : Int) w hw)
  have FIN := Hid.intro (fun (w2 : World) => sndr_new (tx := tx) (K := K) (N := N) (S := S) (wt := wt) (ms := ms) h w2)
  have hsz := World.size_alloc w (.cells #[.int .i64 (K : Int), .int .i64 (N : Int), .int .i64 (S : Int), .int .i64 (wt : Int), .int .i64 (ms : Int)] 25)
  simp only [Bool.and_eq_true] at h
  rw [h.1] at MA
  rw [h.2] at TX
  clear hw B0 g0 h
  go_enter Tryz.func39, Tryz.ntmps39
  go_wp2_with fail
  refine MA.out.mono ?_
  rintro e w1 ⟨rfl, B1⟩
  have W1 := Hid.intro (W0.out.below B1)
  have G1 := Hid.intro ((B1.block w.heap.size (by omega)).trans G0.out)
  have BB := Hid.intro (B0H.out.trans (B1.mono B0H.out.size))
  clear B1 MA W0 G0
  go_wp2_with fail
  refine (TX.out _ W1.out).mono ?_
  rintro e w2 ⟨rfl, B2⟩
  have G2 := Hid.intro ((B2.block w.heap.size (lt_of_heap G1.out)).trans G1.out)
  have BC := Hid.intro (BB.out.trans (B2.mono BB.out.size))
  clear B2 TX BB G1
  have c0 : w2.cell? ⟨w.heap.size, 0, none⟩ = some (.int .i64 (K : Int)) := by rw [cell_of_row _ _ 0 _ _ _ G2.out]; rfl
  have c1 : w2.cell? ⟨w.heap.size, 1, none⟩ = some (.int .i64 (N : Int)) := by rw [cell_of_row _ _ 1 _ _ _ G2.out]; rfl
  have c2 : w2.cell? ⟨w.heap.size, 2, none⟩ = some (.int .i64 (S : Int)) := by rw [cell_of_row _ _ 2 _ _ _ G2.out]; rfl
  have c3 : w2.cell? ⟨w.heap.size, 3, none⟩ = some (.int .i64 (wt : Int)) := by rw [cell_of_row _ _ 3 _ _ _ G2.out]; rfl
  have c4 : w2.cell? ⟨w.heap.size, 4, none⟩ = some (.int .i64 (ms : Int)) := by rw [cell_of_row _ _ 4 _ _ _ G2.out]; rfl
  go_wp2
  go_ret
  exact ⟨_, _, rfl, FIN.out _, fun k hk => by rw [hk]; exact BC.out.size, BC.out.alloc BC.out.size _⟩

end Go.Proofs.YthhggjakenalpaaGreatDoor

/- Package sender: Push. -/
namespace Go.Proofs.YthhggjakenalpaaGreatDoor
set_option maxRecDepth 100000
open Go.RowKit
open Bt

variable {M : Nat} {S : Nat → Prop} {w w' : World} {b n : Nat} {v : Value} {P : Nat → Flt} {lv : Nat → Value} {x : Snd}

theorem NS.one (h : NS M S w b v n P lv x) : ∀ i, i < n → (lv i).oneCell' = true := fun i hi => by
  obtain ⟨mb, off, mc, A, C, e, _⟩ := h.rows i hi
  rw [e]; rfl

/-- What a push makes of it. -/
theorem NS.pushed (h : NS M S w b v n P lv x) {bs : List Nat} (hY : Byt bs) (hp : pushE x bs.length = 0) {w7 W wb : World} {sv : Value} {gz cz : Nat} (E7 : Below w.heap.size w w7) (hsh : Shs w.heap.size w7 sv (encL x.K x.N x.S bs))
    (B : Below w7.heap.size w7 W) (own : wb.ownsRow 0 129 6 (.slice (some ⟨gz, 0, none⟩) (n + 1) cz) (n + 1) (fcells P lv n ++ [.int .i64 (x.next : Int), .int .i64 0, .int .i64 0, sv, .bool false, .bool false]))
    (hgrow : W.grownBy wb v.ownBlock) (hat : v.ownBlock = some gz ∨ gz = W.heap.size) :
    ((wb.cell? ⟨b, 8, none⟩ = some v ∧ wb.frozen? ⟨b, 8, none⟩ = false) ∧ ((wb.setCell ⟨b, 8, none⟩ (.slice (some ⟨gz, 0, none⟩) (n + 1) cz)).cell? ⟨b, 1, none⟩ = some (.int .i64 (x.next : Int)) ∧ (wb.setCell ⟨b, 8, none⟩ (.slice (some ⟨gz, 0, none⟩) (n + 1) cz)).frozen? ⟨b, 1, none⟩ = false)) ∧
    ∀ wc, Below (wb.setCell ⟨b, 8, none⟩ (.slice (some ⟨gz, 0, none⟩) (n + 1) cz)).heap.size (wb.setCell ⟨b, 8, none⟩ (.slice (some ⟨gz, 0, none⟩) (n + 1) cz)) wc → (wc.cell? ⟨b, 1, none⟩ = some (.int .i64 (x.next : Int)) ∧ wc.frozen? ⟨b, 1, none⟩ = false) ∧ LeftN M S w (wc.setCell ⟨b, 1, none⟩ (.int .i64 (((x.next + 1) % 256 : Nat) : Int))) b (pushC x bs) := by
  have h7 := h.below E7
  have hb := h.lt b h.inB
  have hs7 := E7.size
  have CB : Chg (fun k => v.ownBlock = some k) w7 wb := ((below_chg B).mono (fun _ q _ => q.elim)).grown hgrow (fun q hq _ => hq)
  have hsb := CB.size
  have hsW := B.size
  have bd := h.ok.bounds
  have hov : ∀ k, v.ownBlock = some k → k < w.heap.size ∧ S k ∧ k ≠ b := fun k hk => ⟨h.lt k (h.inV k hk).1, h.inV k hk⟩
  have hgz : (v.ownBlock = some gz ∧ gz < w.heap.size) ∨ w7.heap.size ≤ gz := by
    rcases hat with q | q
    · exact .inl ⟨q, (hov gz q).1⟩
    · exact .inr (by omega)
  have hgb : gz ≠ b := by
    rcases hgz with q | q
    · exact (hov gz q.1).2.2
    · omega
  have hb8 := (CB.block b (by omega) (fun q => (hov b q).2.2 rfl)).trans h7.head
  have h8 := heap_setCell_same wb b 8 _ _ (.slice (some ⟨gz, 0, none⟩) (n + 1) cz) hb8
  have C8 : Chg (fun k => k = b) wb (wb.setCell ⟨b, 8, none⟩ (.slice (some ⟨gz, 0, none⟩) (n + 1) cz)) := Chg.setCell (S := fun k => k = b) (Chg.refl _ wb) (fun _ => rfl) _
  refine ⟨⟨⟨by rw [cell_of_row _ _ 8 _ _ _ hb8]; rfl, frozen_of_row wb b 8 _ _ hb8⟩, by rw [cell_of_row _ _ 1 _ _ _ h8]; rfl, frozen_of_row _ b 1 _ _ h8⟩, fun wc Bc => ?_⟩
  have hc8 := (Bc.block b (lt_of_heap h8)).trans h8
  refine ⟨⟨by rw [cell_of_row _ _ 1 _ _ _ hc8]; rfl, frozen_of_row _ b 1 _ _ hc8⟩, ?_⟩
  have h9 := heap_setCell_same wc b 1 _ _ (.int .i64 (((x.next + 1) % 256 : Nat) : Int)) hc8
  have C9 : Chg (fun k => k = b) wb (wc.setCell ⟨b, 1, none⟩ (.int .i64 (((x.next + 1) % 256 : Nat) : Int))) := (C8.trans (below_chg Bc) (fun _ q _ => q.elim)).setCell (p := ⟨b, 1, none⟩) (fun _ => rfl) _
  have hgl : gz < wb.heap.size := (World.ownsRow.lt own gz rfl).2
  have hpc : pushC x bs = { x with next := (x.next + 1) % 256, fl := x.fl ++ [newF x bs] } := by unfold pushC; rw [if_pos hp]; rfl
  obtain ⟨q1, q2⟩ := pushE_zero hp
  have hlenE := encL_length x.K x.N x.S bs
  -- the new shards
  have hrow : RowsIn (fun k => w.heap.size ≤ k ∧ k < w7.heap.size) (fun _ => False) w7 sv (encL x.K x.N x.S bs) := by
    rcases hsh with ⟨hs0, _⟩ | ⟨mb, mo, mc, A, C, rfl, hs⟩
    · exfalso
      rw [hs0] at hlenE
      simp at hlenE
      omega
    · refine ⟨mb, mo, mc, A, C, rfl, ⟨⟨hs.newTop, hs.ltTop⟩, id⟩, fun r hr => ⟨hs.cell r hr, hs.row r hr, ⟨hs.cap r hr, hs.lenCap r hr⟩, fun ad ha => ⟨⟨(hs.newRow r ad hr ha).1, ?_⟩, id⟩⟩⟩
      have hr' : r < x.N := by rw [← hlenE]; exact hr
      have hrd := hs.row r hr
      rw [ha] at hrd
      obtain ⟨b', off', e', hc'⟩ := reads_at hrd (by rw [encL_row hr']; omega)
      cases e'
      exact cell_lt (hc' 0 (by rw [encL_row hr']; omega))
  have CW : Chg (fun k => v.ownBlock = some k) w wb := ((below_chg E7).mono (fun _ q _ => q.elim)).trans CB (fun _ q _ => q)
  refine ⟨fun k => S k ∨ (w.heap.size ≤ k ∧ k < wb.heap.size), ⟨.slice (some ⟨gz, 0, none⟩) (n + 1) cz, n + 1, fun i => if i = n then newF x bs else P i, fun i => if i = n then sv else lv i, ?_⟩, ?_, ?_⟩
  · rw [hpc]
    refine ⟨by rw [h9]; rfl, ?_, ?_, fun i hi => ?_, .inl h.inB, fun k hk => ?_, fun q => by omega, fun k hk => ?_, ?_⟩
    · show x.fl ++ [newF x bs] = _
      rw [List.range_succ, List.map_append, h.fl]
      congr 1
      · apply List.map_congr_left
        intro i hi
        have := List.mem_range.1 hi
        simp only [if_neg (show ¬ i = n by omega)]
      · simp
    · rw [fcells, fcells_congr (P' := P) (lv' := lv) (fun i hi => ⟨if_neg (by omega), if_neg (by omega)⟩)]
      have e : fcell (fun i => if i = n then newF x bs else P i) (fun i => if i = n then sv else lv i) n = [.int .i64 (x.next : Int), .int .i64 0, .int .i64 0, sv, .bool false, .bool false] := by simp [fcell, newF]
      rw [e]
      exact ownsRow_keep own fun k hk => C9.block k (World.ownsRow.lt own k hk).2 (fun q => by
        have : gz = k := by simpa [Value.ownBlock] using hk
        omega)
    · have hD : ∀ k, w.heap.size ≤ k ∧ k < w7.heap.size → ¬ headD b (.slice (some ⟨gz, 0, none⟩) (n + 1) cz) k := fun k hk q => by
        rcases q with q | q
        · omega
        · have : gz = k := by simpa [Value.ownBlock] using q
          rcases hgz with q2 | q2
          · omega
          · omega
      by_cases e : i = n
      · simp only [if_pos e]
        show RowsIn _ _ _ sv (encL x.K x.N x.S bs)
        have r1 := (hrow.kept CB (fun k hk _ q => by have := (hov k q).1; omega)).kept C9 (fun k hk _ q => by omega)
        exact r1.mono (fun k hk _ => ⟨.inr ⟨hk.1, by omega⟩, hD k hk⟩)
      · simp only [if_neg e]
        have hi' : i < n := by omega
        have r1 := ((h7.rows i hi').kept CB (fun k _ hd q => hd (.inr q))).kept C9 (fun k _ hd q => hd (.inl q))
        refine r1.mono (fun k hk hd => ⟨.inl hk, fun q => ?_⟩)
        rcases q with q | q
        · exact hd (.inl q)
        · have : gz = k := by simpa [Value.ownBlock] using q
          rcases hgz with q2 | q2
          · exact hd (.inr (this ▸ q2.1))
          · have := h.lt k hk
            omega
    · obtain rfl : gz = k := by simpa [Value.ownBlock] using hk
      refine ⟨?_, hgb⟩
      rcases hgz with q2 | q2
      · exact .inl (hov gz q2.1).2.1
      · exact .inr ⟨by omega, hgl⟩
    · have := C9.size
      rcases hk with q | q
      · have := h.lt k q; omega
      · omega
    · have := pushC_ok h.ok hY
      rw [hpc] at this
      exact this
  · exact (CW.mono (fun k q _ => (hov k q).2.1)).trans C9 (fun k q _ => by rw [q]; exact h.inB)
  · intro k hk
    rcases hk with q | q
    · exact .inl q
    · exact .inr q.1

theorem heap_ltN {w : World} {k : Nat} {o : Obj} (h : w.heap[k]? = some o) : k < w.heap.size := (Array.getElem?_eq_some_iff.1 h).1

theorem own_allocN {W : World} {e : TypeId} {s : Nat} {v : Value} {n : Nat} {xs : List Value} (h : W.ownsRow 0 e s v n xs) (o : Obj) : (W.alloc o).ownsRow 0 e s v n xs :=
  ownsRow_keep h fun k hk => ((Below.refl W.heap.size W).alloc (Nat.le_refl _) o).block k (World.ownsRow.lt h k hk).2

theorem own_drewN {W : World} {e : TypeId} {s : Nat} {v : Value} {n : Nat} {xs : List Value} (h : W.ownsRow 0 e s v n xs) : W.drew.ownsRow 0 e s v n xs :=
  ownsRow_keep h fun _ _ => rfl

end Go.Proofs.YthhggjakenalpaaGreatDoor

/- Package sender: Push, the walk. -/
namespace Go.Proofs.YthhggjakenalpaaGreatDoor
set_option maxRecDepth 100000
open Go.RowKit
open Bt

theorem cellN {w W : World} {a : Addr} {v : Value} (h : Below w.heap.size w W) (hc : w.cell? a = some v) : W.cell? a = some v := (h.cell (cell_lt hc)).trans hc

theorem LeftN.over {M : Nat} {S : Nat → Prop} {w w5 w' : World} {b : Nat} {x : Snd} (h : LeftN M S w5 w' b x) (hb : Below w.heap.size w w5) : LeftN M S w w' b x := by
  obtain ⟨S', h1, h2, h3⟩ := h
  refine ⟨S', h1, ((below_chg hb).mono (fun _ q _ => q.elim)).trans h2 (fun _ q _ => q), fun k hk => ?_⟩
  have := hb.size
  rcases h3 k hk with q | q
  · exact .inl q
  · exact .inr (by omega)

theorem npush_nil (v : Value) (w : World) :
    Calls Tryz.prog 84 #[.pointer none, v] w fun e w' => e = .returned (.int .i64 1) ∧ Below w.heap.size w w' := by
  go_enter Tryz.func84, Tryz.ntmps84
  go_wp2
  go_ret
  exact ⟨rfl, Below.refl _ _⟩

set_option maxRecDepth 100000 in
set_option maxHeartbeats 2000000 in
theorem npush_any (M b : Nat) (ao : Option Addr) (cap : Nat) (bs : List Nat) (hb : Byt bs) (hroom : Room ao cap bs.length) (F : Nat → Prop) (x : Snd) (w : World) (_hM : M ≤ 1000000) (hc : Sndr M F w b x) (hr : Reads w ao bs) (_hap : 0 < bs.length → ∀ ad, ao = some ad → ¬ F ad.block) :
    Calls Tryz.prog 84 #[.pointer (some ⟨b, 0, none⟩), .slice ao bs.length cap] w fun e w' => e = .returned (.int .i64 (pushE x bs.length)) ∧ LeftN M F w w' b (pushC x bs) := by
  obtain ⟨v, n, P, lv, h⟩ := hc
  have hmay := (mayL_true h.ok.may).1
  have bd := h.ok.bounds
  have cs := h.cells
  have c3 := cs.2.2.2.1
  have c4 := cs.2.2.2.2.1
  have c5 := cs.2.2.2.2.2.1
  have BA := (Below.refl _ w).alloc (Nat.le_refl _) (.cells #[.int .i64 (x.K : Int), .int .i64 (x.N : Int), .int .i64 (x.S : Int)] 23)
  have HH := Hid.intro h
  have HA := Hid.intro (h.below BA)
  have HBA := Hid.intro BA
  have ga := heap_alloc_new w (.cells #[.int .i64 (x.K : Int), .int .i64 (x.N : Int), .int .i64 (x.S : Int)] 23)
  have a0 : (w.alloc (.cells #[.int .i64 (x.K : Int), .int .i64 (x.N : Int), .int .i64 (x.S : Int)] 23)).cell? ⟨w.heap.size, 0, none⟩ = some (.int .i64 (x.K : Int)) := by rw [cell_of_row _ _ 0 _ _ _ ga]; rfl
  have a2 : (w.alloc (.cells #[.int .i64 (x.K : Int), .int .i64 (x.N : Int), .int .i64 (x.S : Int)] 23)).cell? ⟨w.heap.size, 2, none⟩ = some (.int .i64 (x.S : Int)) := by rw [cell_of_row _ _ 2 _ _ _ ga]; rfl
  have hKS : x.K * x.S ≤ 144 := may_prod hmay
  have HPE : Hid (pushE x bs.length = if bs.length = x.K * x.S then (if x.fl.length < 4 then 0 else 7) else 4) := rfl
  have HPC : Hid (pushC x bs = if pushE x bs.length = 0 then { x with next := (x.next + 1) % 256, fl := x.fl ++ [⟨x.next, 0, 0, encL x.K x.N x.S bs, false, false⟩] } else x) := rfl
  obtain ⟨p, hp⟩ : ∃ p : Nat, p = x.K * x.S := ⟨_, rfl⟩
  have hpi : (x.K : Int) * (x.S : Int) = (p : Int) := by rw [hp]; simp
  have hwp : IntKind.i64.wrap ((x.K : Int) * (x.S : Int)) = (p : Int) := by rw [hpi]; exact IntWalk.i64_in _ (by omega)
  by_cases hl : bs.length = x.K * x.S
  · rw [if_pos hl, h.len] at HPE
    have RM := Hid.intro (nroom_any M b F x _ ⟨v, n, P, lv, HA.out⟩)
    rw [h.len] at RM
    have hn4 := h.ok.few
    rw [h.len] at hn4
    have ENC := (fun (W : World) (hB : Below w.heap.size w W) => rencode_all (x.K : Int) x.N x.S ao cap bs hb W (hr.kept (below_chg hB) (fun _ _ => id)) hroom)
    unfold Cd at ENC
    have hE : encE (x.K : Int) x.N x.S bs.length = 0 := by
      unfold encE
      rw [if_pos hmay, if_pos (by rw [hl]; simp)]
    have hA : encA (x.K : Int) x.N x.S bs = encL x.K x.N x.S bs := by unfold encA; rw [if_pos hE]; rfl
    rw [hE, hA] at ENC
    have hle : (bs.length : Int) = (p : Int) := by rw [hl, hp]
    rw [hl, ← hp] at HPE HPC ENC ⊢
    have HP0 : Hid (n < 4 → pushE x bs.length = 0) := fun q => by rw [hl, ← hp, HPE.out, if_pos q]
    have HBY := Hid.intro hb
    have ENC := Hid.intro ENC
    generalize pushE x p = pe at HPE HPC ⊢
    obtain ⟨z, hzz⟩ : ∃ z, z = pushC x bs := ⟨_, rfl⟩
    have HPZ := Hid.intro hzz
    rw [← hzz] at HPC ⊢
    clear hzz
    by_cases h4 : n < 4
    · have hpe : pe = 0 := by rw [HPE.out, if_pos h4]
      subst hpe
      have hnx := h.ok.next
      have RO : ((4 - n : Nat) : Int) = 4 - (n : Int) := by omega
      rw [RO] at RM
      have k4 : ¬ (4 : Int) - (n : Int) = 0 := by omega
      obtain ⟨rm, hrm⟩ : ∃ rm : Int, rm = 4 - (n : Int) := ⟨_, rfl⟩
      rw [← hrm] at RM k4
      obtain ⟨vo, vc, hvf, hvg⟩ := h.form
      have HVF := Hid.intro hvf
      have HKN := Hid.intro (show x.K = x.K ∧ x.N = x.N ∧ x.S = x.S from ⟨rfl, rfl, rfl⟩)
      have bN := bd.2.2.2.1
      have bN1 : 1 ≤ x.N := by omega
      have hx0 := encL_length x.K x.N x.S bs
      have ENL := Hid.intro hx0
      have HLEN := Hid.intro (fcells_length P lv n)
      clear hrm RO ga BA cs hp hKS hpi bd hmay h hl hr hb hroom hE hA hle HPE HPC hx0 hvf
      go_enter Tryz.func84, Tryz.ntmps84
      go_wp2_with fail
      refine RM.out.mono ?_
      rintro e w5 ⟨rfl, B5⟩
      have H5 := Hid.intro (HA.out.below B5)
      have B05 := Hid.intro (HBA.out.trans (B5.mono HBA.out.size))
      clear B5 RM a0 a2
      have d3 := H5.out.cells.2.2.2.1
      have d4 := H5.out.cells.2.2.2.2.1
      have d5 := H5.out.cells.2.2.2.2.2.1
      go_wp2_with fail
      refine (ENC.out w5 B05.out).mono ?_
      rintro e w7 ⟨sv, rfl, hsh, E7⟩
      have E7H := Hid.intro E7
      have H7 := Hid.intro (H5.out.below E7)
      have SHX := Hid.intro hsh
      clear E7 ENC d3 d4 d5 c3 c4 c5
      have d8 := H7.out.cells.2.2.2.2.2.2.2.2
      rw [HVF.out] at d8
      have d1 := H7.out.cells.2.1
      have O7 : Hid (w7.ownsRow 0 129 6 (.slice vo n vc) n (fcells P lv n)) := by have := H7.out.own; rw [HVF.out] at this; exact this
      rcases hsh with ⟨hs0, _⟩ | ⟨mb, mo, mc, AA, CC, hsv, hsAt⟩
      · exfalso
        have q := ENL.out
        rw [hs0] at q
        simp at q
        omega
      · obtain ⟨NN, hNN⟩ : ∃ NN, NN = (encL x.K x.N x.S bs).length := ⟨_, rfl⟩
        rw [← hNN] at hsv
        subst hsv
        have FIN := Hid.intro (fun (W wb : World) (gz cz : Nat) (hB : Below w7.heap.size w7 W) hown hgrow hat => H5.out.pushed (W := W) HBY.out (HP0.out h4) E7H.out SHX.out hB (wb := wb) (gz := gz) (cz := cz) hown hgrow hat)
        rw [← HPZ.out, HVF.out] at FIN
        obtain ⟨nx, hnxx⟩ : ∃ nx, nx = x.next := ⟨_, rfl⟩
        rw [← hnxx] at d1 hnx FIN
        have FNX := fun w => snext_any (nx : Int) 1 (by decide) w
        rw [show nextA (nx : Int) 1 = (((nx + 1) % 256 : Nat) : Int) by rw [nextA_in 1 (by omega)]; omega] at FNX
        have FNXH := Hid.intro FNX
        obtain ⟨iF, hiF, hzF0, hzF1, hzF2⟩ := info_parts info_nflt
        have a8 : ∀ o1, (w7.alloc o1).cell? ⟨b, 8, none⟩ = some (.slice vo n vc) := fun o1 => cellN ((Below.refl _ w7).alloc (Nat.le_refl _) _) d8
        have ONE9 : Hid (∀ u ∈ ([.int .i64 (nx : Int), .int .i64 0, .int .i64 0, .slice (some ⟨mb, mo, none⟩) NN mc, .bool false, .bool false] : List Value), u.oneCell' = true) := by simp [Hid, Value.oneCell']
        have BLO := Hid.intro ((((Below.refl w7.heap.size w7).drew).alloc (Nat.le_refl _) (.cells #[.int .i64 (nx : Int), .int .i64 0, .int .i64 0, .slice (some ⟨mb, mo, none⟩) NN mc, .bool false, .bool false] 129)))
        have OWA := Hid.intro (own_allocN (own_drewN O7.out) (.cells #[.int .i64 (nx : Int), .int .i64 0, .int .i64 0, .slice (some ⟨mb, mo, none⟩) NN mc, .bool false, .bool false] 129))
        have GRA := Hid.intro (heap_alloc_new w7.drew (.cells #[.int .i64 (nx : Int), .int .i64 0, .int .i64 0, .slice (some ⟨mb, mo, none⟩) NN mc, .bool false, .bool false] 129))
        generalize fcells P lv n = ns at FIN O7 HLEN OWA
        clear FNX hnxx hNN hsAt O7
        go_wp2_with fail
        go_region_law
          (first
            | (refine step_append_lies _ (by rfl) _ _ _ (by rfl) 0 129 iF (.agg #[.int .i64 0, .int .i64 0, .int .i64 0, .slice none 0 0, .bool false, .bool false]) 6 56 Tryz.underlying116 hiF hzF0 hzF1 hzF2 (by rfl) (by decide) (.slice vo n vc) n ns (by rfl) OWA.out ⟨w7.heap.size, 0, none⟩ 1 1 [.int .i64 (nx : Int), .int .i64 0, .int .i64 0, .slice (some ⟨mb, mo, none⟩) NN mc, .bool false, .bool false] (by rfl) (by rfl) (World.news_of_block (cs := #[.int .i64 (nx : Int), .int .i64 0, .int .i64 0, .slice (some ⟨mb, mo, none⟩) NN mc, .bool false, .bool false]) GRA.out) ONE9.out (by decide) (by unfold maxLen; omega) (by omega) (Nat.zero_le _) _ rfl ?_; intro gz cz wb hown hgrow hat hltz; have FN := FIN.out _ wb gz cz BLO.out hown hgrow hat; have k8 := FN.1.1.1; have f8 := FN.1.1.2; have F1 := Hid.intro FN.1.2; have F2 := Hid.intro FN.2; clear FN hown hgrow hat hltz)
            | fail)
        all_goals
          have g1 := F1.out.1
          have g2 := F1.out.2
          clear a8 ONE9 FIN d8 d1 F1 BLO OWA GRA HLEN
          go_wp2_with fail
          refine (FNXH.out _).mono ?_
          rintro e w9 ⟨rfl, B9⟩
          have F3 := Hid.intro (F2.out w9 B9)
          have m1 := F3.out.1.1
          have m2 := F3.out.1.2
          have F4 := Hid.intro (F3.out.2.over B05.out)
          rw [show (((nx + 1) % 256 : Nat) : Int) = ((nx : Int) + 1) % 256 by omega] at F4
          clear g1 g2 k8 f8 F2 B9 FNXH
          go_wp2
          go_ret
          exact ⟨rfl, F4.out⟩
    · have hpe : pe = 7 := by rw [HPE.out, if_neg h4]
      have HZ : Hid (z = x) := by rw [HPC.out, hpe, if_neg (by decide)]; rfl
      subst hpe
      obtain rfl : n = 4 := by omega
      clear h hl hr hb hroom hE hA hle HPE HPC ga BA cs hp hKS hpi bd hmay ENC HP0 HBY HPZ hn4 h4 HH
      go_enter Tryz.func84, Tryz.ntmps84
      go_wp2_with fail
      refine RM.out.mono ?_
      rintro e w5 ⟨rfl, B5⟩
      have H5 := Hid.intro (HA.out.below B5)
      have B05 := Hid.intro (HBA.out.trans (B5.mono HBA.out.size))
      clear B5 RM
      go_wp2
      go_ret
      exact ⟨rfl, by rw [HZ.out]; exact ⟨F, ⟨v, 4, P, lv, H5.out⟩, (below_chg B05.out).mono (fun _ q _ => q.elim), fun _ q => .inl q⟩⟩
  · have hpe : pushE x bs.length = 4 := by rw [HPE.out, if_neg hl]
    rw [hpe] at HPC ⊢
    have hpc : pushC x bs = x := by rw [HPC.out, if_neg (by decide)]
    rw [hpc]
    have FIN : Hid (LeftN M F w (w.alloc (.cells #[.int .i64 (x.K : Int), .int .i64 (x.N : Int), .int .i64 (x.S : Int)] 23)) b x) := ⟨F, ⟨v, n, P, lv, HA.out⟩, (below_chg HBA.out).mono (fun _ q _ => q.elim), fun _ q => .inl q⟩
    have hne : ¬ (bs.length : Int) = (p : Int) := by omega
    generalize bs.length = L at hne ⊢
    generalize (x.K : Int) = K at *
    generalize (x.S : Int) = SZ at *
    generalize (x.N : Int) = N at *
    clear HPE HPC hpe hpc h hl hr hb hroom HA HBA ga BA cs hp hKS hpi bd hmay HH
    go_enter Tryz.func84, Tryz.ntmps84
    go_wp2
    go_ret
    exact ⟨rfl, FIN.out⟩

end Go.Proofs.YthhggjakenalpaaGreatDoor

/- Package sender: hasWaited, isDue. -/
namespace Go.Proofs.YthhggjakenalpaaGreatDoor
set_option maxRecDepth 100000
open Go.RowKit
open Bt

theorem u64_wrap (m : Int) : IntKind.u64.wrap m = m % 18446744073709551616 := by
  simp [IntKind.wrap, IntKind.bits, IntKind.signed]

theorem u64_sub {l n : Int} (h : l ≤ n) (h1 : -(2 ^ 41) ≤ l) (h2 : n ≤ 2 ^ 41) : IntKind.u64.wrap (IntKind.u64.wrap n - IntKind.u64.wrap l) = n - l := by
  rw [u64_wrap, u64_wrap, u64_wrap]
  omega

theorem hasWaited_any (l n : Int) (wt : Nat) (hl : -(2 ^ 41) ≤ l ∧ l ≤ 2 ^ 41) (hn : -(2 ^ 41) ≤ n ∧ n ≤ 2 ^ 41) (hw1 : 1 ≤ wt) (hw : wt ≤ 100) (w : World) :
    Calls Tryz.prog 155 #[.int .i64 l, .int .i64 n, .int .i64 (wt : Int)] w fun e w' => e = .returned (.bool (decide (l + wt ≤ n))) ∧ w = w' := by
  by_cases h : l ≤ n
  · have hs := u64_sub h hl.1 hn.2
    have e : decide (l + wt ≤ n) = decide ((wt : Int) ≤ n - l) := by rw [decide_eq_decide]; omega
    rw [e]
    have hd : 0 ≤ n - l ∧ n - l ≤ 2 ^ 43 := by omega
    generalize hdd : n - l = d at hs hd ⊢
    have hs2 := Hid.intro hs
    clear hs
    go_enter Tryz.func155, Tryz.ntmps155
    go_wp2
    rw [hs2.out]
    go_ret
    exact ⟨rfl, rfl⟩
  · have e : decide (l + wt ≤ n) = false := by simp; omega
    rw [e]
    go_enter Tryz.func155, Tryz.ntmps155
    go_wp2
    go_ret
    exact ⟨rfl, rfl⟩

/-- Is it due? -/
def dueB (there : Bool) (sent : Nat) (last now : Int) (wt : Nat) : Bool := !there && (decide (sent = 0) || decide (last + wt ≤ now))

set_option maxRecDepth 100000 in
theorem isDue_any (g o sent wt : Nat) (there : Bool) (l now : Int) (hl : -(2 ^ 41) ≤ l ∧ l ≤ 2 ^ 41) (hn : -(2 ^ 41) ≤ now ∧ now ≤ 2 ^ 41) (hw1 : 1 ≤ wt) (hw : wt ≤ 100) (hs : sent ≤ 2 ^ 40) (w : World)
    (c1 : w.cell? ⟨g, o + 1, none⟩ = some (.int .i64 (sent : Int))) (c2 : w.cell? ⟨g, o + 2, none⟩ = some (.int .i64 l)) (c4 : w.cell? ⟨g, o + 4, none⟩ = some (.bool there)) :
    Calls Tryz.prog 127 #[.pointer (some ⟨g, o, none⟩), .int .i64 now, .int .i64 (wt : Int)] w fun e w' => e = .returned (.bool (dueB there sent l now wt)) ∧ w = w' := by
  have HW := Hid.intro (hasWaited_any l now wt hl hn hw1 hw w)
  unfold dueB
  cases there with
  | true =>
    clear HW
    go_enter Tryz.func127, Tryz.ntmps127
    go_wp2
    go_ret
    exact ⟨rfl, rfl⟩
  | false =>
    by_cases h0 : sent = 0
    · have e : (!false && (decide (sent = 0) || decide (l + (wt : Int) ≤ now))) = true := by simp [h0]
      rw [e]
      subst h0
      clear HW e
      go_enter Tryz.func127, Tryz.ntmps127
      go_wp2
      go_ret
      exact ⟨rfl, rfl⟩
    · have e : (!false && (decide (sent = 0) || decide (l + (wt : Int) ≤ now))) = decide (l + (wt : Int) ≤ now) := by simp [h0]
      rw [e]
      have h1 : ¬ (sent : Int) = 0 := by omega
      have h2 : ((sent : Int) == 0) = false := by rw [beq_eq_false_iff_ne]; exact h1
      generalize decide (l + (wt : Int) ≤ now) = r at HW ⊢
      clear e h0
      go_enter Tryz.func127, Tryz.ntmps127
      go_wp2_with fail
      refine HW.out.mono ?_
      rintro e w1 ⟨rfl, rfl⟩
      clear HW
      go_wp2
      go_ret
      exact ⟨rfl, rfl⟩

end Go.Proofs.YthhggjakenalpaaGreatDoor
