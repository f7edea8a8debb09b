/- Package frame: Parse, from eleven bytes on. -/
import Derived.Test.YtaieohnppeapfaaDoorFrmG
namespace Go.Proofs.YtaieohnppeapfaaDoor
open Go.RowKit
open Bt

set_option maxRecDepth 100000 in
set_option maxHeartbeats 2000000 in
theorem parse_long (bb off cap : Nat) (bs : List Nat) (h11 : 11 ≤ bs.length) (h300 : bs.length ≤ 100000) (hcap : bs.length ≤ cap) (hcm : cap ≤ 9223372036854775807) (h256 : ∀ b ∈ bs, b < 256) (w : World) (hw : Wid w) (hr : Reads w (some ⟨bb, off, none⟩) bs) :
    Calls Tryd.prog 17 #[.slice (some ⟨bb, off, none⟩) bs.length cap] w (ParseP bs w) := by
  have HR := Hid.intro hr
  have HW := Hid.intro hw
  have H256 := Hid.intro h256
  clear hr hw h256
  obtain ⟨PP, hPP⟩ : ∃ PP, PP = ParseP bs w := ⟨_, rfl⟩
  rw [← hPP]
  have HPP := Hid.intro hPP
  clear hPP
  have hd11 : decide ((bs.length : Int) < 11) = false := by simp; omega
  have j5 : (5 : Int) ≤ (cap : Int) := by omega
  have j7 : (7 : Int) ≤ (cap : Int) := by omega
  have b4 := H256.out (bs.getD 4 0) (by
    rw [List.getD_eq_getElem?_getD, List.getElem?_eq_getElem (by omega)]
    exact List.getElem_mem _)
  go_enter Tryd.func17, Tryd.ntmps17
  go_wp2_with fail
  have BX := (Below.refl _ w).alloc (Nat.le_refl _) (.cells ZC 24)
  have hX0 := heap_alloc_new w (.cells ZC 24)
  generalize w.alloc (.cells ZC 24) = X at BX hX0 ⊢
  generalize hb0e : w.heap.size = b0 at hX0 ⊢
  have HB0 := Hid.intro hb0e
  have HX0 := Hid.intro hX0
  clear hX0 hb0e
  have SS : Hid (∀ w', Below X.heap.size X w' → Calls Tryd.prog 23 #[.slice (some ⟨bb, off, none⟩) 5 cap] w' fun e w'' => e = .returned (.int .i64 ((crc16 (bs.take 5) : Nat) : Int)) ∧ Below w'.heap.size w' w'') := by
    intro w' hw'
    have r := reads_part (HR.out.below (BX.trans (hw'.mono BX.size))) 0 5 (by omega)
    rw [List.drop_zero, Nat.add_zero] at r
    have s := short_any (some ⟨bb, off, none⟩) cap (bs.take 5) (by simp; omega) (mem_take' H256.out 5) w' r
    rwa [show (bs.take 5).length = 5 from by simp; omega] at s
  have SR : Hid (∀ w', Below X.heap.size X w' → Calls Tryd.prog 30 #[.slice (some ⟨bb, off + 5, none⟩) 2 (cap - 5)] w' fun e w'' => e = .returned (.int .i64 ((readB ((bs.drop 5).take 2) : Nat) : Int)) ∧ w' = w'') := by
    intro w' hw'
    have r := reads_part (HR.out.below (BX.trans (hw'.mono BX.size))) 5 2 (by omega)
    have s := cread_any (some ⟨bb, off + 5, none⟩) (cap - 5) ((bs.drop 5).take 2) (by simp; omega) (mem_take' (mem_drop' H256.out 5) 2) w' r
    rwa [show ((bs.drop 5).take 2).length = 2 from by simp; omega, if_neg (by omega)] at s
  by_cases hh : crc16 (bs.take 5) = readB ((bs.drop 5).take 2)
  · have hb : (((crc16 (bs.take 5) : Nat) : Int) != ((readB ((bs.drop 5).take 2) : Nat) : Int)) = false := by rw [hh]; simp
    have HHX := Hid.intro hh
    clear hh
    generalize crc16 (bs.take 5) = C1 at SS hb
    generalize readB ((bs.drop 5).take 2) = C2 at SR hb
    go_region_held3 (fun _ => True) (trivial)
      ((first
        | (go_at_call 23; refine (SS.out _ ?_).mono ?_; exact below_drewN (Below.refl _ X) 1; rintro e w5 ⟨rfl, B5⟩)
        | (go_at_call 30; refine (SR.out _ ?_).mono ?_; exact below_undrew B5; rintro e w6 ⟨rfl, rfl⟩)))
    have D5 : Below X.heap.size X w5 := below_undrew B5
    have DW5 := BX.trans (D5.mono BX.size)
    have SG : Hid (Calls Tryd.prog 31 #[.slice (some ⟨bb, off, none⟩) 5 cap] w5 fun e w' =>
      e = .returned (.tuple #[Fr ((readB (bs.take 4) / 16777216 : Nat) : Int) ((readB (bs.take 4) / 4096 % 4096 : Nat) : Int) ((readB (bs.take 4) / 512 % 8 : Nat) : Int) ((readB (bs.take 4) / 4 % 128 : Nat) : Int) ((readB (bs.take 4) % 4 : Nat) : Int) none 0 0, .int .i64 ((bs.getD 4 0 : Nat) : Int)]) ∧ Below w5.heap.size w5 w') := by
      have r := reads_part (HR.out.below DW5) 0 5 (by omega)
      rw [List.drop_zero, Nat.add_zero] at r
      have l5 : (bs.take 5).length = 5 := by simp; omega
      have s := getHead_any (some ⟨bb, off, none⟩) cap (bs.take 5) l5 (mem_take' H256.out 5) w5 (HW.out.below DW5) r
      obtain ⟨f0, f1, f2, f3, f4, f5⟩ := g_fields (bs.take 5) l5 (mem_take' H256.out 5)
      rw [f0, f1, f2, f3, f4, f5, List.take_take, show min 4 5 = 4 from rfl, getD_take' bs 5 4 (by decide)] at s
      exact s
    clear B5 SS SR
    obtain ⟨NN, hNN⟩ : ∃ n, n = readB (bs.take 4) := ⟨_, rfl⟩
    obtain ⟨Z, hZ⟩ : ∃ z, z = bs.getD 4 0 := ⟨_, rfl⟩
    rw [← hNN, ← hZ] at SG
    rw [← hZ] at b4
    have HNN := Hid.intro hNN
    have HZ := Hid.intro hZ
    clear hNN hZ
    obtain ⟨T0, hT0⟩ : ∃ T : Nat, T = NN / 16777216 := ⟨_, rfl⟩
    obtain ⟨T1, hT1⟩ : ∃ T : Nat, T = NN / 4096 % 4096 := ⟨_, rfl⟩
    obtain ⟨T2, hT2⟩ : ∃ T : Nat, T = NN / 512 % 8 := ⟨_, rfl⟩
    obtain ⟨T3, hT3⟩ : ∃ T : Nat, T = NN / 4 % 128 := ⟨_, rfl⟩
    obtain ⟨T4, hT4⟩ : ∃ T : Nat, T = NN % 4 := ⟨_, rfl⟩
    rw [← hT0, ← hT1, ← hT2, ← hT3, ← hT4] at SG
    have HT := Hid.intro (And.intro hT0 (And.intro hT1 (And.intro hT2 (And.intro hT3 hT4))))
    clear hT0 hT1 hT2 hT3 hT4
    go_wp2_with fail
    refine SG.out.mono ?_
    rintro e w6 ⟨rfl, B6⟩
    clear SG
    have D6 := D5.trans (B6.mono D5.size)
    have DW6 := DW5.trans (B6.mono DW5.size)
    clear D5 DW5 B6
    have HD6 := Hid.intro D6
    have HDW6 := Hid.intro DW6
    clear D6 DW6
    have g0a : (w6.alloc (.cells #[.int .i64 (T0 : Int), .int .i64 (T1 : Int), .int .i64 (T2 : Int), .int .i64 (T3 : Int), .int .i64 (T4 : Int), .slice none 0 0] 24)).heap[b0]? = some (.cells ZC 24 (0, 0)) := by
      have l0 := lt_of_heap HX0.out
      rw [Below.heap_alloc _ _ _ (Nat.lt_of_lt_of_le l0 HD6.out.size), HD6.out.block b0 l0]; exact HX0.out
    have G0A := Hid.intro g0a
    clear g0a
    have DA := Hid.intro (HDW6.out.alloc HDW6.out.size (.cells #[.int .i64 (T0 : Int), .int .i64 (T1 : Int), .int .i64 (T2 : Int), .int .i64 (T3 : Int), .int .i64 (T4 : Int), .slice none 0 0] 24))
    by_cases hz : 60 < Z ∨ bs.length ≠ 11 + Z
    · have E4 : parseE bs = 4 := by
        unfold parseE
        rw [if_neg (by omega), if_neg (fun h => h HHX.out), ← HZ.out, if_pos hz]
      have HE4 := Hid.intro E4
      clear E4
      by_cases h60 : 60 < Z
      · have k60 : (60 : Int) < (Z : Int) := by omega
        go_wp2_with (refine wpList_store_row rfl 24 (.tmp 2) (.tmp 34) rfl b0 ZC rfl rfl 24 ZC G0A.out (by kernel_rfl) rfl (by kernel_rfl) ?_)
        (try simp only [Exit.inBlock, Exit.then])
        refine bodyPost_ret (results_row_tmp rfl _ _ b0 24 ZC (0, 0) _ rfl (setRow_heap _ b0 ZC ZC 24 _ G0A.out) Tryd.underlying24 rfl (by kernel_rfl)) rfl ?_
        rw [HPP.out]
        exact ⟨below_setRow DA.out b0 (by rw [HB0.out]; exact Nat.le_refl _) ZC, .inl ⟨by rw [HE4.out]; decide, by rw [HE4.out]; rfl⟩⟩
      · have k60 : decide ((60 : Int) < (Z : Int)) = false := by simp; omega
        have klen : ((bs.length : Int) != 11 + (Z : Int)) = true := by rw [bne_iff_ne]; omega
        go_wp2_with (refine wpList_store_row rfl 24 (.tmp 2) (.tmp 34) rfl b0 ZC rfl rfl 24 ZC G0A.out (by kernel_rfl) rfl (by kernel_rfl) ?_)
        (try simp only [Exit.inBlock, Exit.then])
        refine bodyPost_ret (results_row_tmp rfl _ _ b0 24 ZC (0, 0) _ rfl (setRow_heap _ b0 ZC ZC 24 _ G0A.out) Tryd.underlying24 rfl (by kernel_rfl)) rfl ?_
        rw [HPP.out]
        exact ⟨below_setRow DA.out b0 (by rw [HB0.out]; exact Nat.le_refl _) ZC, .inl ⟨by rw [HE4.out]; decide, by rw [HE4.out]; rfl⟩⟩
    · have z60 : Z ≤ 60 := by omega
      have zlen : bs.length = 11 + Z := by omega
      have k60 : decide ((60 : Int) < (Z : Int)) = false := by simp; omega
      have klen : ((bs.length : Int) != 11 + (Z : Int)) = false := by simp; omega
      obtain ⟨Y, hY⟩ : ∃ Y, Y = 7 + Z := ⟨_, rfl⟩
      have hwY : 7 + (Z : Int) = (Y : Int) := by omega
      have q1 : (0 : Int) ≤ (Y : Int) := by omega
      have q2 : (Y : Int) ≤ (cap : Int) := by omega
      have q3 : (Y : Int) ≤ (bs.length : Int) := by omega
      have q4 : ¬ cap = Y := by omega
      have q5 : bs.length - Y = 4 := by omega
      have q6 : Y ≤ 67 := by omega
      have q8 : Y - 7 = Z := by omega
      have q9 : (7 : Int) ≤ (Y : Int) := by omega
      have q10 : ¬ cap = 7 := by omega
      have hYb : Y + 4 ≤ bs.length := by omega
      have HY := Hid.intro hY
      have HZL := Hid.intro zlen
      clear hY zlen hz
      have hX4 := heap_alloc_new w6 (.cells #[.int .i64 (T0 : Int), .int .i64 (T1 : Int), .int .i64 (T2 : Int), .int .i64 (T3 : Int), .int .i64 (T4 : Int), .slice none 0 0] 24)
      have hb46 : X.heap.size ≤ w6.heap.size := HD6.out.size
      go_wp2_with fail
      generalize w6.alloc (.cells #[.int .i64 (T0 : Int), .int .i64 (T1 : Int), .int .i64 (T2 : Int), .int .i64 (T3 : Int), .int .i64 (T4 : Int), .slice none 0 0] 24) = X2 at G0A DA hX4 ⊢
      have l0 := lt_of_heap HX0.out
      have hb4w : w.heap.size ≤ w6.heap.size := HDW6.out.size
      have hb04 : ¬ b0 = w6.heap.size := by omega
      generalize w6.heap.size = b4 at hX4 hb4w hb04 ⊢
      have HX4 := Hid.intro hX4
      clear hX4 hb46 l0 HD6 HDW6
      have SL : Hid (∀ w', Below X2.heap.size X2 w' → Calls Tryd.prog 24 #[.slice (some ⟨bb, off, none⟩) Y cap] w' fun e w'' => e = .returned (.int .i64 ((crc32 (bs.take Y) : Nat) : Int)) ∧ Below w'.heap.size w' w'') := by
        intro w' hw'
        have r := reads_part (HR.out.below (DA.out.trans (hw'.mono DA.out.size))) 0 Y (by omega)
        rw [List.drop_zero, Nat.add_zero] at r
        have ly : (bs.take Y).length = Y := by rw [List.length_take]; omega
        have s := long_any (some ⟨bb, off, none⟩) cap (bs.take Y) (by omega) (mem_take' H256.out Y) w' r
        rwa [ly] at s
      have SR2 : Hid (∀ w', Below X2.heap.size X2 w' → Calls Tryd.prog 30 #[.slice (some ⟨bb, off + Y, none⟩) 4 (cap - Y)] w' fun e w'' => e = .returned (.int .i64 ((readB (bs.drop Y) : Nat) : Int)) ∧ w' = w'') := by
        intro w' hw'
        have r := reads_part (HR.out.below (DA.out.trans (hw'.mono DA.out.size))) Y 4 (by omega)
        have ld : (bs.drop Y).length = 4 := by rw [List.length_drop]; exact q5
        rw [List.take_of_length_le (by omega)] at r
        have s := cread_any (some ⟨bb, off + Y, none⟩) (cap - Y) (bs.drop Y) (by omega) (mem_drop' H256.out Y) w' r
        rwa [ld, if_neg (by omega)] at s
      by_cases hs : crc32 (bs.take Y) = readB (bs.drop Y)
      · have hb5 : (((crc32 (bs.take Y) : Nat) : Int) != ((readB (bs.drop Y) : Nat) : Int)) = false := by rw [hs]; simp
        have E0 : parseE bs = 0 := by
          refine parseE_ok HHX.out (by rw [← HZ.out]; exact z60) (by rw [← HZ.out]; exact HZL.out) ?_
          rw [← HZ.out, ← HY.out]; exact hs
        have HE0 := Hid.intro E0
        clear E0 hs
        generalize crc32 (bs.take Y) = L1 at SL hb5
        generalize readB (bs.drop Y) = L2 at SR2 hb5
        go_region_held3 (fun _ => True) (trivial)
          ((first
            | (go_at_call 24; refine (SL.out _ ?_).mono ?_; exact below_drewN (Below.refl _ X2) 1; rintro e w7 ⟨rfl, B7⟩)
            | (go_at_call 30; refine (SR2.out _ ?_).mono ?_; exact below_undrew B7; rintro e w8 ⟨rfl, rfl⟩)))
        have D7 : Below X2.heap.size X2 w7 := below_undrew B7
        have DW7 := DA.out.trans (D7.mono DA.out.size)
        have g4 : w7.heap[b4]? = some (.cells #[.int .i64 (T0 : Int), .int .i64 (T1 : Int), .int .i64 (T2 : Int), .int .i64 (T3 : Int), .int .i64 (T4 : Int), .slice none 0 0] 24 (0, 0)) := (D7.block b4 (lt_of_heap HX4.out)).trans HX4.out
        have g0 : w7.heap[b0]? = some (.cells ZC 24 (0, 0)) := (D7.block b0 (lt_of_heap G0A.out)).trans G0A.out
        obtain ⟨DS, hDS⟩ : ∃ D, D = (bs.drop 7).take Z := ⟨_, rfl⟩
        have lDS : DS.length = Z := by rw [hDS]; simp only [List.length_take, List.length_drop]; omega
        have SC : Hid (Calls Tryd.prog 32 #[.slice (some ⟨bb, off + 7, none⟩) Z (cap - 7)] w7 fun e w' => ∃ ao c, e = .returned (.slice ao DS.length c) ∧ Reads w' ao DS ∧ (ao = none → c = 0) ∧ (DS.length ≤ c ∧ c ≤ 9223372036854775807) ∧ (∀ ad, ao = some ad → w7.heap.size ≤ ad.block) ∧ Below w7.heap.size w7 w') := by
          have r := reads_part (HR.out.below DW7) 7 Z (by omega)
          rw [← hDS] at r
          have s := clone_some bb (off + 7) (cap - 7) DS (by omega) w7 r
          show Calls _ _ _ _ _
          rw [← lDS]
          exact s
        have G4 := Hid.intro g4
        have G0 := Hid.intro g0
        have HDS := Hid.intro hDS
        have HDW7 := Hid.intro DW7
        clear g4 g0 hDS B7 D7 DW7 SL SR2 lDS
        go_wp2_with fail
        refine SC.out.mono ?_
        rintro e w9 ⟨ao, c9, rfl, hr9, hn9, hc9, hf9, B9⟩
        have l4 := lt_of_heap G4.out
        have l0 := lt_of_heap G0.out
        have g4 : w9.heap[b4]? = some (.cells #[.int .i64 (T0 : Int), .int .i64 (T1 : Int), .int .i64 (T2 : Int), .int .i64 (T3 : Int), .int .i64 (T4 : Int), .slice none 0 0] 24 (0, 0)) := (B9.block b4 l4).trans G4.out
        have g0 : w9.heap[b0]? = some (.cells ZC 24 (0, 0)) := (B9.block b0 l0).trans G0.out
        have z5 : w9.cell? ⟨b4, 5, none⟩ = some (.slice none 0 0) := by rw [cell_of_row _ _ _ _ _ _ g4]; rfl
        have f5 : w9.frozen? ⟨b4, 5, none⟩ = false := frozen_of_row _ _ _ _ _ g4
        have h4 : (w9.setCell ⟨b4, 5, none⟩ (.slice ao DS.length c9)).heap[b4]? = some (.cells #[.int .i64 (T0 : Int), .int .i64 (T1 : Int), .int .i64 (T2 : Int), .int .i64 (T3 : Int), .int .i64 (T4 : Int), .slice ao DS.length c9] 24 (0, 0)) := heap_setCell_same w9 b4 5 _ _ (.slice ao DS.length c9) g4
        have h0 : (w9.setCell ⟨b4, 5, none⟩ (.slice ao DS.length c9)).heap[b0]? = some (.cells ZC 24 (0, 0)) := (heap_setCell_other w9 ⟨b4, 5, none⟩ b0 _ hb04).trans g0
        have DW9 := HDW7.out.trans (B9.mono HDW7.out.size)
        have DS9 := DW9.setCell (p := ⟨b4, 5, none⟩) hb4w (.slice ao DS.length c9)
        have r10 : Reads (w9.setCell ⟨b4, 5, none⟩ (.slice ao DS.length c9)) ao DS := hr9.kept ((Chg.refl (fun k => k = b4) w9).setCell (fun _ => rfl) _) (fun ad ha e => by have := hf9 ad ha; omega)
        have ap0 : ∀ ad, ao = some ad → ¬ ad.block = b0 := fun ad ha e => by have := hf9 ad ha; omega
        have hfw : ∀ ad, ao = some ad → w.heap.size ≤ ad.block := fun ad ha => Nat.le_trans HDW7.out.size (hf9 ad ha)
        have H4 := Hid.intro h4
        have H0 := Hid.intro h0
        have R10 := Hid.intro r10
        have AP := Hid.intro ap0
        have HN9 := Hid.intro hn9
        have HFW := Hid.intro hfw
        have DH := Hid.intro DS9
        clear h4 h0 r10 ap0 hn9 hfw DS9 DW9 g4 g0 hf9 B9 G4 G0 l4 l0 HDW7 SC hr9
        go_wp2_with (first | (refine wpList_load_row rfl 24 (.tmp 4) rfl b4 rfl 24 #[.int .i64 (T0 : Int), .int .i64 (T1 : Int), .int .i64 (T2 : Int), .int .i64 (T3 : Int), .int .i64 (T4 : Int), .slice ao DS.length c9] (0, 0) _ H4.out Tryd.underlying24 rfl (by kernel_rfl) ?_) | (refine wpList_store_row rfl 24 (.tmp 2) (.tmp 52) rfl b0 #[.int .i64 (T0 : Int), .int .i64 (T1 : Int), .int .i64 (T2 : Int), .int .i64 (T3 : Int), .int .i64 (T4 : Int), .slice ao DS.length c9] rfl rfl 24 ZC H0.out (by kernel_rfl) rfl (by kernel_rfl) ?_))
        (try simp only [Exit.inBlock, Exit.then])
        refine bodyPost_ret (results_row_tmp rfl _ _ b0 24 #[.int .i64 (T0 : Int), .int .i64 (T1 : Int), .int .i64 (T2 : Int), .int .i64 (T3 : Int), .int .i64 (T4 : Int), .slice ao DS.length c9] (0, 0) _ rfl (setRow_heap _ b0 ZC _ 24 _ H0.out) Tryd.underlying24 rfl (by kernel_rfl)) rfl ?_
        rw [HPP.out]
        have hA : Fr (T0 : Int) (T1 : Int) (T2 : Int) (T3 : Int) (T4 : Int) ao DS.length c9 = Fr ((readB (bs.take 4) / 16777216 : Nat) : Int) ((readB (bs.take 4) / 4096 % 4096 : Nat) : Int) ((readB (bs.take 4) / 512 % 8 : Nat) : Int) ((readB (bs.take 4) / 4 % 128 : Nat) : Int) ((readB (bs.take 4) % 4 : Nat) : Int) ao ((bs.drop 7).take (bs.getD 4 0)).length c9 := by
          rw [← HNN.out, ← HZ.out, ← HDS.out, HT.out.1, HT.out.2.1, HT.out.2.2.1, HT.out.2.2.2.1, HT.out.2.2.2.2]
        refine ⟨below_setRow DH.out b0 (by rw [HB0.out]; exact Nat.le_refl _) _, .inr ⟨HE0.out, ao, c9, ?_, ?_, HN9.out, ?_, HFW.out⟩⟩
        · rw [← hA]; rfl
        · rw [← HZ.out, ← HDS.out]
          exact R10.out.kept (S := fun k => k = b0) ⟨rfl, rfl, rfl, by rw [size_setRow]; exact Nat.le_refl _, fun k _ hk => setRow_other _ b0 k _ hk⟩ AP.out
        · rw [← HZ.out, ← HDS.out]; exact hc9
      · have hb5 : (((crc32 (bs.take Y) : Nat) : Int) != ((readB (bs.drop Y) : Nat) : Int)) = true := by rw [bne_iff_ne]; omega
        have E5 : parseE bs = 5 := by
          unfold parseE
          rw [if_neg (by omega), if_neg (fun h => h HHX.out), ← HZ.out, if_neg (by have := HZL.out; omega), ← HY.out, if_pos hs]
        have HE5 := Hid.intro E5
        clear E5 hs
        generalize crc32 (bs.take Y) = L1 at SL hb5
        generalize readB (bs.drop Y) = L2 at SR2 hb5
        go_region_held3 (fun _ => True) (trivial)
          ((first
            | (go_at_call 24; refine (SL.out _ ?_).mono ?_; exact below_drewN (Below.refl _ X2) 1; rintro e w7 ⟨rfl, B7⟩)
            | (go_at_call 30; refine (SR2.out _ ?_).mono ?_; exact below_undrew B7; rintro e w8 ⟨rfl, rfl⟩)))
        have D7 : Below X2.heap.size X2 w7 := below_undrew B7
        have DW7 := DA.out.trans (D7.mono DA.out.size)
        have g0 : w7.heap[b0]? = some (.cells ZC 24 (0, 0)) := (D7.block b0 (lt_of_heap G0A.out)).trans G0A.out
        have G0 := Hid.intro g0
        clear g0 B7 D7 SL SR2
        go_wp2_with (refine wpList_store_row rfl 24 (.tmp 2) (.tmp 46) rfl b0 ZC rfl rfl 24 ZC G0.out (by kernel_rfl) rfl (by kernel_rfl) ?_)
        (try simp only [Exit.inBlock, Exit.then])
        refine bodyPost_ret (results_row_tmp rfl _ _ b0 24 ZC (0, 0) _ rfl (setRow_heap _ b0 ZC ZC 24 _ G0.out) Tryd.underlying24 rfl (by kernel_rfl)) rfl ?_
        rw [HPP.out]
        exact ⟨below_setRow DW7 b0 (by rw [HB0.out]; exact Nat.le_refl _) ZC, .inl ⟨by rw [HE5.out]; decide, by rw [HE5.out]; rfl⟩⟩
  · have E3 : parseE bs = 3 := by unfold parseE; rw [if_neg (by omega), if_pos hh]
    have HE3 := Hid.intro E3
    have hb : (((crc16 (bs.take 5) : Nat) : Int) != ((readB ((bs.drop 5).take 2) : Nat) : Int)) = true := by rw [bne_iff_ne]; omega
    clear E3 hh
    generalize crc16 (bs.take 5) = C1 at SS hb
    generalize readB ((bs.drop 5).take 2) = C2 at SR hb
    go_region_held3 (fun _ => True) (trivial)
      ((first
        | (go_at_call 23; refine (SS.out _ ?_).mono ?_; exact below_drewN (Below.refl _ X) 1; rintro e w5 ⟨rfl, B5⟩)
        | (go_at_call 30; refine (SR.out _ ?_).mono ?_; exact below_undrew B5; rintro e w6 ⟨rfl, rfl⟩)))
    have D5 : Below X.heap.size X w5 := below_undrew B5
    have g0 : w5.heap[b0]? = some (.cells ZC 24 (0, 0)) := (D5.block b0 (lt_of_heap HX0.out)).trans HX0.out
    have G0 := Hid.intro g0
    have DW := BX.trans (D5.mono BX.size)
    clear g0 B5 D5 SS SR
    go_wp2_with (refine wpList_store_row rfl 24 (.tmp 2) (.tmp 18) rfl b0 ZC rfl rfl 24 ZC G0.out (by kernel_rfl) rfl (by kernel_rfl) ?_)
    (try simp only [Exit.inBlock, Exit.then])
    refine bodyPost_ret (results_row_tmp rfl _ _ b0 24 ZC (0, 0) _ rfl (setRow_heap w5 b0 ZC ZC 24 _ G0.out) Tryd.underlying24 rfl (by kernel_rfl)) rfl ?_
    rw [HPP.out]
    exact ⟨below_setRow DW b0 (by rw [HB0.out]; exact Nat.le_refl _) ZC, .inl ⟨by rw [HE3.out]; decide, by rw [HE3.out]; rfl⟩⟩

end Go.Proofs.YtaieohnppeapfaaDoor
