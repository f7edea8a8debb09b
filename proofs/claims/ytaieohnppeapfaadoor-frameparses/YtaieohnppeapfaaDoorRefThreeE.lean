/- The document's own Parse of layer 3, of a frame's bytes. -/
import Derived.Test.YtaieohnppeapfaaDoorRefThreeD
namespace Go.Proofs.YtaieohnppeapfaaDoor
open Go.RowKit
open Bt

set_option maxRecDepth 100000 in
set_option maxHeartbeats 2000000 in
theorem refParse_good (bb off cap : Nat) (bs : List Nat) (h11 : 11 ≤ bs.length) (h300 : bs.length ≤ 300) (hcap : bs.length ≤ cap) (hcm : cap ≤ 9223372036854775807) (h256 : ∀ b ∈ bs, b < 256) (hok : parseE bs = 0) (w : World) (hr : Reads w (some ⟨bb, off, none⟩) bs) :
    Calls Tryd.prog 18 #[.slice (some ⟨bb, off, none⟩) bs.length cap] w fun e w' => ∃ ao c, e = .returned (.tuple #[Fr ((readB (bs.take 4) / 16777216 : Nat) : Int) ((readB (bs.take 4) / 4096 % 4096 : Nat) : Int) ((readB (bs.take 4) / 512 % 8 : Nat) : Int) ((readB (bs.take 4) / 4 % 128 : Nat) : Int) ((readB (bs.take 4) % 4 : Nat) : Int) ao ((bs.drop 7).take (bs.getD 4 0)).length c, .int .i64 0]) ∧
      Reads w' ao ((bs.drop 7).take (bs.getD 4 0)) ∧ (ao = none → c = 0) ∧ Below w.heap.size w w' := by
  have HR := Hid.intro hr
  have H256 := Hid.intro h256
  have P0 := parseE_zero hok
  have HP := Hid.intro P0
  clear hr h256 hok P0
  have rN := readB_lt (bs.take 4) (mem_take' H256.out 4)
  rw [show (bs.take 4).length = 4 from by simp; omega, show 256 ^ 4 = 4294967296 from rfl] at rN
  obtain ⟨NN, hNN⟩ : ∃ n, n = readB (bs.take 4) := ⟨_, rfl⟩
  rw [← hNN] at rN ⊢
  have HNN := Hid.intro hNN
  clear hNN
  obtain ⟨DS, hDS⟩ : ∃ D, D = (bs.drop 7).take (bs.getD 4 0) := ⟨_, rfl⟩
  rw [← hDS]
  have lDS : DS.length = bs.getD 4 0 := by rw [hDS]; have := HP.out; simp only [List.length_take, List.length_drop]; omega
  have HDS := Hid.intro hDS
  have LDS := Hid.intro lDS
  clear hDS lDS
  have hd11 : decide ((bs.length : Int) < 11) = false := by simp; omega
  have j5 : (5 : Int) ≤ (cap : Int) := by omega
  have j7 : (7 : Int) ≤ (cap : Int) := by omega
  have b4 := H256.out (bs.getD 4 0) (by
    rw [List.getD_eq_getElem?_getD, List.getElem?_eq_getElem (by omega)]
    exact List.getElem_mem _)
  go_enter Tryd.func18, Tryd.ntmps18
  go_wp2_with fail
  have BX := ((Below.refl _ w).alloc (Nat.le_refl _) (.cells ZC 24)).alloc (World.size_alloc w _ ▸ Nat.le_succ _) (.cells ZC 24)
  have hX0 := heap_alloc2_old w (.cells ZC 24) (.cells ZC 24)
  have hX1 := heap_alloc2_new w (.cells ZC 24) (.cells ZC 24)
  generalize (w.alloc (.cells ZC 24)).alloc (.cells ZC 24) = X at BX hX0 hX1 ⊢
  have hb0 : w.heap.size ≤ w.heap.size := Nat.le_refl _
  generalize hb1e : w.heap.size + 1 = b1 at hX1 ⊢
  have HB1e := Hid.intro hb1e
  clear hb1e
  generalize hb0e : w.heap.size = b0 at hX0 ⊢
  have HB0 := Hid.intro hb0e
  have HX0 := Hid.intro hX0
  have HX1 := Hid.intro hX1
  clear hX0 hX1 hb0 hb0e
  have SS : Hid (∀ w', Below X.heap.size X w' → Calls Tryd.prog 26 #[.slice (some ⟨bb, off, none⟩) 5 cap] w' fun e w'' => e = .returned (.int .i64 ((crc16 (bs.take 5) : Nat) : Int)) ∧ Below w'.heap.size w' w'') := by
    intro w' hw'
    have r := reads_part (HR.out.below (BX.trans (hw'.mono BX.size))) 0 5 (by omega)
    rw [List.drop_zero, Nat.add_zero] at r
    have s := refShort_any (some ⟨bb, off, none⟩) cap (bs.take 5) (by simp; omega) (mem_take' H256.out 5) w' r
    rwa [show (bs.take 5).length = 5 from by simp; omega] at s
  have SR : Hid (∀ w', Below X.heap.size X w' → Calls Tryd.prog 33 #[.slice (some ⟨bb, off + 5, none⟩) 2 (cap - 5)] w' fun e w'' => e = .returned (.int .i64 ((readB ((bs.drop 5).take 2) : Nat) : Int)) ∧ w' = w'') := by
    intro w' hw'
    have r := reads_part (HR.out.below (BX.trans (hw'.mono BX.size))) 5 2 (by omega)
    have s := refRead_any (some ⟨bb, off + 5, none⟩) (cap - 5) ((bs.drop 5).take 2) (by simp; omega) (mem_take' (mem_drop' H256.out 5) 2) w' r
    rwa [show ((bs.drop 5).take 2).length = 2 from by simp; omega, if_neg (by omega)] at s
  have SN : Hid (∀ w', Below X.heap.size X w' → Calls Tryd.prog 33 #[.slice (some ⟨bb, off, none⟩) 4 cap] w' fun e w'' => e = .returned (.int .i64 ((readB (bs.take 4) : Nat) : Int)) ∧ w' = w'') := by
    intro w' hw'
    have r := reads_part (HR.out.below (BX.trans (hw'.mono BX.size))) 0 4 (by omega)
    rw [List.drop_zero, Nat.add_zero] at r
    have s := refRead_any (some ⟨bb, off, none⟩) cap (bs.take 4) (by simp; omega) (mem_take' H256.out 4) w' r
    rwa [show (bs.take 4).length = 4 from by simp; omega, if_neg (by omega)] at s
  have hb : (((crc16 (bs.take 5) : Nat) : Int) != ((readB ((bs.drop 5).take 2) : Nat) : Int)) = false := by rw [HP.out.2.1]; simp
  rw [← HNN.out] at SN
  generalize crc16 (bs.take 5) = C1 at SS hb
  generalize readB ((bs.drop 5).take 2) = C2 at SR hb
  go_region_held3 (fun _ => True) (trivial)
    ((first
      | (go_at_call 26; refine (SS.out _ ?_).mono ?_; exact below_drewN (Below.refl _ X) 1; rintro e w5 ⟨rfl, B5⟩)
      | (go_at_call 33; refine (SR.out _ ?_).mono ?_; exact below_undrew B5; rintro e w6 ⟨rfl, rfl⟩)))
  have D5 : Below X.heap.size X w5 := below_undrew B5
  have DW := BX.trans (D5.mono BX.size)
  obtain ⟨bb', off', e0, hcs⟩ := reads_at (HR.out.below DW) (by omega)
  cases e0
  have c4 := hcs 4 (by omega)
  have e4 : bs[4] = bs.getD 4 0 := by rw [List.getD_eq_getElem?_getD, List.getElem?_eq_getElem (by omega)]; rfl
  rw [e4] at c4
  clear hcs e4 B5 SS SR
  have z60 := HP.out.2.2.1
  have zlen := HP.out.2.2.2.1
  have zsum := HP.out.2.2.2.2
  generalize bs.getD 4 0 = Z at b4 c4 z60 zlen zsum HDS LDS
  have j4 : (4 : Int) < (bs.length : Int) := by omega
  have k60 : decide ((60 : Int) < (Z : Int)) = false := by simp; omega
  have klen : ((bs.length : Int) != 11 + (Z : Int)) = false := by simp; omega
  obtain ⟨Y, hY⟩ : ∃ Y, Y = 7 + Z := ⟨_, rfl⟩
  rw [← hY] at zsum
  have hwY : IntKind.i64.wrap (7 + (Z : Int)) = (Y : Int) := by rw [hY]; exact IntWalk.i64_in _ (by omega)
  have HY7 : Hid (7 + (Z : Int) = (Y : Int)) := show 7 + (Z : Int) = (Y : Int) by omega
  have q1 : (0 : Int) ≤ (Y : Int) := by omega
  have q2 : (Y : Int) ≤ (cap : Int) := by omega
  have q3 : (Y : Int) ≤ (bs.length : Int) := by omega
  have q4 : ¬ cap = Y := by omega
  have q5 : bs.length - Y = 4 := by omega
  have q6 : Y ≤ 67 := by omega
  have q8 : Y - 7 = Z := by omega
  have q9 : (7 : Int) ≤ (Y : Int) := by omega
  have q10 : ¬ cap = 7 := by omega
  have zl : Z ≤ 60 := z60
  have hYb : Y + 4 ≤ bs.length := by omega
  clear hY zlen
  have SL : Hid (∀ w', Below w5.heap.size w5 w' → Calls Tryd.prog 27 #[.slice (some ⟨bb, off, none⟩) Y cap] w' fun e w'' => e = .returned (.int .i64 ((crc32 (bs.take Y) : Nat) : Int)) ∧ Below w'.heap.size w' w'') := by
    intro w' hw'
    have r := reads_part (HR.out.below (DW.trans (hw'.mono DW.size))) 0 Y (by omega)
    rw [List.drop_zero, Nat.add_zero] at r
    have ly : (bs.take Y).length = Y := by rw [List.length_take]; omega
    have s := refLong_any (some ⟨bb, off, none⟩) cap (bs.take Y) (by omega) (by omega) hcm (mem_take' H256.out Y) w' r
    rwa [ly] at s
  have SR2 : Hid (∀ w', Below w5.heap.size w5 w' → Calls Tryd.prog 33 #[.slice (some ⟨bb, off + Y, none⟩) 4 (cap - Y)] w' fun e w'' => e = .returned (.int .i64 ((readB (bs.drop Y) : Nat) : Int)) ∧ w' = w'') := by
    intro w' hw'
    have r := reads_part (HR.out.below (DW.trans (hw'.mono DW.size))) Y 4 (by omega)
    have ld : (bs.drop Y).length = 4 := by rw [List.length_drop]; exact q5
    rw [List.take_of_length_le (by omega)] at r
    have s := refRead_any (some ⟨bb, off + Y, none⟩) (cap - Y) (bs.drop Y) (by omega) (mem_drop' H256.out Y) w' r
    rwa [ld, if_neg (by omega)] at s
  have hb5 : (((crc32 (bs.take Y) : Nat) : Int) != ((readB (bs.drop Y) : Nat) : Int)) = false := by rw [zsum]; simp
  clear zsum
  generalize crc32 (bs.take Y) = L1 at SL hb5
  generalize readB (bs.drop Y) = L2 at SR2 hb5
  go_wp2_with fail
  go_region_held3 (fun _ => True) (trivial)
    ((first
      | (go_at_call 27; refine (SL.out _ ?_).mono ?_; exact below_drewN (Below.refl _ w5) 1; rintro e w7 ⟨rfl, B7⟩)
      | (go_at_call 33; refine (SR2.out _ ?_).mono ?_; exact below_undrew B7; rintro e w8 ⟨rfl, rfl⟩)))
  have D7 : Below w5.heap.size w5 w7 := below_undrew B7
  have D7X := D5.trans (D7.mono D5.size)
  have g1 : w7.heap[b1]? = some (.cells ZC 24 (0, 0)) := (D7X.block b1 (lt_of_heap HX1.out)).trans HX1.out
  have g0 : w7.heap[b0]? = some (.cells ZC 24 (0, 0)) := (D7X.block b0 (lt_of_heap HX0.out)).trans HX0.out
  replace DW := DW.trans (D7.mono DW.size)
  clear D5 B7 D7 SL SR2
  go_wp2_with fail
  refine (SN.out w7 D7X).mono ?_
  rintro e w8 ⟨rfl, rfl⟩
  have z0 : w7.cell? ⟨b1, 0, none⟩ = some (.int .i64 0) := by rw [cell_of_row _ _ _ _ _ _ g1]; rfl
  have z1 : w7.cell? ⟨b1, 1, none⟩ = some (.int .i64 0) := by rw [cell_of_row _ _ _ _ _ _ g1]; rfl
  have z2 : w7.cell? ⟨b1, 2, none⟩ = some (.int .i64 0) := by rw [cell_of_row _ _ _ _ _ _ g1]; rfl
  have z3 : w7.cell? ⟨b1, 3, none⟩ = some (.int .i64 0) := by rw [cell_of_row _ _ _ _ _ _ g1]; rfl
  have z4 : w7.cell? ⟨b1, 4, none⟩ = some (.int .i64 0) := by rw [cell_of_row _ _ _ _ _ _ g1]; rfl
  have ff : ∀ i, w7.frozen? ⟨b1, i, none⟩ = false := fun i => frozen_of_row _ _ _ _ _ g1
  have f0 := ff 0
  have f1 := ff 1
  have f2 := ff 2
  have f3 := ff 3
  have f4 := ff 4
  have G0 := Hid.intro g0
  have G1 := Hid.intro g1
  have hY7 := HY7.out
  clear ff g0 g1 SN hwY HY7
  have hb01 : ¬ b0 = b1 := by have := HB0.out; have := HB1e.out; omega
  have hb1w : w.heap.size ≤ b1 := by have := HB1e.out; omega
  have DWc := ((((DW.setCell (p := ⟨b1, 4, none⟩) hb1w (.int .i64 ((NN : Int) % 4))).setCell (p := ⟨b1, 3, none⟩) hb1w (.int .i64 ((NN : Int) / 4 % 128))).setCell (p := ⟨b1, 2, none⟩) hb1w (.int .i64 ((NN : Int) / 512 % 8))).setCell (p := ⟨b1, 1, none⟩) hb1w (.int .i64 ((NN : Int) / 4096 % 4096))).setCell (p := ⟨b1, 0, none⟩) hb1w (.int .i64 ((NN : Int) / 16777216))
  have k1 := heap_setCell_same _ b1 0 _ _ (.int .i64 ((NN : Int) / 16777216)) (heap_setCell_same _ b1 1 _ _ (.int .i64 ((NN : Int) / 4096 % 4096)) (heap_setCell_same _ b1 2 _ _ (.int .i64 ((NN : Int) / 512 % 8)) (heap_setCell_same _ b1 3 _ _ (.int .i64 ((NN : Int) / 4 % 128)) (heap_setCell_same w7 b1 4 _ _ (.int .i64 ((NN : Int) % 4)) G1.out))))
  have k0 : (((((w7.setCell ⟨b1, 4, none⟩ (.int .i64 ((NN : Int) % 4))).setCell ⟨b1, 3, none⟩ (.int .i64 ((NN : Int) / 4 % 128))).setCell ⟨b1, 2, none⟩ (.int .i64 ((NN : Int) / 512 % 8))).setCell ⟨b1, 1, none⟩ (.int .i64 ((NN : Int) / 4096 % 4096))).setCell ⟨b1, 0, none⟩ (.int .i64 ((NN : Int) / 16777216))).heap[b0]? = some (.cells ZC 24 (0, 0)) := by
    rw [heap_setCell_other _ _ _ _ hb01, heap_setCell_other _ _ _ _ hb01, heap_setCell_other _ _ _ _ hb01, heap_setCell_other _ _ _ _ hb01, heap_setCell_other _ _ _ _ hb01]; exact G0.out
  have zlt := LDS.out
  obtain ⟨Wc, hWc⟩ : ∃ W, W = ((((w7.setCell ⟨b1, 4, none⟩ (.int .i64 ((NN : Int) % 4))).setCell ⟨b1, 3, none⟩ (.int .i64 ((NN : Int) / 4 % 128))).setCell ⟨b1, 2, none⟩ (.int .i64 ((NN : Int) / 512 % 8))).setCell ⟨b1, 1, none⟩ (.int .i64 ((NN : Int) / 4096 % 4096))).setCell ⟨b1, 0, none⟩ (.int .i64 ((NN : Int) / 16777216)) := ⟨_, rfl⟩
  rw [← hWc] at DWc k0 k1
  have K1 : Hid (Wc.heap[b1]? = some (.cells #[.int .i64 ((NN : Int) / 16777216), .int .i64 ((NN : Int) / 4096 % 4096), .int .i64 ((NN : Int) / 512 % 8), .int .i64 ((NN : Int) / 4 % 128), .int .i64 ((NN : Int) % 4), .slice none 0 0] 24 (0, 0))) := k1
  have K0 := Hid.intro k0
  have HWC := Hid.intro hWc
  have rds : Reads (Wc.alloc (.cells #[] 5)) (some ⟨bb, off + 7, none⟩) DS := by
    have r := reads_part (HR.out.below (DWc.alloc DWc.size (.cells #[] 5))) 7 Z (by omega)
    rwa [← HDS.out] at r
  have RDS := Hid.intro rds
  have ERH := Hid.intro (empty_row Wc)
  have HSZ : Hid (Wc.heap.size = w7.heap.size) := by rw [hWc]; simp [Hid]
  clear k0 k1 hWc rds DW G0 G1 D7X
  go_wp2_with (at_builtin; refine append_bytes rfl _ _ rfl _ [] rfl ?_ (some ⟨bb, off + 7, none⟩) Z (cap - 7) DS ?_ rfl ?_ (fun e => by cases e) ?_ ?_)
  · rw [← HWC.out]
    have e := ERH.out
    rw [HSZ.out] at e
    exact e
  · exact zlt.symm
  · rw [← HWC.out]; exact RDS.out
  · simp; omega
  rw [← HWC.out]
  intro v9 w9 hown hgrow hat
  have hown9 : w9.ownsRow 0 5 1 v9 DS.length (DS.map U) := by first | exact hown | (rw [zlt]; exact hown)
  have l1 := lt_of_heap K1.out
  have l0 := lt_of_heap K0.out
  have hsz := HSZ.out
  have DW9 : Below w.heap.size w w9 := (DWc.alloc DWc.size (.cells #[] 5)).grown hgrow (by have := DWc.size; rw [World.size_alloc]; omega) (fun k hk => by
    have e : w7.heap.size = k := by simpa [Value.ownBlock] using hk
    have := DWc.size
    omega)
  have g1 : w9.heap[b1]? = some (.cells #[.int .i64 ((NN : Int) / 16777216), .int .i64 ((NN : Int) / 4096 % 4096), .int .i64 ((NN : Int) / 512 % 8), .int .i64 ((NN : Int) / 4 % 128), .int .i64 ((NN : Int) % 4), .slice none 0 0] 24 (0, 0)) :=
    ((hgrow.block b1 (by rw [World.size_alloc]; omega) (by
      intro e
      have e' : b1 = w7.heap.size := by simpa [Value.ownBlock] using e
      omega)).trans (Below.heap_alloc _ _ _ l1)).trans K1.out
  have g0 : w9.heap[b0]? = some (.cells ZC 24 (0, 0)) :=
    ((hgrow.block b0 (by rw [World.size_alloc]; omega) (by
      intro e
      have e' : b0 = w7.heap.size := by simpa [Value.ownBlock] using e
      omega)).trans (Below.heap_alloc _ _ _ l0)).trans K0.out
  obtain ⟨ao, c9, hv9, hr9, _⟩ := row_of_owns hown9
  subst hv9
  have hnc := none_cap_of_owns hown9
  have z5 : w9.cell? ⟨b1, 5, none⟩ = some (.slice none 0 0) := by rw [cell_of_row _ _ _ _ _ _ g1]; rfl
  have f5 : w9.frozen? ⟨b1, 5, none⟩ = false := frozen_of_row _ _ _ _ _ g1
  have h1 : (w9.setCell ⟨b1, 5, none⟩ (.slice ao DS.length c9)).heap[b1]? = some (.cells #[.int .i64 ((NN : Int) / 16777216), .int .i64 ((NN : Int) / 4096 % 4096), .int .i64 ((NN : Int) / 512 % 8), .int .i64 ((NN : Int) / 4 % 128), .int .i64 ((NN : Int) % 4), .slice ao DS.length c9] 24 (0, 0)) := heap_setCell_same w9 b1 5 _ _ (.slice ao DS.length c9) g1
  have h0 : (w9.setCell ⟨b1, 5, none⟩ (.slice ao DS.length c9)).heap[b0]? = some (.cells ZC 24 (0, 0)) := (heap_setCell_other w9 ⟨b1, 5, none⟩ b0 _ hb01).trans g0
  have DS9 := DW9.setCell (p := ⟨b1, 5, none⟩) hb1w (.slice ao DS.length c9)
  have r10 : Reads (w9.setCell ⟨b1, 5, none⟩ (.slice ao DS.length c9)) ao DS := hr9.kept ((Chg.refl (fun k => k = b1) w9).setCell (fun _ => rfl) _) (fun ad ha e => row_not_block hown9 g1 (by decide) (by rw [ha]; simp only [Value.ownBlock, e]))
  have apart0 : ∀ ad, ao = some ad → ¬ ad.block = b0 := fun ad ha e => row_not_block hown9 g0 (by decide) (by rw [ha]; simp only [Value.ownBlock, e])
  clear hown hgrow hat hown9 K1 K0 ERH RDS DWc l0 l1 g0 g1 hr9 HWC HSZ
  have H1 := Hid.intro h1
  have H0 := Hid.intro h0
  have R10 := Hid.intro r10
  have HNC := Hid.intro hnc
  have LZ := Hid.intro zlt
  have AP := Hid.intro apart0
  have DH := Hid.intro DS9
  clear h1 h0 r10 hnc zlt LDS apart0 DS9
  go_wp2_with (first | (refine wpList_load_row rfl 24 (.tmp 4) rfl b1 rfl 24 #[.int .i64 ((NN : Int) / 16777216), .int .i64 ((NN : Int) / 4096 % 4096), .int .i64 ((NN : Int) / 512 % 8), .int .i64 ((NN : Int) / 4 % 128), .int .i64 ((NN : Int) % 4), .slice ao DS.length c9] (0, 0) _ H1.out Tryd.underlying24 rfl (by kernel_rfl) ?_) | (refine wpList_store_row rfl 24 (.tmp 2) (.tmp 73) rfl b0 #[.int .i64 ((NN : Int) / 16777216), .int .i64 ((NN : Int) / 4096 % 4096), .int .i64 ((NN : Int) / 512 % 8), .int .i64 ((NN : Int) / 4 % 128), .int .i64 ((NN : Int) % 4), .slice ao DS.length c9] rfl rfl 24 ZC H0.out (by kernel_rfl) rfl (by kernel_rfl) ?_))
  (try simp only [Exit.inBlock, Exit.then])
  refine bodyPost_ret (results_row_tmp rfl _ _ b0 24 #[.int .i64 ((NN : Int) / 16777216), .int .i64 ((NN : Int) / 4096 % 4096), .int .i64 ((NN : Int) / 512 % 8), .int .i64 ((NN : Int) / 4 % 128), .int .i64 ((NN : Int) % 4), .slice ao DS.length c9] (0, 0) _ rfl (setRow_heap _ b0 ZC _ 24 _ H0.out) Tryd.underlying24 rfl (by kernel_rfl)) rfl ?_
  refine ⟨ao, c9, ?_, ?_, HNC.out, below_setRow DH.out b0 (by rw [HB0.out]; exact Nat.le_refl _) _⟩
  · have e1 : ((NN / 16777216 : Nat) : Int) = (NN : Int) / 16777216 := by omega
    have e2 : ((NN / 4096 % 4096 : Nat) : Int) = (NN : Int) / 4096 % 4096 := by omega
    have e3 : ((NN / 512 % 8 : Nat) : Int) = (NN : Int) / 512 % 8 := by omega
    have e4 : ((NN / 4 % 128 : Nat) : Int) = (NN : Int) / 4 % 128 := by omega
    have e5 : ((NN % 4 : Nat) : Int) = (NN : Int) % 4 := by omega
    rw [e1, e2, e3, e4, e5]
    rfl
  · exact R10.out.kept (S := fun k => k = b0) ⟨rfl, rfl, rfl, by rw [size_setRow]; exact Nat.le_refl _, fun k _ hk => setRow_other _ b0 k _ hk⟩ AP.out

end Go.Proofs.YtaieohnppeapfaaDoor
