/- The document's own Parse of layer 3, from eleven bytes on. -/
import Derived.Test.YtaieohnppeapfaaDoorRefThreeC
namespace Go.Proofs.YtaieohnppeapfaaDoor
open Go.RowKit
open Bt

set_option maxRecDepth 100000 in
set_option maxHeartbeats 2000000 in
theorem refParse_bad (bb off cap : Nat) (bs : List Nat) (h11 : 11 ≤ bs.length) (h300 : bs.length ≤ 300) (hcap : bs.length ≤ cap) (hcm : cap ≤ 9223372036854775807) (h256 : ∀ b ∈ bs, b < 256) (hbad : parseE bs ≠ 0) (w : World) (hr : Reads w (some ⟨bb, off, none⟩) bs) :
    Calls Tryd.prog 18 #[.slice (some ⟨bb, off, none⟩) bs.length cap] w fun e w' => e = .returned (.tuple #[Fr 0 0 0 0 0 none 0 0, .int .i64 ((parseE bs : Nat) : Int)]) ∧ Below w.heap.size w w' := by
  have HR := Hid.intro hr
  have H256 := Hid.intro h256
  have HBAD := Hid.intro hbad
  clear hr h256 hbad
  obtain ⟨E, hE⟩ : ∃ E, E = parseE bs := ⟨_, rfl⟩
  rw [← hE]
  have HE := Hid.intro hE
  clear hE
  have hd11 : decide ((bs.length : Int) < 11) = false := by simp; omega
  have j5 : (5 : Int) ≤ (cap : Int) := by omega
  have j7 : (7 : Int) ≤ (cap : Int) := by omega
  have b4 := H256.out (bs.getD 4 0) (by
    rw [List.getD_eq_getElem?_getD, List.getElem?_eq_getElem (by omega)]
    exact List.getElem_mem _)
  go_enter Tryd.func18, Tryd.ntmps18
  go_wp2_with fail
  have BX := ((Below.refl _ w).alloc (Nat.le_refl _) (.cells ZC 24)).alloc (World.size_alloc w _ ▸ Nat.le_succ _) (.cells ZC 24)
  have hX0 := heap_alloc2_old w (.cells ZC 24) (.cells ZC 24)
  have hX1 := heap_alloc2_new w (.cells ZC 24) (.cells ZC 24)
  generalize (w.alloc (.cells ZC 24)).alloc (.cells ZC 24) = X at BX hX0 hX1 ⊢
  have hb0 : w.heap.size ≤ w.heap.size := Nat.le_refl _
  generalize w.heap.size + 1 = b1 at hX1 ⊢
  generalize hb0e : w.heap.size = b0 at hX0 ⊢
  have HB0 := Hid.intro hb0e
  have HX0 := Hid.intro hX0
  have HX1 := Hid.intro hX1
  clear hX0 hX1 hb0 hb0e
  have SS : Hid (∀ w', Below X.heap.size X w' → Calls Tryd.prog 26 #[.slice (some ⟨bb, off, none⟩) 5 cap] w' fun e w'' => e = .returned (.int .i64 ((crc16 (bs.take 5) : Nat) : Int)) ∧ Below w'.heap.size w' w'') := by
    intro w' hw'
    have r := reads_part (HR.out.below (BX.trans (hw'.mono BX.size))) 0 5 (by omega)
    rw [List.drop_zero, Nat.add_zero] at r
    have s := refShort_any (some ⟨bb, off, none⟩) cap (bs.take 5) (by simp; omega) (mem_take' H256.out 5) w' r
    rwa [show (bs.take 5).length = 5 from by simp; omega] at s
  have SR : Hid (∀ w', Below X.heap.size X w' → Calls Tryd.prog 33 #[.slice (some ⟨bb, off + 5, none⟩) 2 (cap - 5)] w' fun e w'' => e = .returned (.int .i64 ((readB ((bs.drop 5).take 2) : Nat) : Int)) ∧ w' = w'') := by
    intro w' hw'
    have r := reads_part (HR.out.below (BX.trans (hw'.mono BX.size))) 5 2 (by omega)
    have s := refRead_any (some ⟨bb, off + 5, none⟩) (cap - 5) ((bs.drop 5).take 2) (by simp; omega) (mem_take' (mem_drop' H256.out 5) 2) w' r
    rwa [show ((bs.drop 5).take 2).length = 2 from by simp; omega, if_neg (by omega)] at s
  have hE2 : (crc16 (bs.take 5) ≠ readB ((bs.drop 5).take 2) → E = 3) := by
    intro h; rw [HE.out]; unfold parseE; rw [if_neg (by omega), if_pos h]
  have HE2 := Hid.intro hE2
  clear hE2
  by_cases hh : crc16 (bs.take 5) = readB ((bs.drop 5).take 2)
  · have hb : (((crc16 (bs.take 5) : Nat) : Int) != ((readB ((bs.drop 5).take 2) : Nat) : Int)) = false := by rw [hh]; simp
    have hE4 : (60 < bs.getD 4 0 ∨ bs.length ≠ 11 + bs.getD 4 0) → E = 4 := by
      intro h; rw [HE.out]; unfold parseE; rw [if_neg (by omega), if_neg (by rw [hh]; simp), if_pos h]
    have hE5 : ¬ (60 < bs.getD 4 0 ∨ bs.length ≠ 11 + bs.getD 4 0) → crc32 (bs.take (7 + bs.getD 4 0)) ≠ readB (bs.drop (7 + bs.getD 4 0)) ∧ E = 5 := by
      intro h
      have hb0 := HBAD.out
      rw [HE.out]
      unfold parseE at hb0 ⊢
      rw [if_neg (by omega), if_neg (by rw [hh]; simp), if_neg h] at hb0 ⊢
      split at hb0
      · rename_i h5; exact ⟨h5, if_pos h5⟩
      · exact absurd rfl hb0
    have HE4 := Hid.intro hE4
    have HE5 := Hid.intro hE5
    clear hE4 hE5 HE2 hh
    generalize crc16 (bs.take 5) = C1 at SS hb
    generalize readB ((bs.drop 5).take 2) = C2 at SR hb
    go_region_held3 (fun _ => True) (trivial)
      ((first
        | (go_at_call 26; refine (SS.out _ ?_).mono ?_; exact below_drewN (Below.refl _ X) 1; rintro e w5 ⟨rfl, B5⟩)
        | (go_at_call 33; refine (SR.out _ ?_).mono ?_; exact below_undrew B5; rintro e w6 ⟨rfl, rfl⟩)))
    have D5 : Below X.heap.size X w5 := below_undrew B5
    have DW := BX.trans (D5.mono BX.size)
    obtain ⟨bb', off', e0, hcs⟩ := reads_at (HR.out.below DW) (by omega)
    cases e0
    have c4 := hcs 4 (by omega)
    have e4 : bs[4] = bs.getD 4 0 := by rw [List.getD_eq_getElem?_getD, List.getElem?_eq_getElem (by omega)]; rfl
    rw [e4] at c4
    clear hcs e4 B5 SS SR
    generalize bs.getD 4 0 = Z at b4 HE4 HE5 c4
    have j4 : (4 : Int) < (bs.length : Int) := by omega
    by_cases hz : 60 < Z ∨ bs.length ≠ 11 + Z
    · have E4 := HE4.out hz
      have g1 : w5.heap[b1]? = some (.cells ZC 24 (0, 0)) := (D5.block b1 (lt_of_heap HX1.out)).trans HX1.out
      have g0 : w5.heap[b0]? = some (.cells ZC 24 (0, 0)) := (D5.block b0 (lt_of_heap HX0.out)).trans HX0.out
      have G1 := Hid.intro g1
      have G0 := Hid.intro g0
      clear g0 g1 D5 HE4 HE5
      by_cases h60 : 60 < Z
      · have k60 : (60 : Int) < (Z : Int) := by omega
        go_wp2_with (first | (refine wpList_load_row rfl 24 (.tmp 4) rfl b1 rfl 24 ZC (0, 0) _ G1.out Tryd.underlying24 rfl (by kernel_rfl) ?_) | (refine wpList_store_row rfl 24 (.tmp 2) (.tmp 32) rfl b0 ZC rfl rfl 24 ZC G0.out (by kernel_rfl) rfl (by kernel_rfl) ?_))
        (try simp only [Exit.inBlock, Exit.then])
        refine bodyPost_ret (results_row_tmp rfl _ _ b0 24 ZC (0, 0) _ rfl (setRow_heap w5 b0 ZC ZC 24 _ G0.out) Tryd.underlying24 rfl (by kernel_rfl)) rfl ?_
        exact ⟨by rw [E4]; rfl, below_setRow DW b0 (by rw [HB0.out]; exact Nat.le_refl _) ZC⟩
      · have k60 : decide ((60 : Int) < (Z : Int)) = false := by simp; omega
        have klen : ((bs.length : Int) != 11 + (Z : Int)) = true := by rw [bne_iff_ne]; omega
        go_wp2_with (first | (refine wpList_load_row rfl 24 (.tmp 4) rfl b1 rfl 24 ZC (0, 0) _ G1.out Tryd.underlying24 rfl (by kernel_rfl) ?_) | (refine wpList_store_row rfl 24 (.tmp 2) (.tmp 32) rfl b0 ZC rfl rfl 24 ZC G0.out (by kernel_rfl) rfl (by kernel_rfl) ?_))
        (try simp only [Exit.inBlock, Exit.then])
        refine bodyPost_ret (results_row_tmp rfl _ _ b0 24 ZC (0, 0) _ rfl (setRow_heap w5 b0 ZC ZC 24 _ G0.out) Tryd.underlying24 rfl (by kernel_rfl)) rfl ?_
        exact ⟨by rw [E4]; rfl, below_setRow DW b0 (by rw [HB0.out]; exact Nat.le_refl _) ZC⟩
    · have E5 := HE5.out hz
      have k60 : decide ((60 : Int) < (Z : Int)) = false := by simp; omega
      have klen : ((bs.length : Int) != 11 + (Z : Int)) = false := by simp; omega
      obtain ⟨Y, hY⟩ : ∃ Y, Y = 7 + Z := ⟨_, rfl⟩
      rw [← hY] at E5
      have hwY : IntKind.i64.wrap (7 + (Z : Int)) = (Y : Int) := by rw [hY]; exact IntWalk.i64_in _ (by omega)
      have q1 : (0 : Int) ≤ (Y : Int) := by omega
      have q2 : (Y : Int) ≤ (cap : Int) := by omega
      have q3 : (Y : Int) ≤ (bs.length : Int) := by omega
      have q4 : ¬ cap = Y := by omega
      have q5 : bs.length - Y = 4 := by omega
      have q6 : Y ≤ 67 := by omega
      have q7 : Y + 4 = bs.length := by omega
      clear hY HE4 HE5
      have SL : Hid (∀ w', Below w5.heap.size w5 w' → Calls Tryd.prog 27 #[.slice (some ⟨bb, off, none⟩) Y cap] w' fun e w'' => e = .returned (.int .i64 ((crc32 (bs.take Y) : Nat) : Int)) ∧ Below w'.heap.size w' w'') := by
        intro w' hw'
        have r := reads_part (HR.out.below (DW.trans (hw'.mono DW.size))) 0 Y (by omega)
        rw [List.drop_zero, Nat.add_zero] at r
        have ly : (bs.take Y).length = Y := by rw [List.length_take]; omega
        have s := refLong_any (some ⟨bb, off, none⟩) cap (bs.take Y) (by omega) (by omega) hcm (mem_take' H256.out Y) w' r
        rwa [ly] at s
      have SR2 : Hid (∀ w', Below w5.heap.size w5 w' → Calls Tryd.prog 33 #[.slice (some ⟨bb, off + Y, none⟩) 4 (cap - Y)] w' fun e w'' => e = .returned (.int .i64 ((readB (bs.drop Y) : Nat) : Int)) ∧ w' = w'') := by
        intro w' hw'
        have r := reads_part (HR.out.below (DW.trans (hw'.mono DW.size))) Y 4 (by omega)
        have ld : (bs.drop Y).length = 4 := by rw [List.length_drop]; exact q5
        rw [List.take_of_length_le (by omega)] at r
        have s := refRead_any (some ⟨bb, off + Y, none⟩) (cap - Y) (bs.drop Y) (by omega) (mem_drop' H256.out Y) w' r
        rwa [ld, if_neg (by omega)] at s
      have hb5 : (((crc32 (bs.take Y) : Nat) : Int) != ((readB (bs.drop Y) : Nat) : Int)) = true := by rw [bne_iff_ne]; intro e; exact E5.1 (by omega)
      have E5e := E5.2
      clear E5
      generalize crc32 (bs.take Y) = L1 at SL hb5
      generalize readB (bs.drop Y) = L2 at SR2 hb5
      go_wp2_with fail
      go_region_held3 (fun _ => True) (trivial)
        ((first
          | (go_at_call 27; refine (SL.out _ ?_).mono ?_; exact below_drewN (Below.refl _ w5) 1; rintro e w7 ⟨rfl, B7⟩)
          | (go_at_call 33; refine (SR2.out _ ?_).mono ?_; exact below_undrew B7; rintro e w8 ⟨rfl, rfl⟩)))
      have D7 : Below w5.heap.size w5 w7 := below_undrew B7
      have D7X := D5.trans (D7.mono D5.size)
      have g1 : w7.heap[b1]? = some (.cells ZC 24 (0, 0)) := (D7X.block b1 (lt_of_heap HX1.out)).trans HX1.out
      have g0 : w7.heap[b0]? = some (.cells ZC 24 (0, 0)) := (D7X.block b0 (lt_of_heap HX0.out)).trans HX0.out
      have G1 := Hid.intro g1
      have G0 := Hid.intro g0
      replace DW := DW.trans (D7.mono DW.size)
      clear g0 g1 D5 B7 D7 D7X SL SR2
      go_wp2_with (first | (refine wpList_load_row rfl 24 (.tmp 4) rfl b1 rfl 24 ZC (0, 0) _ G1.out Tryd.underlying24 rfl (by kernel_rfl) ?_) | (refine wpList_store_row rfl 24 (.tmp 2) (.tmp 44) rfl b0 ZC rfl rfl 24 ZC G0.out (by kernel_rfl) rfl (by kernel_rfl) ?_))
      (try simp only [Exit.inBlock, Exit.then])
      refine bodyPost_ret (results_row_tmp rfl _ _ b0 24 ZC (0, 0) _ rfl (setRow_heap w7 b0 ZC ZC 24 _ G0.out) Tryd.underlying24 rfl (by kernel_rfl)) rfl ?_
      exact ⟨by rw [E5e]; rfl, below_setRow DW b0 (by rw [HB0.out]; exact Nat.le_refl _) ZC⟩
  · have hne : ((crc16 (bs.take 5) : Nat) : Int) ≠ ((readB ((bs.drop 5).take 2) : Nat) : Int) := by omega
    have E3 := HE2.out hh
    clear HE2 hh
    generalize crc16 (bs.take 5) = C1 at SS hne
    generalize readB ((bs.drop 5).take 2) = C2 at SR hne
    have hb : ((C1 : Int) != (C2 : Int)) = true := by rw [bne_iff_ne]; exact hne
    go_region_held3 (fun _ => True) (trivial)
      ((first
        | (go_at_call 26; refine (SS.out _ ?_).mono ?_; exact below_drewN (Below.refl _ X) 1; rintro e w5 ⟨rfl, B5⟩)
        | (go_at_call 33; refine (SR.out _ ?_).mono ?_; exact below_undrew B5; rintro e w6 ⟨rfl, rfl⟩)))
    have D5 : Below X.heap.size X w5 := below_undrew B5
    have g1 : w5.heap[b1]? = some (.cells ZC 24 (0, 0)) := (D5.block b1 (lt_of_heap HX1.out)).trans HX1.out
    have g0 : w5.heap[b0]? = some (.cells ZC 24 (0, 0)) := (D5.block b0 (lt_of_heap HX0.out)).trans HX0.out
    have G1 := Hid.intro g1
    have G0 := Hid.intro g0
    have DW := BX.trans (D5.mono BX.size)
    clear g0 g1 B5 D5 SS SR
    go_wp2_with (first | (refine wpList_load_row rfl 24 (.tmp 4) rfl b1 rfl 24 ZC (0, 0) _ G1.out Tryd.underlying24 rfl (by kernel_rfl) ?_) | (refine wpList_store_row rfl 24 (.tmp 2) (.tmp 18) rfl b0 ZC rfl rfl 24 ZC G0.out (by kernel_rfl) rfl (by kernel_rfl) ?_))
    (try simp only [Exit.inBlock, Exit.then])
    refine bodyPost_ret (results_row_tmp rfl _ _ b0 24 ZC (0, 0) _ rfl (setRow_heap w5 b0 ZC ZC 24 _ G0.out) Tryd.underlying24 rfl (by kernel_rfl)) rfl ?_
    exact ⟨by rw [E3]; rfl, below_setRow DW b0 (by rw [HB0.out]; exact Nat.le_refl _) ZC⟩

end Go.Proofs.YtaieohnppeapfaaDoor
