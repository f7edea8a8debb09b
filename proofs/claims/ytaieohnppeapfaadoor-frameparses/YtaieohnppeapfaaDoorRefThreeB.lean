/- The document's own Put of layer 3. -/
import Derived.Test.YtaieohnppeapfaaDoorRefThree
import Derived.Deep.RegionHeld3
namespace Go.Proofs.YtaieohnppeapfaaDoor
open Go.RowKit
open Bt

theorem refPut_no (tx sq an rs kd : Int) (a : Option Addr) (len cap : Nat) (h : isFrm tx sq an rs kd len = false) (w : World) :
    Calls Tryd.prog 14 #[Fr tx sq an rs kd a len cap] w fun e w' => e = .returned (.slice none 0 0) ∧ Below w.heap.size w w' := by
  have B1 := (Below.refl _ w).alloc (Nat.le_refl _) (.cells #[.int .i64 tx, .int .i64 sq, .int .i64 an, .int .i64 rs, .int .i64 kd, .slice a len cap] 24)
  have hB := Hid.intro B1
  clear B1
  go_enter Tryd.func14, Tryd.ntmps14
  go_wp2_with fail
  refine (refRight_any tx sq an rs kd a len cap _).mono ?_
  rintro e w2 ⟨rfl, B2⟩
  rw [h]
  have B2w := hB.out.trans (B2.mono hB.out.size)
  clear B2 hB
  go_wp2
  go_ret
  exact ⟨rfl, B2w⟩

theorem afterA {w2 w5 w7 : World} {g5 g7 : Nat} {o : Obj} {n c : Nat} (B5 : Below w2.drew.heap.size w2.drew w5) (hg5 : w2.drew.heap.size ≤ g5) (hgrow : (w5.alloc o).grownBy w7 (Value.slice (some ⟨g5, 0, none⟩) n c).ownBlock)
    (hat : (Value.slice (some ⟨g5, 0, none⟩) n c).ownBlock = some g7 ∨ g7 = w5.heap.size + 1) : Below w2.heap.size w2 w7 ∧ w2.heap.size ≤ g7 := by
  have b5 : Below w2.heap.size w2 w5 := below_undrew B5
  have hs := b5.size
  have hg : w2.heap.size ≤ g5 := hg5
  refine ⟨(b5.alloc hs o).grown hgrow (by rw [World.size_alloc]; omega) (fun k hk => ?_), ?_⟩
  · have e : g5 = k := by simpa [Value.ownBlock] using hk
    omega
  · rcases hat with h | h
    · have e : g5 = g7 := by simpa [Value.ownBlock] using h
      omega
    · omega

theorem afterB {w2 w5 w7 : World} {g5 g7 : Nat} {o : Obj} {n c : Nat} (B5 : Below (w2.alloc o).drew.heap.size (w2.alloc o).drew w5) (hg5 : (w2.alloc o).drew.heap.size ≤ g5) (hgrow : w5.grownBy w7 (Value.slice (some ⟨g5, 0, none⟩) n c).ownBlock)
    (hat : (Value.slice (some ⟨g5, 0, none⟩) n c).ownBlock = some g7 ∨ g7 = w5.heap.size) : Below w2.heap.size w2 w7 ∧ w2.heap.size ≤ g7 := by
  have B5' : Below (w2.alloc o).heap.size (w2.alloc o) w5 := below_undrew B5
  have hg : (w2.alloc o).heap.size ≤ g5 := hg5
  rw [World.size_alloc] at hg
  have b1 : Below w2.heap.size w2 (w2.alloc o) := (Below.refl _ _).alloc (Nat.le_refl _) o
  have b5 : Below w2.heap.size w2 w5 := b1.trans (B5'.mono (by rw [World.size_alloc]; omega))
  have hs := b5.size
  refine ⟨b5.grown hgrow hs (fun k hk => ?_), ?_⟩
  · have e : g5 = k := by simpa [Value.ownBlock] using hk
    omega
  · rcases hat with h | h
    · have e : g5 = g7 := by simpa [Value.ownBlock] using h
      omega
    · omega

set_option maxRecDepth 100000 in
set_option maxHeartbeats 2000000 in
theorem refPut_yes (TX SQ AN RS KD : Nat) (a : Option Addr) (cap : Nat) (ds : List Nat) (hn : a = none → cap = 0) (h1 : TX < 256) (h2 : SQ < 4096) (h3 : AN < 8) (h4 : RS < 128) (h5 : KD < 4) (h6 : ds.length ≤ 60) (h256 : ∀ b ∈ ds, b < 256) (w : World) (hr : Reads w a ds) :
    Calls Tryd.prog 14 #[Fr TX SQ AN RS KD a ds.length cap] w fun e w' => ∃ ao c, e = .returned (.slice ao (frmB (headN TX SQ AN RS KD) ds).length c) ∧ Reads w' ao (frmB (headN TX SQ AN RS KD) ds) ∧ Below w.heap.size w w' := by
  have hr3 : isFrm TX SQ AN RS KD ds.length = true := isFrm_iff.2 (by omega)
  have hNl := headN_lt TX SQ AN RS KD h1 h2 h3 h4 h5
  have hN : ((((TX : Int) * 4096 + SQ) * 8 + AN) * 128 + RS) * 4 + KD = ((headN TX SQ AN RS KD : Nat) : Int) := by unfold headN; omega
  generalize headN TX SQ AN RS KD = N at hNl hN ⊢
  obtain ⟨FB, hFB⟩ : ∃ F, F = frmB N ds := ⟨_, rfl⟩
  rw [← hFB]
  have HFB := Hid.intro hFB
  clear hFB
  have HR := Hid.intro hr
  have H256 := Hid.intro h256
  have HNO := Hid.intro hn
  clear hr h256 hn
  have B1 := (Below.refl _ w).alloc (Nat.le_refl _) (.cells #[.int .i64 TX, .int .i64 SQ, .int .i64 AN, .int .i64 RS, .int .i64 KD, .slice a ds.length cap] 24)
  have hB := Hid.intro B1
  have hb1 := heap_alloc_new w (.cells #[.int .i64 TX, .int .i64 SQ, .int .i64 AN, .int .i64 RS, .int .i64 KD, .slice a ds.length cap] 24)
  have HB1 := Hid.intro hb1
  clear B1 hb1
  obtain ⟨i, hi, hz0, hz1, hz2⟩ := info_parts info_u8
  go_enter Tryd.func14, Tryd.ntmps14
  go_wp2_with fail
  refine (refRight_any TX SQ AN RS KD a ds.length cap _).mono ?_
  rintro e w2 ⟨rfl, B2⟩
  rw [hr3]
  have B2w := hB.out.trans (B2.mono hB.out.size)
  have hbox : w2.heap[w.heap.size]? = some (.cells #[.int .i64 TX, .int .i64 SQ, .int .i64 AN, .int .i64 RS, .int .i64 KD, .slice a ds.length cap] 24 (0, 0)) := by
    rw [B2.block _ (by rw [World.size_alloc]; omega)]; exact HB1.out
  have c0 : w2.cell? ⟨w.heap.size, 0, none⟩ = some (.int .i64 TX) := by rw [cell_of_row _ _ _ _ _ _ hbox]; rfl
  have c1 : w2.cell? ⟨w.heap.size, 1, none⟩ = some (.int .i64 SQ) := by rw [cell_of_row _ _ _ _ _ _ hbox]; rfl
  have c2 : w2.cell? ⟨w.heap.size, 2, none⟩ = some (.int .i64 AN) := by rw [cell_of_row _ _ _ _ _ _ hbox]; rfl
  have c3 : w2.cell? ⟨w.heap.size, 3, none⟩ = some (.int .i64 RS) := by rw [cell_of_row _ _ _ _ _ _ hbox]; rfl
  have c4 : w2.cell? ⟨w.heap.size, 4, none⟩ = some (.int .i64 KD) := by rw [cell_of_row _ _ _ _ _ _ hbox]; rfl
  have c5 : w2.cell? ⟨w.heap.size, 5, none⟩ = some (.slice a ds.length cap) := by rw [cell_of_row _ _ _ _ _ _ hbox]; rfl
  have c51 : (w.alloc (.cells #[.int .i64 TX, .int .i64 SQ, .int .i64 AN, .int .i64 RS, .int .i64 KD, .slice a ds.length cap] 24)).cell? ⟨w.heap.size, 5, none⟩ = some (.slice a ds.length cap) := by rw [cell_of_row _ _ _ _ _ _ HB1.out]; rfl
  have hBw := hB.out
  generalize w.alloc (.cells #[.int .i64 TX, .int .i64 SQ, .int .i64 AN, .int .i64 RS, .int .i64 KD, .slice a ds.length cap] 24) = W1 at B2 c51 hBw
  have C51 := Hid.intro c51
  have HBW := Hid.intro hBw
  have HB2 := Hid.intro B2
  clear B2 hB HB1 hbox hr3 c51 hBw
  generalize hbe : w.heap.size = b at c0 c1 c2 c3 c4 c5 C51 ⊢
  have HBE := Hid.intro hbe
  clear hbe
  go_wp2_with fail
  go_region_held3 (fun w' => w'.cell? ⟨b, 5, none⟩ = some (.slice a ds.length cap))
    (first | go_keep | exact ((afterA B5 hg5 hgrow hat).1.cell (cell_lt c5)).trans c5 | exact ((afterB B5 hg5 hgrow hat).1.cell (cell_lt c5)).trans c5 | exact (B5.cell (cell_lt (w := w2.drew) c5)).trans c5 | exact (B5.cell (Nat.lt_of_lt_of_le (cell_lt c5) (show w2.heap.size ≤ (w2.alloc _).heap.size by rw [World.size_alloc]; omega))).trans (by go_keep))
    ((first
      | (go_at_call 25; refine (refNumber_yes N 4 (by decide) _).mono ?_; rintro e w5 ⟨g5, rfl, hg5, R5, B5⟩)
      | (refine step_append_lies _ rfl _ _ 22 rfl 0 5 i (.int .u8 0) 1 1 Tryd.underlying22 hi hz0 hz1 hz2 rfl (by decide) _ 4 ((numB (low64 N) 4).map U) rfl (R5.alloc _) ⟨w5.heap.size, 0, none⟩ 1 1 [.int .u8 (IntKind.u8.wrap ds.length)] rfl rfl (World.news_of_block (cs := #[.int .u8 (IntKind.u8.wrap ds.length)]) (heap_alloc_new w5 _)) (by simp [Value.oneCell']) (by decide) (by unfold maxLen; omega) (by omega) (Nat.zero_le _) (w5.heap.size + 1) (by simp) ?_; intro g7 c7 w7 hown hgrow hat hlt)
      | (refine step_append_lies _ rfl _ _ 22 rfl 0 5 i (.int .u8 0) 1 1 Tryd.underlying22 hi hz0 hz1 hz2 rfl (by decide) _ 4 ((numB (low64 N) 4).map U) rfl R5 ⟨w2.heap.size, 0, none⟩ 1 1 [.int .u8 (IntKind.u8.wrap ds.length)] rfl rfl (World.news_of_block (cs := #[.int .u8 (IntKind.u8.wrap ds.length)]) (t := 5) (fr := (0, 0)) ((B5.block _ (by simp)).trans (heap_alloc_new w2.drew _))) (by simp [Value.oneCell']) (by decide) (by unfold maxLen; omega) (by omega) (Nat.zero_le _) w5.heap.size rfl ?_; intro g7 c7 w7 hown hgrow hat hlt)))
  all_goals
    obtain ⟨B7, hg7⟩ : Below w2.heap.size w2 w7 ∧ w2.heap.size ≤ g7 := by first | exact afterA B5 hg5 hgrow hat | exact afterB B5 hg5 hgrow hat
    have R7 : w7.ownsRow 0 5 1 (.slice (some ⟨g7, 0, none⟩) 5 c7) 5 ((numB N 4 ++ [ds.length]).map U) := by
      have e1 : low64 (N : Int) = N := by have := low64_eq (N : Int); rw [IntKind.wrap_u64] at this; omega
      have e2 : IntKind.u8.wrap (ds.length : Int) = ds.length := IntWalk.u8_in _ (by omega)
      rw [e1, e2] at hown
      rw [List.map_append]
      exact hown
    have D7 := HB2.out.trans (B7.mono HB2.out.size)
    have hg7w : W1.heap.size ≤ g7 := by have := HB2.out.size; omega
    have c57 : w7.cell? ⟨b, 5, none⟩ = some (.slice a ds.length cap) := (D7.cell (cell_lt C51.out)).trans C51.out
    clear hown hgrow hat hlt B5 R5 hg5 B7 hg7 c0 c1 c2 c3 c4 c5 B2w
    have l5 : (numB N 4 ++ [ds.length]).length = 5 := by rw [List.length_append, numB_length]; rfl
    have hb5 : ∀ x ∈ numB N 4 ++ [ds.length], x < 256 := by
      intro x hx
      rcases List.mem_append.1 hx with h | h
      · exact numB_byte _ _ x h
      · simp at h; omega
    have hfr : FB = (numB N 4 ++ [ds.length]) ++ numB (crc16 (numB N 4 ++ [ds.length])) 2 ++ ds ++ numB (crc32 ((numB N 4 ++ [ds.length]) ++ numB (crc16 (numB N 4 ++ [ds.length])) 2 ++ ds)) 4 := HFB.out
    generalize numB N 4 ++ [ds.length] = p5 at R7 l5 hb5 hfr
    have hC := crc16_lt p5
    have S8 := refShort_any (some ⟨g7, 0, none⟩) c7 p5 (by omega) hb5 w7 (fun _ => ⟨_, rfl, fun j u hu => by
      have hj := (List.getElem?_eq_some_iff.1 hu).1
      rw [List.length_map] at hj
      rw [WideShapes.add_plain, Nat.zero_add, R7.cellAt j (by omega)]; exact hu⟩)
    rw [l5] at S8
    have S8H := Hid.intro S8
    have HFR := Hid.intro hfr
    clear HFB
    have HB5 := Hid.intro hb5
    clear S8 hfr hb5
    generalize crc16 p5 = C at hC S8H HFR
    go_wp2_with fail
    refine S8H.out.mono ?_
    rintro e w8 ⟨rfl, B8⟩
    have D8 := D7.trans (B8.mono D7.size)
    have R8 := ownsRow_keep (w' := w8) R7 (fun j hj => B8.block j (World.ownsRow.lt R7 j hj).2)
    clear S8H B8 R7 D7 c57
    go_wp2_with fail
    refine (refNumber_yes C 2 (by decide) w8).mono ?_
    rintro e w9 ⟨g9, rfl, _, R9, B9⟩
    have D9 := D8.trans (B9.mono D8.size)
    have RP9 := ownsRow_keep (w' := w9) R8 (fun j hj => B9.block j (World.ownsRow.lt R8 j hj).2)
    have e1 : low64 (C : Int) = C := by have := low64_eq (C : Int); rw [IntKind.wrap_u64] at this; omega
    rw [e1] at R9
    clear B9 D8 R8 e1
    have lm := numB_length C 2
    have hbm := Hid.intro (numB_byte C 2)
    generalize numB C 2 = ms at R9 lm hbm HFR
    have r9 : Reads w9 (some ⟨g9, 0, none⟩) ms := fun _ => ⟨_, rfl, fun j u hu => by
      have hj := (List.getElem?_eq_some_iff.1 hu).1
      rw [List.length_map] at hj
      rw [WideShapes.add_plain, Nat.zero_add, R9.cellAt j (by omega)]; exact hu⟩
    have r9H := Hid.intro r9
    have RP9H : Hid (w9.ownsRow 0 5 1 (.slice (some ⟨g7, 0, none⟩) 5 c7) p5.length (p5.map U)) := by
      rw [l5]; exact RP9
    clear R9 r9 RP9
    go_wp2_with (at_builtin; refine append_bytes rfl _ _ rfl _ p5 rfl RP9H.out (some ⟨g9, 0, none⟩) 2 2 ms lm.symm rfl r9H.out (fun e => by cases e) (by omega) ?_)
    intro v10 w10 hown hgrow hat
    obtain ⟨D10, N10⟩ := grown_step hgrow hat D9 (Nat.le_refl _) (fun k hk => by
      have e : g7 = k := by simpa [Value.ownBlock] using hk
      omega)
    have hown10 : w10.ownsRow 0 5 1 v10 (p5 ++ ms).length ((p5 ++ ms).map U) := by
      rw [List.length_append, l5, lm, List.map_append]; exact hown
    have l7 : (p5 ++ ms).length = 7 := by rw [List.length_append, l5, lm]
    have hb7 : ∀ x ∈ p5 ++ ms, x < 256 := by
      intro x hx
      rcases List.mem_append.1 hx with h | h
      · exact HB5.out x h
      · exact hbm.out x h
    clear hown hgrow hat D9 r9H RP9H
    generalize p5 ++ ms = p7 at hown10 l7 hb7 HFR
    obtain ⟨g10, c10, rfl, _, _⟩ := hown10.form (by omega)
    rw [l7] at hown10
    have c510 : w10.cell? ⟨b, 5, none⟩ = some (.slice a ds.length cap) := (D10.cell (cell_lt C51.out)).trans C51.out
    have DR10 := HBW.out.trans (D10.mono HBW.out.size)
    have hr10 := Hid.intro (HR.out.below DR10)
    have R10H : Hid (w10.ownsRow 0 5 1 (.slice (some ⟨g10, 0, none⟩) 7 c10) p7.length (p7.map U)) := by
      rw [l7]; exact hown10
    have N10H := Hid.intro N10
    have HB7 := Hid.intro hb7
    clear hown10 N10 hb7 HB5 hbm DR10
    rw [l7]
    go_wp2_with (at_builtin; refine append_bytes rfl _ _ rfl _ p7 rfl R10H.out a ds.length cap ds rfl rfl hr10.out HNO.out (by omega) ?_)
    intro v11 w11 hown hgrow hat
    obtain ⟨D11, N11⟩ := grown_step hgrow hat D10 (Nat.le_refl _) (fun k hk => N10H.out k (by rw [← hk]; rfl))
    have hown11 : w11.ownsRow 0 5 1 v11 (p7 ++ ds).length ((p7 ++ ds).map U) := by
      rw [List.length_append, l7, List.map_append]; exact hown
    have lp : (p7 ++ ds).length = 7 + ds.length := by rw [List.length_append, l7]
    have hbp : ∀ x ∈ p7 ++ ds, x < 256 := by
      intro x hx
      rcases List.mem_append.1 hx with h | h
      · exact HB7.out x h
      · exact H256.out x h
    clear hown hgrow hat D10 R10H N10H hr10 c510
    generalize p7 ++ ds = p at hown11 lp hbp HFR
    have lp1 : p.length ≤ 67 := by omega
    have lp0 : 0 < p.length := by omega
    clear lp
    obtain ⟨g11, c11, rfl, _, _⟩ := hown11.form (by omega)
    have hcap := ownsRow_cap hown11
    have hL := crc32_lt p
    have S12 := refLong_any (some ⟨g11, 0, none⟩) c11 p (by omega) hcap.1 hcap.2 hbp w11 (fun _ => ⟨_, rfl, fun j u hu => by
      have hj := (List.getElem?_eq_some_iff.1 hu).1
      rw [List.length_map] at hj
      rw [WideShapes.add_plain, Nat.zero_add, hown11.cellAt j (by omega)]; exact hu⟩)
    have S12H := Hid.intro S12
    have N11H := Hid.intro N11
    have R11H := Hid.intro hown11
    clear S12 hcap hbp N11 hown11 HB7
    generalize crc32 p = L at hL S12H HFR
    go_wp2_with fail
    refine S12H.out.mono ?_
    rintro e w12 ⟨rfl, B12⟩
    have D12 := D11.trans (B12.mono D11.size)
    have R12H := Hid.intro (ownsRow_keep (w' := w12) R11H.out (fun j hj => B12.block j (World.ownsRow.lt R11H.out j hj).2))
    clear S12H B12 D11 R11H
    go_wp2_with fail
    refine (refNumber_yes L 4 (by decide) w12).mono ?_
    rintro e w13 ⟨g13, rfl, _, R13, B13⟩
    have D13 := D12.trans (B13.mono D12.size)
    have RP13H := Hid.intro (ownsRow_keep (w' := w13) R12H.out (fun j hj => B13.block j (World.ownsRow.lt R12H.out j hj).2))
    have e1 : low64 (L : Int) = L := by have := low64_eq (L : Int); rw [IntKind.wrap_u64] at this; omega
    rw [e1] at R13
    clear B13 D12 R12H e1
    have lq := numB_length L 4
    generalize numB L 4 = qs at R13 lq HFR
    have r13 : Reads w13 (some ⟨g13, 0, none⟩) qs := fun _ => ⟨_, rfl, fun j u hu => by
      have hj := (List.getElem?_eq_some_iff.1 hu).1
      rw [List.length_map] at hj
      rw [WideShapes.add_plain, Nat.zero_add, R13.cellAt j (by omega)]; exact hu⟩
    have r13H := Hid.intro r13
    clear R13 r13
    go_wp2_with (at_builtin; refine append_bytes rfl _ _ rfl _ p rfl RP13H.out (some ⟨g13, 0, none⟩) 4 4 qs lq.symm rfl r13H.out (fun e => by cases e) (by omega) ?_)
    intro v14 w14 hown hgrow hat
    obtain ⟨D14, _⟩ := grown_step hgrow hat D13 (Nat.le_refl _) (fun k hk => N11H.out k hk)
    have hown14 : w14.ownsRow 0 5 1 v14 (p ++ qs).length ((p ++ qs).map U) := by
      rw [List.length_append, lq, List.map_append]; exact hown
    rw [← HFR.out] at hown14
    obtain ⟨ao, c14, hv, hr14, _⟩ := row_of_owns hown14
    subst hv
    have DW := HBW.out.trans (D14.mono HBW.out.size)
    clear hown hgrow hat D13 RP13H r13H hown14 D14 N11H
    have hr14H := Hid.intro hr14
    clear hr14
    go_wp2
    go_ret
    exact ⟨ao, c14, rfl, hr14H.out, DW⟩

theorem refPut_any (tx sq an rs kd : Int) (a : Option Addr) (cap : Nat) (ds : List Nat) (hn : a = none → cap = 0) (h256 : ∀ b ∈ ds, b < 256) (w : World) (hr : Reads w a ds) :
    Calls Tryd.prog 14 #[Fr tx sq an rs kd a ds.length cap] w fun e w' => ∃ ao c, e = .returned (.slice ao (putF tx sq an rs kd ds).length c) ∧ Reads w' ao (putF tx sq an rs kd ds) ∧ Below w.heap.size w w' := by
  unfold putF
  by_cases h : isFrm tx sq an rs kd ds.length = true
  · rw [if_pos h]
    have hb := isFrm_iff.1 h
    obtain ⟨TX, rfl⟩ := Int.eq_ofNat_of_zero_le hb.1.1
    obtain ⟨SQ, rfl⟩ := Int.eq_ofNat_of_zero_le hb.2.1.1
    obtain ⟨AN, rfl⟩ := Int.eq_ofNat_of_zero_le hb.2.2.1.1
    obtain ⟨RS, rfl⟩ := Int.eq_ofNat_of_zero_le hb.2.2.2.1.1
    obtain ⟨KD, rfl⟩ := Int.eq_ofNat_of_zero_le hb.2.2.2.2.1.1
    exact refPut_yes TX SQ AN RS KD a cap ds hn (by omega) (by omega) (by omega) (by omega) (by omega) (by omega) h256 w hr
  · rw [if_neg h]
    refine (refPut_no tx sq an rs kd a ds.length cap (by simpa using h) w).mono ?_
    rintro e w' ⟨rfl, B⟩
    exact ⟨none, 0, rfl, fun h => absurd h (by simp), B⟩

end Go.Proofs.YtaieohnppeapfaaDoor
