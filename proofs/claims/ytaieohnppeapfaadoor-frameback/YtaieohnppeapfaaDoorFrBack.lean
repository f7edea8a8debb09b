/- FrameBack (layer 3): of every frame and all bytes, in whatever memory: what is put is parsed again, and what is parsed and put is what it was; the table of widths as the program's text lays it. -/
import Derived.Test.YtaieohnppeapfaaDoorFrmAlive
import Derived.Test.YtaieohnppeapfaaDoorFrmLaid
import Derived.Test.YtaieohnppeapfaaDoorFrameArg
import Derived.Test.YtaieohnppeapfaaDoorRefSameB
import Derived.Test.YtaieohnppeapfaaDoorFrmPut
namespace Go.Proofs.YtaieohnppeapfaaDoor.LFrameBack
open Go.ChangeShapes Go.WideShapes Go.ChangeAt Go.RowKit
open Bt

set_option maxRecDepth 100000 in
set_option maxHeartbeats 4000000 in
theorem walk (tx sq an rs kd : Int) (a : Option Addr) (len cap : Nat) (zs : List Int) (a' : Option Addr) (len' cap' : Nat) (zs' : List Int) (W : World)
    (w0 : (Lit.int .i64 tx).wf = true ∧ (Lit.int .i64 sq).wf = true ∧ (Lit.int .i64 an).wf = true ∧ (Lit.int .i64 rs).wf = true ∧ (Lit.int .i64 kd).wf = true ∧ IsRow .u8 W a len cap zs) (w1 : IsRow .u8 W a' len' cap' zs') (hw : Wid W) :
    Calls Tryd.prog 5 #[Fr tx sq an rs kd a len cap, .slice a' len' cap'] W fun e W' => e = .returned (.bool true) ∧ Below W.heap.size W W' := by
  obtain ⟨_, _, _, _, _, h⟩ := w0
  obtain ⟨ds, rfl, h256, hr⟩ := h.bytes
  have hn := Hid.intro h.none_cap
  clear h
  have hcap' : len' ≤ cap' ∧ cap' ≤ 9223372036854775807 := ⟨w1.le_cap, w1.cap_le⟩
  obtain ⟨bs, rfl, h256', hr'⟩ := w1.bytes
  clear w1
  have HR := Hid.intro hr
  have H256 := Hid.intro h256
  have HR' := Hid.intro hr'
  have H256' := Hid.intro h256'
  have BX := (Below.refl _ W).alloc (Nat.le_refl _) (.cells #[.int .i64 tx, .int .i64 sq, .int .i64 an, .int .i64 rs, .int .i64 kd, .slice a ds.length cap] 24)
  have hX := heap_alloc_new W (.cells #[.int .i64 tx, .int .i64 sq, .int .i64 an, .int .i64 rs, .int .i64 kd, .slice a ds.length cap] 24)
  have HW := Hid.intro hw
  clear hr h256 hr' h256' hw
  go_enter Tryd.func5, Tryd.ntmps5
  go_wp2_with fail
  generalize W.alloc (.cells #[.int .i64 tx, .int .i64 sq, .int .i64 an, .int .i64 rs, .int .i64 kd, .slice a ds.length cap] 24) = X at BX hX ⊢
  generalize W.heap.size = bx at hX ⊢
  refine (alive_any X (HW.out.below BX)).mono ?_
  rintro e w1 ⟨rfl, B1⟩
  have D1 := BX.trans (B1.mono BX.size)
  have x1 := (B1.block bx (lt_of_heap hX)).trans hX
  have k5 : w1.cell? ⟨bx, 5, none⟩ = some (.slice a ds.length cap) := by rw [cell_of_row _ _ _ _ _ _ x1]; rfl
  have HX1 := Hid.intro x1
  have HD1 := Hid.intro D1
  clear BX hX B1 D1 x1
  by_cases h300 : 300 < ds.length
  · have j : (300 : Int) < (ds.length : Int) := by omega
    go_wp2
    go_ret
    exact ⟨rfl, HD1.out⟩
  have j1 : decide ((300 : Int) < (ds.length : Int)) = false := by simp; omega
  by_cases h300' : 300 < bs.length
  · have j : (300 : Int) < (bs.length : Int) := by omega
    go_wp2
    go_ret
    exact ⟨rfl, HD1.out⟩
  have j2 : decide ((300 : Int) < (bs.length : Int)) = false := by simp; omega
  have SR := Hid.intro (right_any tx sq an rs kd a ds.length cap w1 (HW.out.below HD1.out))
  go_wp2_with (refine wpList_load_row rfl 24 (.tmp 2) rfl bx rfl 24 #[.int .i64 tx, .int .i64 sq, .int .i64 an, .int .i64 rs, .int .i64 kd, .slice a ds.length cap] (0, 0) _ HX1.out Tryd.underlying24 rfl (by kernel_rfl) ?_)
  refine SR.out.mono ?_
  rintro e w2 ⟨rfl, B2⟩
  have D2 := HD1.out.trans (B2.mono HD1.out.size)
  have HX2 := Hid.intro ((B2.block bx (lt_of_heap HX1.out)).trans HX1.out)
  have HD2 := Hid.intro D2
  clear SR B2 D2 HX1 HD1 k5 j1 j2
  cases hb : isFrm tx sq an rs kd ds.length with
  | false =>
    clear hb
    have HDW := HD2
    generalize w2 = WW at HDW ⊢
    clear HX2 HD2
    have SP := Hid.intro (parse_any a' cap' bs (by omega) hcap'.1 hcap'.2 H256'.out WW (HW.out.below HDW.out) (HR'.out.below HDW.out))
    go_wp2_with fail
    refine SP.out.mono ?_
    rintro e w8 ⟨B8, h⟩
    have D8 := HDW.out.trans (B8.mono HDW.out.size)
    clear SP
    rcases h with ⟨hE, rfl⟩ | ⟨hE, a8, c8, rfl, r8, n8, hc8, _⟩
    · have hne : (((parseE bs : Nat) : Int) != 0) = true := by rw [bne_iff_ne]; omega
      generalize parseE bs = E at hne
      have HDA := Hid.intro (D8.alloc D8.size (.cells ZC 24))
      clear hE B8 D8
      go_wp2
      go_ret
      exact ⟨rfl, HDA.out⟩
    · have hpp := parse_put H256'.out hE
      have hDB : ∀ x ∈ (bs.drop 7).take (bs.getD 4 0), x < 256 := mem_take' (mem_drop' H256'.out 7) _
      generalize (bs.drop 7).take (bs.getD 4 0) = DS at hpp hDB r8 hc8 ⊢
      generalize ((readB (bs.take 4) / 16777216 : Nat) : Int) = T0 at hpp ⊢
      generalize ((readB (bs.take 4) / 4096 % 4096 : Nat) : Int) = T1 at hpp ⊢
      generalize ((readB (bs.take 4) / 512 % 8 : Nat) : Int) = T2 at hpp ⊢
      generalize ((readB (bs.take 4) / 4 % 128 : Nat) : Int) = T3 at hpp ⊢
      generalize ((readB (bs.take 4) % 4 : Nat) : Int) = T4 at hpp ⊢
      have Bx := (Below.refl _ w8).alloc (Nat.le_refl _) (.cells #[.int .i64 T0, .int .i64 T1, .int .i64 T2, .int .i64 T3, .int .i64 T4, .slice a8 DS.length c8] 24)
      have x9 := heap_alloc_new w8 (.cells #[.int .i64 T0, .int .i64 T1, .int .i64 T2, .int .i64 T3, .int .i64 T4, .slice a8 DS.length c8] 24)
      have D9 := D8.trans (Bx.mono D8.size)
      have SQ := put_frame T0 T1 T2 T3 T4 a8 c8 DS n8 hDB (w8.alloc (.cells #[.int .i64 T0, .int .i64 T1, .int .i64 T2, .int .i64 T3, .int .i64 T4, .slice a8 DS.length c8] 24)) (HW.out.below D9) (r8.below Bx)
      rw [hpp] at SQ
      have HSQ := Hid.intro SQ
      have HD9 := Hid.intro D9
      have k0 : (w8.alloc (.cells #[.int .i64 T0, .int .i64 T1, .int .i64 T2, .int .i64 T3, .int .i64 T4, .slice a8 DS.length c8] 24)).cell? ⟨w8.heap.size, 0, none⟩ = some (.int .i64 T0) := by rw [cell_of_row _ _ _ _ _ _ x9]; rfl
      have k1 : (w8.alloc (.cells #[.int .i64 T0, .int .i64 T1, .int .i64 T2, .int .i64 T3, .int .i64 T4, .slice a8 DS.length c8] 24)).cell? ⟨w8.heap.size, 1, none⟩ = some (.int .i64 T1) := by rw [cell_of_row _ _ _ _ _ _ x9]; rfl
      have k2 : (w8.alloc (.cells #[.int .i64 T0, .int .i64 T1, .int .i64 T2, .int .i64 T3, .int .i64 T4, .slice a8 DS.length c8] 24)).cell? ⟨w8.heap.size, 2, none⟩ = some (.int .i64 T2) := by rw [cell_of_row _ _ _ _ _ _ x9]; rfl
      have k3 : (w8.alloc (.cells #[.int .i64 T0, .int .i64 T1, .int .i64 T2, .int .i64 T3, .int .i64 T4, .slice a8 DS.length c8] 24)).cell? ⟨w8.heap.size, 3, none⟩ = some (.int .i64 T3) := by rw [cell_of_row _ _ _ _ _ _ x9]; rfl
      have k4 : (w8.alloc (.cells #[.int .i64 T0, .int .i64 T1, .int .i64 T2, .int .i64 T3, .int .i64 T4, .slice a8 DS.length c8] 24)).cell? ⟨w8.heap.size, 4, none⟩ = some (.int .i64 T4) := by rw [cell_of_row _ _ _ _ _ _ x9]; rfl
      have k5 : (w8.alloc (.cells #[.int .i64 T0, .int .i64 T1, .int .i64 T2, .int .i64 T3, .int .i64 T4, .slice a8 DS.length c8] 24)).cell? ⟨w8.heap.size, 5, none⟩ = some (.slice a8 DS.length c8) := by rw [cell_of_row _ _ _ _ _ _ x9]; rfl
      clear hE B8 D8 Bx D9 SQ hpp hDB r8 n8 hc8 x9
      go_wp2_with fail
      generalize w8.alloc (.cells #[.int .i64 T0, .int .i64 T1, .int .i64 T2, .int .i64 T3, .int .i64 T4, .slice a8 DS.length c8] 24) = X9 at HSQ HD9 k0 k1 k2 k3 k4 k5 ⊢
      generalize w8.heap.size = b9 at k0 k1 k2 k3 k4 k5 ⊢
      clear k0 k1 k2 k3 k4 k5
      refine HSQ.out.mono ?_
      rintro e w10 ⟨a10, c10, rfl, r10, _, _, _, B10⟩
      have HD10 := Hid.intro (HD9.out.trans (B10.mono HD9.out.size))
      have SS := same_any a10 a' c10 cap' bs bs (by omega) w10 r10 (HR'.out.below HD10.out)
      rw [show decide (bs = bs) = true from by simp] at SS
      have HSS := Hid.intro SS
      clear SS B10 r10 HSQ HD9
      go_wp2_with fail
      refine HSS.out.mono ?_
      rintro e w11 ⟨rfl, n11, rfl⟩
      clear HSS
      go_wp2
      go_ret
      exact ⟨rfl, below_drewN HD10.out n11⟩
  | true =>
    have SP := Hid.intro (put_frame tx sq an rs kd a cap ds hn.out H256.out w2 (HW.out.below HD2.out) (HR.out.below HD2.out))
    obtain ⟨p0, f0, f1, f2, f3, f4, f5⟩ := put_fields hb
    have hl := putF_len hb
    have hFb : ∀ x ∈ putF tx sq an rs kd ds, x < 256 := putF_byte H256.out
    have HPA : Hid (∀ (ao : Option Addr) (c : Nat) (w : World), (putF tx sq an rs kd ds).length ≤ c → c ≤ 9223372036854775807 → Wid w → Reads w ao (putF tx sq an rs kd ds) →
        Calls Tryd.prog 17 #[.slice ao (putF tx sq an rs kd ds).length c] w fun e w' => ∃ a4 c4, e = .returned (.tuple #[Fr tx sq an rs kd a4 ds.length c4, .int .i64 0]) ∧ Reads w' a4 ds ∧ Below w.heap.size w w') := by
      intro ao c w g1 g2 g3 g4
      refine (parse_any ao c _ (by omega) g1 g2 hFb w g3 g4).mono ?_
      rintro e w' ⟨B, h⟩
      rcases h with ⟨h, _⟩ | ⟨_, a1, c1, rfl, h2, _⟩
      · exact absurd p0 h
      · rw [f5] at h2
        exact ⟨a1, c1, by rw [f0, f1, f2, f3, f4, f5], h2, B⟩
    clear hb p0 f0 f1 f2 f3 f4 f5 hFb
    generalize putF tx sq an rs kd ds = F at SP HPA hl
    go_wp2_with (refine wpList_load_row rfl 24 (.tmp 2) rfl bx rfl 24 #[.int .i64 tx, .int .i64 sq, .int .i64 an, .int .i64 rs, .int .i64 kd, .slice a ds.length cap] (0, 0) _ HX2.out Tryd.underlying24 rfl (by kernel_rfl) ?_)
    refine SP.out.mono ?_
    rintro e w3 ⟨a3, c3, rfl, r3, _, hc3, _, B3⟩
    have HX3 := Hid.intro ((B3.block bx (lt_of_heap HX2.out)).trans HX2.out)
    have HD3 := Hid.intro (HD2.out.trans (B3.mono HD2.out.size))
    have HSP := Hid.intro (HPA.out a3 c3 w3 hc3.1 hc3.2 (HW.out.below HD3.out) r3)
    clear SP B3 r3 hc3 HX2 HD2 HPA
    go_wp2_with fail
    refine HSP.out.mono ?_
    rintro e w4 ⟨a4, c4, rfl, r4, B4⟩
    have D4 := HD3.out.trans (B4.mono HD3.out.size)
    have Bx := (Below.refl _ w4).alloc (Nat.le_refl _) (.cells #[.int .i64 tx, .int .i64 sq, .int .i64 an, .int .i64 rs, .int .i64 kd, .slice a4 ds.length c4] 24)
    have x5 := (Bx.block bx (Nat.lt_of_lt_of_le (lt_of_heap HX3.out) B4.size)).trans ((B4.block bx (lt_of_heap HX3.out)).trans HX3.out)
    have y5 := heap_alloc_new w4 (.cells #[.int .i64 tx, .int .i64 sq, .int .i64 an, .int .i64 rs, .int .i64 kd, .slice a4 ds.length c4] 24)
    have D5 := D4.trans (Bx.mono D4.size)
    have SS := fsame_any tx sq an rs kd tx sq an rs kd a a4 cap c4 ds ds H256.out H256.out (w4.alloc (.cells #[.int .i64 tx, .int .i64 sq, .int .i64 an, .int .i64 rs, .int .i64 kd, .slice a4 ds.length c4] 24)) (HR.out.below D5) (r4.below Bx)
    rw [show sameFrm tx sq an rs kd ds tx sq an rs kd ds = true from by simp [sameFrm]] at SS
    have HSS := Hid.intro SS
    have HD5 := Hid.intro D5
    have k0 : (w4.alloc (.cells #[.int .i64 tx, .int .i64 sq, .int .i64 an, .int .i64 rs, .int .i64 kd, .slice a4 ds.length c4] 24)).cell? ⟨bx, 0, none⟩ = some (.int .i64 tx) := by rw [cell_of_row _ _ _ _ _ _ x5]; rfl
    have k1 : (w4.alloc (.cells #[.int .i64 tx, .int .i64 sq, .int .i64 an, .int .i64 rs, .int .i64 kd, .slice a4 ds.length c4] 24)).cell? ⟨bx, 1, none⟩ = some (.int .i64 sq) := by rw [cell_of_row _ _ _ _ _ _ x5]; rfl
    have k2 : (w4.alloc (.cells #[.int .i64 tx, .int .i64 sq, .int .i64 an, .int .i64 rs, .int .i64 kd, .slice a4 ds.length c4] 24)).cell? ⟨bx, 2, none⟩ = some (.int .i64 an) := by rw [cell_of_row _ _ _ _ _ _ x5]; rfl
    have k3 : (w4.alloc (.cells #[.int .i64 tx, .int .i64 sq, .int .i64 an, .int .i64 rs, .int .i64 kd, .slice a4 ds.length c4] 24)).cell? ⟨bx, 3, none⟩ = some (.int .i64 rs) := by rw [cell_of_row _ _ _ _ _ _ x5]; rfl
    have k4 : (w4.alloc (.cells #[.int .i64 tx, .int .i64 sq, .int .i64 an, .int .i64 rs, .int .i64 kd, .slice a4 ds.length c4] 24)).cell? ⟨bx, 4, none⟩ = some (.int .i64 kd) := by rw [cell_of_row _ _ _ _ _ _ x5]; rfl
    have k5 : (w4.alloc (.cells #[.int .i64 tx, .int .i64 sq, .int .i64 an, .int .i64 rs, .int .i64 kd, .slice a4 ds.length c4] 24)).cell? ⟨bx, 5, none⟩ = some (.slice a ds.length cap) := by rw [cell_of_row _ _ _ _ _ _ x5]; rfl
    have m0 : (w4.alloc (.cells #[.int .i64 tx, .int .i64 sq, .int .i64 an, .int .i64 rs, .int .i64 kd, .slice a4 ds.length c4] 24)).cell? ⟨w4.heap.size, 0, none⟩ = some (.int .i64 tx) := by rw [cell_of_row _ _ _ _ _ _ y5]; rfl
    have m1 : (w4.alloc (.cells #[.int .i64 tx, .int .i64 sq, .int .i64 an, .int .i64 rs, .int .i64 kd, .slice a4 ds.length c4] 24)).cell? ⟨w4.heap.size, 1, none⟩ = some (.int .i64 sq) := by rw [cell_of_row _ _ _ _ _ _ y5]; rfl
    have m2 : (w4.alloc (.cells #[.int .i64 tx, .int .i64 sq, .int .i64 an, .int .i64 rs, .int .i64 kd, .slice a4 ds.length c4] 24)).cell? ⟨w4.heap.size, 2, none⟩ = some (.int .i64 an) := by rw [cell_of_row _ _ _ _ _ _ y5]; rfl
    have m3 : (w4.alloc (.cells #[.int .i64 tx, .int .i64 sq, .int .i64 an, .int .i64 rs, .int .i64 kd, .slice a4 ds.length c4] 24)).cell? ⟨w4.heap.size, 3, none⟩ = some (.int .i64 rs) := by rw [cell_of_row _ _ _ _ _ _ y5]; rfl
    have m4 : (w4.alloc (.cells #[.int .i64 tx, .int .i64 sq, .int .i64 an, .int .i64 rs, .int .i64 kd, .slice a4 ds.length c4] 24)).cell? ⟨w4.heap.size, 4, none⟩ = some (.int .i64 kd) := by rw [cell_of_row _ _ _ _ _ _ y5]; rfl
    have m5 : (w4.alloc (.cells #[.int .i64 tx, .int .i64 sq, .int .i64 an, .int .i64 rs, .int .i64 kd, .slice a4 ds.length c4] 24)).cell? ⟨w4.heap.size, 5, none⟩ = some (.slice a4 ds.length c4) := by rw [cell_of_row _ _ _ _ _ _ y5]; rfl
    clear HSP B4 r4 Bx x5 y5 D4 D5 SS HX3 HD3
    go_wp2_with fail
    generalize w4.alloc (.cells #[.int .i64 tx, .int .i64 sq, .int .i64 an, .int .i64 rs, .int .i64 kd, .slice a4 ds.length c4] 24) = X5 at HSS HD5 k0 k1 k2 k3 k4 k5 m0 m1 m2 m3 m4 m5 ⊢
    generalize w4.heap.size = b5 at m0 m1 m2 m3 m4 m5 ⊢
    clear k0 k1 k2 k3 k4 k5 m0 m1 m2 m3 m4 m5
    refine HSS.out.mono ?_
    rintro e WW ⟨rfl, B6⟩
    have HDW := Hid.intro (HD5.out.trans (B6.mono HD5.out.size))
    clear HSS HD5 B6
    have SP := Hid.intro (parse_any a' cap' bs (by omega) hcap'.1 hcap'.2 H256'.out WW (HW.out.below HDW.out) (HR'.out.below HDW.out))
    go_wp2_with fail
    refine SP.out.mono ?_
    rintro e w8 ⟨B8, h⟩
    have D8 := HDW.out.trans (B8.mono HDW.out.size)
    clear SP
    rcases h with ⟨hE, rfl⟩ | ⟨hE, a8, c8, rfl, r8, n8, hc8, _⟩
    · have hne : (((parseE bs : Nat) : Int) != 0) = true := by rw [bne_iff_ne]; omega
      generalize parseE bs = E at hne
      have HDA := Hid.intro (D8.alloc D8.size (.cells ZC 24))
      clear hE B8 D8
      go_wp2
      go_ret
      exact ⟨rfl, HDA.out⟩
    · have hpp := parse_put H256'.out hE
      have hDB : ∀ x ∈ (bs.drop 7).take (bs.getD 4 0), x < 256 := mem_take' (mem_drop' H256'.out 7) _
      generalize (bs.drop 7).take (bs.getD 4 0) = DS at hpp hDB r8 hc8 ⊢
      generalize ((readB (bs.take 4) / 16777216 : Nat) : Int) = T0 at hpp ⊢
      generalize ((readB (bs.take 4) / 4096 % 4096 : Nat) : Int) = T1 at hpp ⊢
      generalize ((readB (bs.take 4) / 512 % 8 : Nat) : Int) = T2 at hpp ⊢
      generalize ((readB (bs.take 4) / 4 % 128 : Nat) : Int) = T3 at hpp ⊢
      generalize ((readB (bs.take 4) % 4 : Nat) : Int) = T4 at hpp ⊢
      have Bx := (Below.refl _ w8).alloc (Nat.le_refl _) (.cells #[.int .i64 T0, .int .i64 T1, .int .i64 T2, .int .i64 T3, .int .i64 T4, .slice a8 DS.length c8] 24)
      have x9 := heap_alloc_new w8 (.cells #[.int .i64 T0, .int .i64 T1, .int .i64 T2, .int .i64 T3, .int .i64 T4, .slice a8 DS.length c8] 24)
      have D9 := D8.trans (Bx.mono D8.size)
      have SQ := put_frame T0 T1 T2 T3 T4 a8 c8 DS n8 hDB (w8.alloc (.cells #[.int .i64 T0, .int .i64 T1, .int .i64 T2, .int .i64 T3, .int .i64 T4, .slice a8 DS.length c8] 24)) (HW.out.below D9) (r8.below Bx)
      rw [hpp] at SQ
      have HSQ := Hid.intro SQ
      have HD9 := Hid.intro D9
      have k0 : (w8.alloc (.cells #[.int .i64 T0, .int .i64 T1, .int .i64 T2, .int .i64 T3, .int .i64 T4, .slice a8 DS.length c8] 24)).cell? ⟨w8.heap.size, 0, none⟩ = some (.int .i64 T0) := by rw [cell_of_row _ _ _ _ _ _ x9]; rfl
      have k1 : (w8.alloc (.cells #[.int .i64 T0, .int .i64 T1, .int .i64 T2, .int .i64 T3, .int .i64 T4, .slice a8 DS.length c8] 24)).cell? ⟨w8.heap.size, 1, none⟩ = some (.int .i64 T1) := by rw [cell_of_row _ _ _ _ _ _ x9]; rfl
      have k2 : (w8.alloc (.cells #[.int .i64 T0, .int .i64 T1, .int .i64 T2, .int .i64 T3, .int .i64 T4, .slice a8 DS.length c8] 24)).cell? ⟨w8.heap.size, 2, none⟩ = some (.int .i64 T2) := by rw [cell_of_row _ _ _ _ _ _ x9]; rfl
      have k3 : (w8.alloc (.cells #[.int .i64 T0, .int .i64 T1, .int .i64 T2, .int .i64 T3, .int .i64 T4, .slice a8 DS.length c8] 24)).cell? ⟨w8.heap.size, 3, none⟩ = some (.int .i64 T3) := by rw [cell_of_row _ _ _ _ _ _ x9]; rfl
      have k4 : (w8.alloc (.cells #[.int .i64 T0, .int .i64 T1, .int .i64 T2, .int .i64 T3, .int .i64 T4, .slice a8 DS.length c8] 24)).cell? ⟨w8.heap.size, 4, none⟩ = some (.int .i64 T4) := by rw [cell_of_row _ _ _ _ _ _ x9]; rfl
      have k5 : (w8.alloc (.cells #[.int .i64 T0, .int .i64 T1, .int .i64 T2, .int .i64 T3, .int .i64 T4, .slice a8 DS.length c8] 24)).cell? ⟨w8.heap.size, 5, none⟩ = some (.slice a8 DS.length c8) := by rw [cell_of_row _ _ _ _ _ _ x9]; rfl
      clear hE B8 D8 Bx D9 SQ hpp hDB r8 n8 hc8 x9
      go_wp2_with fail
      generalize w8.alloc (.cells #[.int .i64 T0, .int .i64 T1, .int .i64 T2, .int .i64 T3, .int .i64 T4, .slice a8 DS.length c8] 24) = X9 at HSQ HD9 k0 k1 k2 k3 k4 k5 ⊢
      generalize w8.heap.size = b9 at k0 k1 k2 k3 k4 k5 ⊢
      clear k0 k1 k2 k3 k4 k5
      refine HSQ.out.mono ?_
      rintro e w10 ⟨a10, c10, rfl, r10, _, _, _, B10⟩
      have HD10 := Hid.intro (HD9.out.trans (B10.mono HD9.out.size))
      have SS := same_any a10 a' c10 cap' bs bs (by omega) w10 r10 (HR'.out.below HD10.out)
      rw [show decide (bs = bs) = true from by simp] at SS
      have HSS := Hid.intro SS
      clear SS B10 r10 HSQ HD9
      go_wp2_with fail
      refine HSS.out.mono ?_
      rintro e w11 ⟨rfl, n11, rfl⟩
      clear HSS
      go_wp2
      go_ret
      exact ⟨rfl, below_drewN HD10.out n11⟩

set_option maxRecDepth 100000 in
theorem lifted (os : Os) (started : os.Started) (H : Type) (enc : TypeId × Value → H) :
    ReturnsInHanded {} Tryd.checked os 5 .any (fun w args => (Rows.frameBackSpec.pre enc Tryd.prog Tryd.f5 [] false w args ∧ laidMetH Tryd.prog LW w) ∧ sizedMet enc Tryd.prog Tryd.f5 (OpenSpec.ofChange Rows.frameBackSpec) false w args) (Rows.frameBackSpec.post enc Tryd.prog Tryd.f5 false true false false) := by
  refine returnsInHanded_of_change_and (C := Tryd.checked) (X := fun w _ => laidMetH Tryd.prog LW w) (fun _ _ _ hh h => h.of_heap hh) own started (by kernel_rfl) Tryd.func5
    (ChangeSpec.witness_shaped (enc := enc) (C := Tryd.checked) (os := os) (X := fun w _ => laidMetH Tryd.prog LW w) false (World.doorLaid Tryd.prog 400 os) #[.agg #[.int .i64 0, .int .i64 0, .int .i64 0, .int .i64 0, .int .i64 0, .slice none 0 0], .slice none 0 0] 8 rfl (World.shaped_of_RefB (by kernel_rfl) (by kernel_rfl)) (by kernel_rfl) (by kernel_rfl) (by kernel_rfl) (door_met os _)) ?_
  intro W base args ds gs before hval0 hW _ _ hL _
  have hval : ∀ (j : Nat) t v, Tryd.f5.params[j]? = some t → args[j]? = some v → Value.okWide Tryd.prog W .any base t v := hval0
  have hW' := hW
  obtain ⟨p, q, hA0, hV, rfl, hfz, hnd⟩ := hW
  have hA : DataW.TrodAll enc Tryd.prog W 0 (fun _ => true) true Tryd.f5.params.toList args.toList ds p := hA0
  rw [Tryd.params5] at hA hval
  obtain ⟨v0, vs0, d0, ds0, p0, q0, hargs, rfl, rfl, h0, r0⟩ := trodAll_cons hA
  obtain ⟨v1, vs1, d1, ds1, p1, q1, rfl, rfl, rfl, h1, r1⟩ := trodAll_cons r0
  obtain ⟨rfl, rfl, rfl⟩ := trodAll_nil r1
  obtain rfl : args = #[v0, v1] := by cases args; simp_all
  obtain ⟨rfl, rfl⟩ := trodVars_none hV
  have k0 := h0
  have lt0 : ∀ x ∈ p0, x.block < W.heap.size := by obtain ⟨m, hm⟩ := k0; exact DataW.trod_lt m _ _ _ hm
  obtain ⟨tx0, sq0, an0, rs0, kd0, a0, len0, cap0, z0, rfl, w0⟩ := open_frame (hval 0 24 v0 rfl rfl) h0
  obtain ⟨a1, len1, cap1, rfl⟩ := okWide_slice Tryd.underlying22 (hval 1 22 v1 rfl rfl)
  have k1 := h1
  have lt1 : ∀ x ∈ p1, x.block < W.heap.size := by obtain ⟨m, hm⟩ := k1; exact DataW.trod_lt m _ _ _ hm
  obtain ⟨z1, w1⟩ : ∃ zs, IsRow .u8 W a1 len1 cap1 zs := by
    obtain ⟨fuel, hf⟩ := h1
    rcases open_ints Tryd.underlying22 Tryd.underlying5 (by kernel_rfl) hf with ⟨hcs, _⟩ | ⟨x, l, c, zs, hcs, _, hl, hm, hz, _, hcell, hwz⟩
    · simp [Value.cells] at hcs
      obtain ⟨rfl, rfl, rfl⟩ := hcs
      exact ⟨[], .inl ⟨rfl, rfl, rfl, rfl⟩⟩
    · simp [Value.cells] at hcs
      obtain ⟨rfl, rfl, rfl⟩ := hcs
      exact ⟨zs, .inr ⟨_, rfl, hl, hm, by simpa using hz, hcell, hwz⟩⟩
  clear hA0 hval0
  refine (walk tx0 sq0 an0 rs0 kd0 a0 len0 cap0 z0 a1 len1 cap1 z1 W w0 w1 (laid_fact hL)).mono fun e W' ⟨he, bel⟩ => ?_
  subst he
  exact ⟨_, rfl, _, _, _, [], _, [], hW', trodAll_mk1 (shut_bool Tryd.underlying4 _), (trodAll_cons_mk (Below.trod laidOut (by kernel_rfl) (of_decide_eq_true (by kernel_rfl)) k0 bel lt0) (trodAll_cons_mk (Below.trod laidOut (by kernel_rfl) (of_decide_eq_true (by kernel_rfl)) k1 bel lt1) trodAll_mk0)), rfl, bel.frame _, fun h => by cases h⟩

theorem over : Rows.frameBackRow.holds Tryd.pinned (OpenSpec.ofChange Rows.frameBackSpec) :=
  OpenClaim.holds_of_wide 5 Tryd.f5 rfl rfl rfl rfl rfl rfl rfl ⟨rfl, rfl, rfl, rfl, rfl⟩ rfl rfl rfl rfl rfl (by kernel_rfl) Tryd.func5 (by kernel_rfl)
    (of_decide_eq_true (by kernel_rfl)) (by unfold Func.isWrapper; first | (rw [if_pos (by decide +kernel)]; kernel_rfl) | (rw [if_neg (by decide +kernel)]; exact ⟨rfl, rfl⟩))
    (fun os started H enc _ => lifted os started H enc)

end Go.Proofs.YtaieohnppeapfaaDoor.LFrameBack

namespace Go.Proofs.YtaieohnppeapfaaDoor
theorem frameBack_holds : Rows.FrameBackCardSaid :=
  Claim7.holds_tied_plain_at .later [] [.data] true (true, "6bd1dd96be7cf56c0ac1baf81702624cde209933069c32281b4d364c2e018b08") false
    LFrameBack.over (fun _ h => by cases h) (by kernel_rfl) (fun _ h => by cases h) frameBack_row_tie rfl ⟨rfl, rfl⟩ (by kernel_rfl) rfl
    (fun f fn hf hfn => by
      obtain rfl : f = 5 := Option.some.inj ((show Tryd.prog.funcNamed "gurney/gurneylaw03.FrameBack" = some 5 by kernel_rfl).symm.trans hf) |>.symm
      obtain rfl : fn = Tryd.f5 := (Option.some.inj (Tryd.func5.symm.trans hfn)).symm
      exact ⟨by kernel_rfl, fun j t ht => by
        rw [Tryd.params5] at ht
        have hm : t ∈ [24, 22] := by simpa using Array.mem_of_getElem? ht
        have hall : ([24, 22].all fun u => !Tryd.prog.wantsStandIn u) = true := by kernel_rfl
        exact (show Tryd.prog.wantsStandIn t = false by simpa using List.all_eq_true.1 hall t hm)⟩)
    (by kernel_rfl)
#print axioms frameBack_holds
end Go.Proofs.YtaieohnppeapfaaDoor
