/- The document's example of layer 3 comes out, and touches nothing that was there. -/
import Derived.Test.YtaieohnppeapfaaDoorFrmB
import Derived.Test.YtaieohnppeapfaaDoorFrmI
import Derived.Lib.SlBytesConst
namespace Go.Proofs.YtaieohnppeapfaaDoor
open Go.RowKit
open Bt

def abF : List Nat := putF 200 4095 7 100 3 [97, 98]
def abH : List Nat := heardF abF 2 9

theorem abF_len : abF.length = 13 := by decide +kernel
theorem abF_byte : ∀ b ∈ abF, b < 256 := by decide +kernel
theorem abF_parse : parseE abF = 0 := by decide +kernel
theorem abF_fields : readB (abF.take 4) / 16777216 = 200 ∧ readB (abF.take 4) / 4096 % 4096 = 4095 ∧ readB (abF.take 4) / 512 % 8 = 7 ∧ readB (abF.take 4) / 4 % 128 = 100 ∧ readB (abF.take 4) % 4 = 3 ∧ (abF.drop 7).take (abF.getD 4 0) = [97, 98] := by decide +kernel
theorem abH_len : abH.length = 13 := by decide +kernel
theorem abH_byte : ∀ b ∈ abH, b < 256 := by decide +kernel
theorem abH_parse : parseE abH = 0 := by decide +kernel
theorem abH_fields : readB (abH.take 4) / 16777216 = 200 ∧ readB (abH.take 4) / 4096 % 4096 = 4095 ∧ readB (abH.take 4) / 512 % 8 = 2 ∧ readB (abH.take 4) / 4 % 128 = 9 ∧ readB (abH.take 4) % 4 = 3 ∧ (abH.drop 7).take (abH.getD 4 0) = [97, 98] := by decide +kernel
theorem zF_len : (putF 0 0 0 0 0 []).length = 11 := by decide +kernel

/-- Parse of the example's bytes. -/
theorem parse_ab (ao : Option Addr) (c : Nat) (hc : 13 ≤ c) (hcm : c ≤ 9223372036854775807) (w : World) (hw : Wid w) (hr : Reads w ao abF) :
    Calls Tryd.prog 17 #[.slice ao 13 c] w fun e w' => ∃ a1 c1, e = .returned (.tuple #[Fr 200 4095 7 100 3 a1 2 c1, .int .i64 0]) ∧ Reads w' a1 [97, 98] ∧ Below w.heap.size w w' := by
  have s := parse_any ao c abF (by rw [abF_len]; decide) (by rw [abF_len]; exact hc) hcm abF_byte w hw hr
  rw [abF_len] at s
  refine s.mono ?_
  rintro e w' ⟨B, h⟩
  rcases h with ⟨h, _⟩ | ⟨_, a1, c1, rfl, h2, _⟩
  · exact absurd abF_parse h
  · obtain ⟨f0, f1, f2, f3, f4, f5⟩ := abF_fields
    rw [f5] at h2
    exact ⟨a1, c1, by rw [f0, f1, f2, f3, f4, f5]; rfl, h2, B⟩

theorem parse_abH (ao : Option Addr) (c : Nat) (hc : 13 ≤ c) (hcm : c ≤ 9223372036854775807) (w : World) (hw : Wid w) (hr : Reads w ao abH) :
    Calls Tryd.prog 17 #[.slice ao 13 c] w fun e w' => ∃ a1 c1, e = .returned (.tuple #[Fr 200 4095 2 9 3 a1 2 c1, .int .i64 0]) ∧ Below w.heap.size w w' := by
  have s := parse_any ao c abH (by rw [abH_len]; decide) (by rw [abH_len]; exact hc) hcm abH_byte w hw hr
  rw [abH_len] at s
  refine s.mono ?_
  rintro e w' ⟨B, h⟩
  rcases h with ⟨h, _⟩ | ⟨_, a1, c1, rfl, h2, _⟩
  · exact absurd abH_parse h
  · obtain ⟨f0, f1, f2, f3, f4, f5⟩ := abH_fields
    exact ⟨a1, c1, by rw [f0, f1, f2, f3, f4, f5]; rfl, B⟩

theorem parse_nil (w : World) :
    Calls Tryd.prog 17 #[.slice none 0 0] w fun e w' => e = .returned (.tuple #[Fr 0 0 0 0 0 none 0 0, .int .i64 2]) ∧ Below w.heap.size w w' := by
  refine (parse_short none 0 [] (by decide) w).mono ?_
  rintro e w' ⟨B, h⟩
  rcases h with ⟨_, rfl⟩ | ⟨h, _⟩
  · exact ⟨rfl, B⟩
  · exact absurd h (by decide)

set_option maxRecDepth 100000 in
set_option maxHeartbeats 1000000 in
theorem alive_any (w : World) (hw : Wid w) :
    Calls Tryd.prog 9 #[] w fun e w' => e = .returned (.bool true) ∧ Below w.heap.size w w' := by
  have kc := fun (w : World) (C : Array Value) (n c : Nat) => Lib.run_convert_bytes_const (P := Tryd.prog) w 22 5 C n c Tryd.underlying22 Tryd.underlying5
  have HW := Hid.intro hw
  clear hw
  go_enter Tryd.func9, Tryd.ntmps9
  go_wp2_with fail
  clear kc
  have RA : (w.alloc (.cells (([97, 98] : List Nat).map U).toArray 5 (2, 3))).heap[w.heap.size]? = some (.cells (([97, 98] : List Nat).map U).toArray 5 (2, 3)) := heap_alloc_new _ _
  have rd0 : Reads (w.alloc (.cells (([97, 98] : List Nat).map U).toArray 5 (2, 3))) (some ⟨w.heap.size, 0, none⟩) [97, 98] := fun _ => ⟨_, rfl, World.news_of_block (cs := (([97, 98] : List Nat).map U).toArray) RA⟩
  have BA := (Below.refl _ w).alloc (Nat.le_refl _) (.cells (([97, 98] : List Nat).map U).toArray 5 (2, 3))
  change Calls _ _ _ ((w.alloc (.cells (([97, 98] : List Nat).map U).toArray 5 (2, 3))).alloc (.cells #[.int .i64 200, .int .i64 4095, .int .i64 7, .int .i64 100, .int .i64 3, .slice (some ⟨w.heap.size, 0, none⟩) 2 2] 24)) _
  have BB := (Below.refl _ (w.alloc (.cells (([97, 98] : List Nat).map U).toArray 5 (2, 3)))).alloc (Nat.le_refl _) (.cells #[.int .i64 200, .int .i64 4095, .int .i64 7, .int .i64 100, .int .i64 3, .slice (some ⟨w.heap.size, 0, none⟩) 2 2] 24)
  have rX := rd0.below BB
  have BX := BA.trans (BB.mono BA.size)
  have hXf := heap_alloc_new (w.alloc (.cells (([97, 98] : List Nat).map U).toArray 5 (2, 3))) (.cells #[.int .i64 200, .int .i64 4095, .int .i64 7, .int .i64 100, .int .i64 3, .slice (some ⟨w.heap.size, 0, none⟩) 2 2] 24)
  rw [World.size_alloc] at hXf
  generalize (w.alloc (.cells (([97, 98] : List Nat).map U).toArray 5 (2, 3))).alloc (.cells #[.int .i64 200, .int .i64 4095, .int .i64 7, .int .i64 100, .int .i64 3, .slice (some ⟨w.heap.size, 0, none⟩) 2 2] 24) = X at rX BX hXf ⊢
  clear RA rd0 BA BB
  generalize w.heap.size + 1 = bf at hXf ⊢
  generalize w.heap.size = gs at rX hXf ⊢
  have HXF := Hid.intro hXf
  have HRX := Hid.intro rX
  have HBX := Hid.intro BX
  clear hXf rX BX
  have S1 := put_frame 200 4095 7 100 3 (some ⟨gs, 0, none⟩) 2 [97, 98] (fun e => by cases e) (by decide) X (HW.out.below HBX.out) HRX.out
  change Calls _ _ _ _ (fun e w' => ∃ ao c, e = .returned (.slice ao abF.length c) ∧ Reads w' ao abF ∧ (ao = none → c = 0) ∧ (abF.length ≤ c ∧ c ≤ 9223372036854775807) ∧ (∀ ad, ao = some ad → X.heap.size ≤ ad.block) ∧ Below X.heap.size X w') at S1
  rw [abF_len] at S1
  refine S1.mono ?_
  rintro e w1 ⟨ao, c, rfl, r1, n1, hc1, _, B1⟩
  have D1 := HBX.out.trans (B1.mono HBX.out.size)
  have f1 := (B1.block bf (lt_of_heap HXF.out)).trans HXF.out
  have HF1 := Hid.intro f1
  have HR1 := Hid.intro r1
  have HX1 := Hid.intro (HRX.out.below B1)
  have HD1 := Hid.intro D1
  clear S1 B1 D1 f1 r1 n1 HXF HRX HBX
  go_wp2_with fail
  refine (parse_ab ao c hc1.1 hc1.2 w1 (HW.out.below HD1.out) HR1.out).mono ?_
  rintro e w2 ⟨a1, c1, rfl, r2, B2⟩
  have D2 := HD1.out.trans (B2.mono HD1.out.size)
  have f2 := (B2.block bf (lt_of_heap HF1.out)).trans HF1.out
  have lf2 := lt_of_heap f2
  have Bx := (Below.refl _ w2).alloc (Nat.le_refl _) (.cells #[.int .i64 200, .int .i64 4095, .int .i64 7, .int .i64 100, .int .i64 3, .slice a1 2 c1] 24)
  have HF2 := Hid.intro ((Bx.block bf lf2).trans f2)
  have HG2 := Hid.intro (heap_alloc_new w2 (.cells #[.int .i64 200, .int .i64 4095, .int .i64 7, .int .i64 100, .int .i64 3, .slice a1 2 c1] 24))
  have HR2 := Hid.intro ((HR1.out.below B2).below Bx)
  have HX2 := Hid.intro ((HX1.out.below B2).below Bx)
  have HA2 := Hid.intro (r2.below Bx)
  have HD2 := Hid.intro (D2.trans (Bx.mono D2.size))
  clear B2 D2 f2 lf2 Bx r2 HF1 HR1 HX1 HD1
  go_wp2_with fail
  generalize w2.alloc (.cells #[.int .i64 200, .int .i64 4095, .int .i64 7, .int .i64 100, .int .i64 3, .slice a1 2 c1] 24) = W2 at HF2 HG2 HR2 HX2 HA2 HD2 ⊢
  generalize w2.heap.size = bg at HG2 ⊢
  refine (parse_nil W2).mono ?_
  rintro e w3 ⟨rfl, B3⟩
  have Bx := B3.alloc B3.size (.cells ZC 24)
  have HF3 := Hid.intro ((Bx.block bf (lt_of_heap HF2.out)).trans HF2.out)
  have HG3 := Hid.intro ((Bx.block bg (lt_of_heap HG2.out)).trans HG2.out)
  have HR3 := Hid.intro (HR2.out.below Bx)
  have HX3 := Hid.intro (HX2.out.below Bx)
  have HA3 := Hid.intro (HA2.out.below Bx)
  have HD3 := Hid.intro (HD2.out.trans (Bx.mono HD2.out.size))
  clear B3 Bx HF2 HG2 HR2 HX2 HA2 HD2
  go_wp2_with fail
  generalize w3.alloc (.cells ZC 24) = W3 at HF3 HG3 HR3 HX3 HA3 HD3 ⊢
  have S4 := heard_any ao c abF 2 9 (by rw [abF_len]; decide) (by rw [abF_len]; exact hc1.1) hc1.2 abF_byte W3 (HW.out.below HD3.out) HR3.out
  change Calls _ _ _ _ (fun e w' => ∃ ao c, e = .returned (.slice ao abH.length c) ∧ Reads w' ao abH ∧ (ao = none → c = 0) ∧ (abH.length ≤ c ∧ c ≤ 9223372036854775807) ∧ (∀ ad, ao = some ad → W3.heap.size ≤ ad.block) ∧ Below W3.heap.size W3 w') at S4
  rw [abF_len, abH_len] at S4
  refine S4.mono ?_
  rintro e w4 ⟨a4, c4, rfl, r4, n4, hc4, _, B4⟩
  have HF4 := Hid.intro ((B4.block bf (lt_of_heap HF3.out)).trans HF3.out)
  have HG4 := Hid.intro ((B4.block bg (lt_of_heap HG3.out)).trans HG3.out)
  have HR4 := Hid.intro r4
  have HX4 := Hid.intro (HX3.out.below B4)
  have HA4 := Hid.intro (HA3.out.below B4)
  have HD4 := Hid.intro (HD3.out.trans (B4.mono HD3.out.size))
  clear S4 B4 r4 n4 HF3 HG3 HR3 HX3 HA3 HD3
  go_wp2_with fail
  refine (parse_abH a4 c4 hc4.1 hc4.2 w4 (HW.out.below HD4.out) HR4.out).mono ?_
  rintro e w5 ⟨a5, c5, rfl, B5⟩
  have Bx := B5.alloc B5.size (.cells #[.int .i64 200, .int .i64 4095, .int .i64 2, .int .i64 9, .int .i64 3, .slice a5 2 c5] 24)
  have HF5 := Hid.intro ((Bx.block bf (lt_of_heap HF4.out)).trans HF4.out)
  have HG5 := Hid.intro ((Bx.block bg (lt_of_heap HG4.out)).trans HG4.out)
  have HH5 := Hid.intro (heap_alloc_new w5 (.cells #[.int .i64 200, .int .i64 4095, .int .i64 2, .int .i64 9, .int .i64 3, .slice a5 2 c5] 24))
  have HX5 := Hid.intro (HX4.out.below Bx)
  have HA5 := Hid.intro (HA4.out.below Bx)
  have HD5 := Hid.intro (HD4.out.trans (Bx.mono HD4.out.size))
  clear B5 Bx HF4 HG4 HR4 HX4 HA4 HD4
  go_wp2_with fail
  generalize w5.alloc (.cells #[.int .i64 200, .int .i64 4095, .int .i64 2, .int .i64 9, .int .i64 3, .slice a5 2 c5] 24) = W5 at HF5 HG5 HH5 HX5 HA5 HD5 ⊢
  generalize w5.heap.size = bh at HH5 ⊢
  have S6 := put_frame 0 0 0 0 0 none 0 [] (fun _ => rfl) (by decide) W5 (HW.out.below HD5.out) (fun h => absurd h (by simp))
  rw [zF_len] at S6
  refine S6.mono ?_
  rintro e w6 ⟨a6, c6, rfl, _, _, _, _, B6⟩
  have f6 := (B6.block bf (lt_of_heap HF5.out)).trans HF5.out
  have g6 := (B6.block bg (lt_of_heap HG5.out)).trans HG5.out
  have h6 := (B6.block bh (lt_of_heap HH5.out)).trans HH5.out
  have HX6 := Hid.intro (HX5.out.below B6)
  have HA6 := Hid.intro (HA5.out.below B6)
  have HD6 := Hid.intro (HD5.out.trans (B6.mono HD5.out.size))
  have HF6 := Hid.intro f6
  have HG6 := Hid.intro g6
  have HH6 := Hid.intro h6
  have k0 : w6.cell? ⟨bf, 0, none⟩ = some (.int .i64 200) := by rw [cell_of_row _ _ _ _ _ _ HF6.out]; rfl
  have k1 : w6.cell? ⟨bf, 1, none⟩ = some (.int .i64 4095) := by rw [cell_of_row _ _ _ _ _ _ HF6.out]; rfl
  have k2 : w6.cell? ⟨bf, 2, none⟩ = some (.int .i64 7) := by rw [cell_of_row _ _ _ _ _ _ HF6.out]; rfl
  have k3 : w6.cell? ⟨bf, 3, none⟩ = some (.int .i64 100) := by rw [cell_of_row _ _ _ _ _ _ HF6.out]; rfl
  have k4 : w6.cell? ⟨bf, 4, none⟩ = some (.int .i64 3) := by rw [cell_of_row _ _ _ _ _ _ HF6.out]; rfl
  have k5 : w6.cell? ⟨bf, 5, none⟩ = some (.slice (some ⟨gs, 0, none⟩) 2 2) := by rw [cell_of_row _ _ _ _ _ _ HF6.out]; rfl
  have m0 : w6.cell? ⟨bg, 0, none⟩ = some (.int .i64 200) := by rw [cell_of_row _ _ _ _ _ _ HG6.out]; rfl
  have m1 : w6.cell? ⟨bg, 1, none⟩ = some (.int .i64 4095) := by rw [cell_of_row _ _ _ _ _ _ HG6.out]; rfl
  have m2 : w6.cell? ⟨bg, 2, none⟩ = some (.int .i64 7) := by rw [cell_of_row _ _ _ _ _ _ HG6.out]; rfl
  have m3 : w6.cell? ⟨bg, 3, none⟩ = some (.int .i64 100) := by rw [cell_of_row _ _ _ _ _ _ HG6.out]; rfl
  have m4 : w6.cell? ⟨bg, 4, none⟩ = some (.int .i64 3) := by rw [cell_of_row _ _ _ _ _ _ HG6.out]; rfl
  have m5 : w6.cell? ⟨bg, 5, none⟩ = some (.slice a1 2 c1) := by rw [cell_of_row _ _ _ _ _ _ HG6.out]; rfl
  clear S6 B6 f6 g6 h6 HF5 HG5 HH5 HX5 HA5 HD5
  go_wp2_with fail
  clear k0 k1 k2 k3 k4 k5 m0 m1 m2 m3 m4 m5
  have S7 := fsame_any 200 4095 7 100 3 200 4095 7 100 3 (some ⟨gs, 0, none⟩) a1 2 c1 [97, 98] [97, 98] (by decide) (by decide) w6 HX6.out HA6.out
  rw [show sameFrm 200 4095 7 100 3 [97, 98] 200 4095 7 100 3 [97, 98] = true from by decide] at S7
  refine S7.mono ?_
  rintro e w7 ⟨rfl, B7⟩
  have HF7 := Hid.intro ((B7.block bf (lt_of_heap HF6.out)).trans HF6.out)
  have HH7 := Hid.intro ((B7.block bh (lt_of_heap HH6.out)).trans HH6.out)
  have HD7 := Hid.intro (HD6.out.trans (B7.mono HD6.out.size))
  have k0 : w7.cell? ⟨bf, 0, none⟩ = some (.int .i64 200) := by rw [cell_of_row _ _ _ _ _ _ HF7.out]; rfl
  have k1 : w7.cell? ⟨bf, 1, none⟩ = some (.int .i64 4095) := by rw [cell_of_row _ _ _ _ _ _ HF7.out]; rfl
  have k2 : w7.cell? ⟨bf, 2, none⟩ = some (.int .i64 7) := by rw [cell_of_row _ _ _ _ _ _ HF7.out]; rfl
  have k3 : w7.cell? ⟨bf, 3, none⟩ = some (.int .i64 100) := by rw [cell_of_row _ _ _ _ _ _ HF7.out]; rfl
  have k4 : w7.cell? ⟨bf, 4, none⟩ = some (.int .i64 3) := by rw [cell_of_row _ _ _ _ _ _ HF7.out]; rfl
  have k5 : w7.cell? ⟨bf, 5, none⟩ = some (.slice (some ⟨gs, 0, none⟩) 2 2) := by rw [cell_of_row _ _ _ _ _ _ HF7.out]; rfl
  clear S7 B7 HF6 HG6 HH6 HX6 HA6 HD6
  go_wp2_with fail
  clear k0 k1 k2 k3 k4 k5
  have S8 := right_any 200 4095 7 100 3 (some ⟨gs, 0, none⟩) 2 2 w7 (HW.out.below HD7.out)
  rw [show isFrm 200 4095 7 100 3 2 = true from by decide] at S8
  refine S8.mono ?_
  rintro e w8 ⟨rfl, B8⟩
  have HH8 := Hid.intro ((B8.block bh (lt_of_heap HH7.out)).trans HH7.out)
  have HD8 := Hid.intro (HD7.out.trans (B8.mono HD7.out.size))
  clear S8 B8 HF7 HH7 HD7
  go_wp2_with fail
  have S9 := right_any 0 0 8 0 0 none 0 0 w8 (HW.out.below HD8.out)
  rw [show isFrm 0 0 8 0 0 0 = false from by decide] at S9
  refine S9.mono ?_
  rintro e w9 ⟨rfl, B9⟩
  have HH9 := Hid.intro ((B9.block bh (lt_of_heap HH8.out)).trans HH8.out)
  have HD9 := Hid.intro (HD8.out.trans (B9.mono HD8.out.size))
  have k0 : w9.cell? ⟨bh, 0, none⟩ = some (.int .i64 200) := by rw [cell_of_row _ _ _ _ _ _ HH9.out]; rfl
  have k1 : w9.cell? ⟨bh, 1, none⟩ = some (.int .i64 4095) := by rw [cell_of_row _ _ _ _ _ _ HH9.out]; rfl
  have k2 : w9.cell? ⟨bh, 2, none⟩ = some (.int .i64 2) := by rw [cell_of_row _ _ _ _ _ _ HH9.out]; rfl
  have k3 : w9.cell? ⟨bh, 3, none⟩ = some (.int .i64 9) := by rw [cell_of_row _ _ _ _ _ _ HH9.out]; rfl
  have k4 : w9.cell? ⟨bh, 4, none⟩ = some (.int .i64 3) := by rw [cell_of_row _ _ _ _ _ _ HH9.out]; rfl
  have k5 : w9.cell? ⟨bh, 5, none⟩ = some (.slice a5 2 c5) := by rw [cell_of_row _ _ _ _ _ _ HH9.out]; rfl
  clear S9 B9 HH8 HD8
  go_wp2
  go_ret
  exact ⟨rfl, HD9.out⟩

end Go.Proofs.YtaieohnppeapfaaDoor
