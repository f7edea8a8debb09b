/- The example of layer 7 comes out, and touches nothing that was there. -/
import Derived.Test.YtceekoifljeddaaMCo
import Derived.Test.YtceekoifljeddaaLStr
import Derived.Lib.SlBytesConst
namespace Go.Proofs.Ytceekoifljeddaa
open Go.RowKit
open Bt

def ab2 : List Nat := [97, 98]

theorem ab2_Y : Byt ab2 := Byt.cons (by decide) (Byt.cons (by decide) Byt.nil)

def aX0 : Col := col0 1 2 2 255
def aX1 : Col := shardC aX0 255 1 ab2
def aX2 : Col := skipC aX1 0

theorem aE0 : shardE aX0 255 1 2 = 0 := by decide +kernel
theorem aE1 : skipE aX1 0 = 0 := by decide +kernel
theorem aE2 : shardE aX2 255 1 2 = 9 := by decide +kernel
theorem aC2 : shardC aX2 255 1 ab2 = aX2 := by unfold shardC; rw [show ab2.length = 2 from rfl, aE2]; rfl
theorem aH : haveN aX2 255 = 1 := by decide +kernel
theorem aR : readyN aX2 = 3 := by decide +kernel
theorem aP : dueP aX2 = [⟨255, false, ab2⟩, ⟨0, true, []⟩] := by decide +kernel
theorem aB : (dueC aX2).base = 1 := by decide +kernel

set_option maxRecDepth 100000 in
set_option maxHeartbeats 2000000 in
theorem alive_any (w : World) :
    Calls Try.prog 9 #[] w fun e w' => e = .returned (.bool true) ∧ Below w.heap.size w w' := by
  have kc := fun (w : World) => Lib.run_convert_bytes_const (P := Try.prog) w 39 5 #[.int .u8 97, .int .u8 98] 2 2 Try.underlying39 Try.underlying5
  have KC := Hid.intro kc
  clear kc
  go_enter Try.func9, Try.ntmps9
  go_wp2_with fail
  refine (cnew_yes 1 2 2 255 (by decide) w).mono ?_
  rintro e w1 ⟨b, F, rfl, hC, hF, B1⟩
  have L1 := cl_new hC hF B1
  have N1 := L1.grow ((Below.refl _ w1).alloc (Nat.le_refl _) (.cells (ab2.map U).toArray 5 (2, 3)))
  have R1 : Reads (w1.alloc (.cells (ab2.map U).toArray 5 (2, 3))) (some ⟨w1.heap.size, 0, none⟩) ab2 := fun _ =>
    ⟨_, rfl, World.news_of_block (cs := (ab2.map U).toArray) (heap_alloc_new w1 _)⟩
  have D1 := B1.trans (((Below.refl _ w1).alloc (Nat.le_refl _) (.cells (ab2.map U).toArray 5 (2, 3))).mono B1.size)
  have LH := Hid.intro N1
  have RH := Hid.intro R1
  have DH := Hid.intro D1
  have SZ := Hid.intro (show w.heap.size ≤ w1.heap.size from B1.size)
  have k1 := KC.out w1
  clear L1 N1 R1 D1 hC hF B1
  go_wp2_with fail
  clear k1
  have lt2 : w1.heap.size < (w1.alloc (.cells (ab2.map U).toArray 5 (2, 3))).heap.size := by simp
  change Calls _ _ _ (w1.alloc (.cells (ab2.map U).toArray 5 (2, 3))) _
  generalize w1.alloc (.cells (ab2.map U).toArray 5 (2, 3)) = w2 at LH RH DH lt2 ⊢
  have s2 := clshard 255 1 (some ⟨w1.heap.size, 0, none⟩) 2 ab2 ab2_Y ⟨(fun h => by cases h), Nat.le_refl _⟩ LH.out RH.out (fun _ ad h => by cases h; exact .inr ⟨Nat.le_refl _, lt2⟩)
  rw [show shardE (col0 1 2 2 255) 255 1 ab2.length = 0 from aE0] at s2
  refine s2.mono ?_
  rintro e w3 ⟨rfl, L3⟩
  change CL _ _ w3 b aX1 at L3
  clear s2 LH RH
  have L3H := Hid.intro L3
  clear L3
  go_wp2_with fail
  have s3 := clskip 0 L3H.out
  rw [aE1] at s3
  refine s3.mono ?_
  rintro e w4 ⟨rfl, L4⟩
  change CL _ _ w4 b aX2 at L4
  have O4 := DH.out.trans ((L4.out (B := w.heap.size) DH.out.size (fun k hk => .inl hk)))
  have N4 := L4.grow ((Below.refl _ w4).alloc (Nat.le_refl _) (.cells (ab2.map U).toArray 5 (2, 3)))
  have R4 : Reads (w4.alloc (.cells (ab2.map U).toArray 5 (2, 3))) (some ⟨w4.heap.size, 0, none⟩) ab2 := fun _ =>
    ⟨_, rfl, World.news_of_block (cs := (ab2.map U).toArray) (heap_alloc_new w4 _)⟩
  have D4 := O4.trans (((Below.refl _ w4).alloc (Nat.le_refl _) (.cells (ab2.map U).toArray 5 (2, 3))).mono O4.size)
  have k4 := KC.out w4
  have LH := Hid.intro N4
  have RH := Hid.intro R4
  have DH2 := Hid.intro D4
  clear s3 L3H L4 O4 N4 R4 D4
  go_wp2_with fail
  clear k4 KC
  have lt5 : w4.heap.size < (w4.alloc (.cells (ab2.map U).toArray 5 (2, 3))).heap.size := by simp
  change Calls _ _ _ (w4.alloc (.cells (ab2.map U).toArray 5 (2, 3))) _
  generalize w4.alloc (.cells (ab2.map U).toArray 5 (2, 3)) = w5 at LH RH DH2 lt5 ⊢
  have s5 := clshard 255 1 (some ⟨w4.heap.size, 0, none⟩) 2 ab2 ab2_Y ⟨(fun h => by cases h), Nat.le_refl _⟩ LH.out RH.out (fun _ ad h => by cases h; exact .inr ⟨Nat.le_refl _, lt5⟩)
  rw [show ab2.length = 2 from rfl, aE2, aC2] at s5
  refine s5.mono ?_
  rintro e w6 ⟨rfl, L6⟩
  have L6H := Hid.intro L6
  clear s5 LH RH L6
  go_wp2_with fail
  have s6 := clhave 255 (by unfold isI; omega) L6H.out
  rw [aH] at s6
  refine s6.mono ?_
  rintro e w7 ⟨rfl, _, L7⟩
  have L7H := Hid.intro L7
  clear s6 L7 L6H
  go_wp2_with fail
  have s7 := clready L7H.out
  rw [aR] at s7
  refine s7.mono ?_
  rintro e w8 ⟨rfl, _, L8⟩
  have L8H := Hid.intro L8
  clear s7 L8 L7H
  go_wp2_with fail
  have s8 := cldue L8H.out
  rw [aP] at s8
  refine s8.mono ?_
  rintro e w9 ⟨v9, rfl, ⟨a9, c9, rfl, P9⟩, L9⟩
  obtain ⟨pb, off, rfl, hpb, hp⟩ := P9 (by decide)
  obtain ⟨d0, q0, _, _, x2, rd, _, _⟩ := hp 0 (by decide)
  obtain ⟨d1, q1, _, y1, _, _, _, _⟩ := hp 1 (by decide)
  have O9 := DH2.out.trans (L9.out (B := w.heap.size) DH2.out.size (fun k hk => .inl (.inl hk)))
  have g9 := lconv rd q0
  simp only [List.getElem_cons_zero, List.getElem_cons_succ, Nat.zero_mul, Nat.add_zero, Nat.one_mul] at x2 y1 g9
  change w9.cell? ⟨pb, off + 4, none⟩ = _ at y1
  rw [show ab2.length = 2 from rfl] at g9 x2
  rw [show lstr ab2 = ⟨#[97, 98]⟩ from rfl] at g9
  have O9H := Hid.intro O9
  have L9H := Hid.intro L9
  clear s8 L8H P9 hp rd O9 L9
  rw [show ([⟨255, false, ab2⟩, ⟨0, true, []⟩] : List Prt).length = 2 from rfl]
  go_wp2_with fail
  have s9 := clbase L9H.out
  rw [aB] at s9
  refine s9.mono ?_
  rintro e w10 ⟨rfl, B10, _⟩
  have O10 := Hid.intro (O9H.out.trans (B10.mono O9H.out.size))
  clear s9 L9H O9H B10 x2 y1 g9
  go_wp2_with fail
  refine (cnew_no 0 0 0 0 (by decide) w10).mono ?_
  rintro e w11 ⟨rfl, B11⟩
  have O11 := O10.out.trans (B11.mono O10.out.size)
  clear B11 O10
  go_wp2
  go_ret
  exact ⟨rfl, O11⟩

end Go.Proofs.Ytceekoifljeddaa
