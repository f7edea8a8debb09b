/- The example of layer 5 comes out (a text from its last shards), and touches nothing that was there. -/
import Derived.Test.YtebjkbhidpdpfaaRsCon
import Derived.Test.YtebjkbhidpdpfaaRefLists
import Derived.Lib.SlBytesConst
namespace Go.Proofs.Ytebjkbhidpdpfaa
open Go.RowKit
open Bt

def abcd : List Nat := [97, 98, 99, 100]

theorem abcd_E : encE 2 4 2 4 = 0 := by decide
theorem abcd_len : (encA 2 4 2 abcd).length = 4 := by decide +kernel
theorem abcd_D : decE 2 4 2 (((encA 2 4 2 abcd).set 0 []).set 1 []) = 0 := by decide +kernel
theorem abcd_T : decA 2 4 2 (((encA 2 4 2 abcd).set 0 []).set 1 []) = abcd := by decide +kernel
theorem abcd_F : decE 2 4 2 ((((encA 2 4 2 abcd).set 0 []).set 1 []).set 3 []) = 8 := by decide +kernel
theorem abcd_B : BytL (encA 2 4 2 abcd) := by
  have h : ((encA 2 4 2 abcd).all fun r => r.all fun x => decide (x < 256)) = true := by decide +kernel
  intro r hr x hx
  simpa using List.all_eq_true.1 (List.all_eq_true.1 h r hr) x hx
theorem abcd_Y : Byt abcd := by
  have h : (abcd.all fun x => decide (x < 256)) = true := by decide
  intro x hx
  simpa using List.all_eq_true.1 h x hx
theorem abcd_M : ((encA 2 4 2 abcd).all fun r => decide (r.length ≤ 300)) = true := by decide +kernel

theorem bytL_set {L : List (List Nat)} (h : BytL L) (r : Nat) : BytL (L.set r []) := fun x hx => by
  rcases List.mem_or_eq_of_mem_set hx with h1 | h1
  · exact h x h1
  · rw [h1]; exact Byt.nil

theorem getD_set_nil (L : List (List Nat)) (r s : Nat) : (L.set r []).getD s [] = if s = r then [] else L.getD s [] := by
  rw [List.getD_eq_getElem?_getD, List.getElem?_set]
  by_cases e : r = s
  · rw [if_pos e, if_pos e.symm]
    split <;> rfl
  · rw [if_neg e, if_neg (fun q => e q.symm)]; rfl

theorem rows_set {L : List (List Nat)} {m : Nat} (h : ∀ r, (L.getD r []).length ≤ m) (r : Nat) : ∀ s, ((L.set r []).getD s []).length ≤ m := fun s => by
  rw [getD_set_nil]
  split
  · exact Nat.zero_le _
  · exact h s

theorem rows_all {L : List (List Nat)} {m : Nat} (h : (L.all fun r => decide (r.length ≤ m)) = true) : ∀ r, (L.getD r []).length ≤ m := fun r => by
  by_cases hr : r < L.length
  · rw [← List.getElem_eq_getD (h := hr) []]
    simpa using List.all_eq_true.1 h _ (List.getElem_mem hr)
  · rw [List.getD_eq_getElem?_getD, List.getElem?_eq_none (by omega)]; exact Nat.zero_le _

set_option maxRecDepth 100000 in
set_option maxHeartbeats 2000000 in
theorem alive_any (w : World) :
    Calls Try.prog 9 #[] w fun e w' => e = .returned (.bool true) ∧ Below w.heap.size w w' := by
  have kc := fun (w : World) (C : Array Value) (n c : Nat) => Lib.run_convert_bytes_const (P := Try.prog) w 24 5 C n c Try.underlying24 Try.underlying5
  have k1 := kc (w.alloc (.cells #[.int .i64 2, .int .i64 4, .int .i64 2] 23)) #[.int .u8 97, .int .u8 98, .int .u8 99, .int .u8 100] 4 4
  rw [World.size_alloc] at k1
  have KC := Hid.intro kc
  clear kc
  go_enter Try.func9, Try.ntmps9
  go_wp2_with fail
  clear k1
  have b0 : ((w.alloc (.cells #[.int .i64 2, .int .i64 4, .int .i64 2] 23)).alloc (.cells (abcd.map U).toArray 5 (4, 5))).heap[w.heap.size]? = some (.cells #[.int .i64 2, .int .i64 4, .int .i64 2] 23 (0, 0)) := by
    rw [Below.heap_alloc _ _ _ (by simp)]; exact heap_alloc_new _ _
  have rd : Reads ((w.alloc (.cells #[.int .i64 2, .int .i64 4, .int .i64 2] 23)).alloc (.cells (abcd.map U).toArray 5 (4, 5))) (some ⟨w.heap.size + 1, 0, none⟩) abcd := fun _ => by
    have := heap_alloc_new (w.alloc (.cells #[.int .i64 2, .int .i64 4, .int .i64 2] 23)) (.cells (abcd.map U).toArray 5 (4, 5))
    rw [World.size_alloc] at this
    exact ⟨_, rfl, World.news_of_block (cs := (abcd.map U).toArray) this⟩
  have B0 : Below w.heap.size w ((w.alloc (.cells #[.int .i64 2, .int .i64 4, .int .i64 2] 23)).alloc (.cells (abcd.map U).toArray 5 (4, 5))) := ((Below.refl _ w).alloc (Nat.le_refl _) _).alloc (by simp) _
  change Calls _ _ _ ((w.alloc (.cells #[.int .i64 2, .int .i64 4, .int .i64 2] 23)).alloc (.cells (abcd.map U).toArray 5 (4, 5))) _
  generalize (w.alloc (.cells #[.int .i64 2, .int .i64 4, .int .i64 2] 23)).alloc (.cells (abcd.map U).toArray 5 (4, 5)) = w0 at rd B0 b0 ⊢
  have s0 := rencode_any 2 4 2 (some ⟨w.heap.size + 1, 0, none⟩) 4 abcd abcd_Y (by decide) w0 rd ⟨(fun h => by cases h), by decide⟩
  rw [show encE 2 4 2 abcd.length = 0 from abcd_E] at s0
  refine s0.mono ?_
  clear s0
  rintro e w1 ⟨v1, rfl, S1, B1⟩
  rcases S1 with ⟨h0, _⟩ | ⟨mb, off, mc, A, C, rfl, S1⟩
  · have := abcd_len; rw [h0] at this; exact absurd this (by decide)
  rw [abcd_len]
  have b1 := (B1.block _ (lt_of_heap b0)).trans b0
  have B1w := B0.trans (B1.mono B0.size)
  have hne : mb ≠ w.heap.size := by
    have := S1.newTop
    have := lt_of_heap b0
    omega
  have hwm : w.heap.size ≤ mb := by
    have := S1.newTop
    have := lt_of_heap b0
    omega
  have S2 := S1.lost (r := 0) (by rw [abcd_len]; decide)
  have S3 := S2.lost (r := 1) (by rw [List.length_set, abcd_len]; decide)
  have f0 := S1.cell 0 (by rw [abcd_len]; decide)
  have f1 := S1.frozen 0 (by rw [abcd_len]; decide)
  have g0 := S2.cell 1 (by rw [List.length_set, abcd_len]; decide)
  have g1 := S2.frozen 1 (by rw [List.length_set, abcd_len]; decide)
  have b3 : ((w1.setCell ⟨mb, off + 0, none⟩ (.slice none 0 0)).setCell ⟨mb, off + 1, none⟩ (.slice none 0 0)).heap[w.heap.size]? = some (.cells #[.int .i64 2, .int .i64 4, .int .i64 2] 23 (0, 0)) := by
    rw [Below.heap_setCell _ _ _ _ (by exact fun e => hne e.symm), Below.heap_setCell _ _ _ _ (by exact fun e => hne e.symm)]; exact b1
  have B3w := (B1w.setCell (p := ⟨mb, off + 0, none⟩) hwm (.slice none 0 0)).setCell (p := ⟨mb, off + 1, none⟩) hwm (.slice none 0 0)
  have c0 : ((w1.setCell ⟨mb, off + 0, none⟩ (.slice none 0 0)).setCell ⟨mb, off + 1, none⟩ (.slice none 0 0)).cell? ⟨w.heap.size, 0, none⟩ = some (.int .i64 2) := by rw [cell_of_row _ _ 0 _ _ _ b3]; rfl
  have c1 : ((w1.setCell ⟨mb, off + 0, none⟩ (.slice none 0 0)).setCell ⟨mb, off + 1, none⟩ (.slice none 0 0)).cell? ⟨w.heap.size, 1, none⟩ = some (.int .i64 4) := by rw [cell_of_row _ _ 1 _ _ _ b3]; rfl
  have c2 : ((w1.setCell ⟨mb, off + 0, none⟩ (.slice none 0 0)).setCell ⟨mb, off + 1, none⟩ (.slice none 0 0)).cell? ⟨w.heap.size, 2, none⟩ = some (.int .i64 2) := by rw [cell_of_row _ _ 2 _ _ _ b3]; rfl
  simp only [Nat.add_zero] at f0 f1 g0 g1 c0 c1 c2 b3 B3w S3
  have S3H := Hid.intro S3
  have B3H := Hid.intro B3w
  have b3H := Hid.intro b3
  clear S1 S2 S3 b1 b3 b0 B0 B1 B1w B3w rd
  go_wp2_with fail
  generalize (w1.setCell ⟨mb, off, none⟩ (.slice none 0 0)).setCell ⟨mb, off + 1, none⟩ (.slice none 0 0) = w3 at S3H B3H b3H c0 c1 c2 ⊢
  have hA : BytL (((encA 2 4 2 abcd).set 0 []).set 1 []) := bytL_set (bytL_set abcd_B 0) 1
  have hM : ∀ r, ((((encA 2 4 2 abcd).set 0 []).set 1 []).getD r []).length ≤ 300 := rows_set (rows_set (rows_all abcd_M) 0) 1
  have hlen : (((encA 2 4 2 abcd).set 0 []).set 1 []).length = 4 := by rw [List.length_set, List.length_set, abcd_len]
  have s3 := rdecode_any 2 4 2 (some ⟨mb, off, none⟩) mc _ hA (by rw [hlen]; decide) hM w3 S3H.out.reads
  rw [hlen, abcd_D, abcd_T] at s3
  refine s3.mono ?_
  clear s3 c0 c1 c2 f0 f1 g0 g1
  rintro e w4 ⟨v4, rfl, R4, B4⟩
  obtain ⟨a4, p4, rfl, R4, _, N4⟩ := R4
  have S4 := S3H.out.below B4
  have b4 := (B4.block _ (lt_of_heap b3H.out)).trans b3H.out
  have B4w := B3H.out.trans (B4.mono B3H.out.size)
  have S5 := S4.lost (r := 3) (by rw [hlen]; decide)
  have f0 := S4.cell 3 (by rw [hlen]; decide)
  have f1 := S4.frozen 3 (by rw [hlen]; decide)
  have b5 : (w4.setCell ⟨mb, off + 3, none⟩ (.slice none 0 0)).heap[w.heap.size]? = some (.cells #[.int .i64 2, .int .i64 4, .int .i64 2] 23 (0, 0)) := by
    rw [Below.heap_setCell _ _ _ _ (by exact fun e => hne e.symm)]; exact b4
  have B5w := B4w.setCell (p := ⟨mb, off + 3, none⟩) hwm (.slice none 0 0)
  have c0 : (w4.setCell ⟨mb, off + 3, none⟩ (.slice none 0 0)).cell? ⟨w.heap.size, 0, none⟩ = some (.int .i64 2) := by rw [cell_of_row _ _ 0 _ _ _ b5]; rfl
  have c1 : (w4.setCell ⟨mb, off + 3, none⟩ (.slice none 0 0)).cell? ⟨w.heap.size, 1, none⟩ = some (.int .i64 4) := by rw [cell_of_row _ _ 1 _ _ _ b5]; rfl
  have c2 : (w4.setCell ⟨mb, off + 3, none⟩ (.slice none 0 0)).cell? ⟨w.heap.size, 2, none⟩ = some (.int .i64 2) := by rw [cell_of_row _ _ 2 _ _ _ b5]; rfl
  -- what was decoded is read when the list is turned
  have R5 : Reads (w4.setCell ⟨mb, off + 3, none⟩ (.slice none 0 0)) a4 abcd := R4.kept (S := fun k => k = mb) (Chg.setCell (S := fun k => k = mb) (p := ⟨mb, off + 3, none⟩) (Chg.refl _ w4) (fun _ => rfl) _) (fun ad ha e => by
    have := N4 ad ha
    have := S3H.out.ltTop
    omega)
  have S5H := Hid.intro S5
  have B5H := Hid.intro B5w
  have b5H := Hid.intro b5
  have R5H := Hid.intro R5
  clear S4 S5 b4 b5 B4 B4w B5w R4 R5 S3H B3H b3H
  rw [show abcd.length = 4 from rfl]
  go_wp2_with fail
  generalize w4.setCell ⟨mb, off + 3, none⟩ (.slice none 0 0) = w5 at S5H B5H b5H R5H c0 c1 c2 ⊢
  have s5 := rdecode_any 2 4 2 (some ⟨mb, off, none⟩) mc _ (bytL_set hA 3) (by rw [List.length_set, hlen]; decide) (rows_set hM 3) w5 S5H.out.reads
  rw [List.length_set, hlen, abcd_F] at s5
  refine s5.mono ?_
  clear s5 c0 c1 c2 f0 f1 hA hM hlen
  rintro e w6 ⟨v6, rfl, R6, B6⟩
  have b6 := (B6.block _ (lt_of_heap b5H.out)).trans b5H.out
  have B6w := B5H.out.trans (B6.mono B5H.out.size)
  have g6 := lconv (R5H.out.below B6) p4
  rw [show abcd.length = 4 from rfl, show lstr abcd = ⟨#[97, 98, 99, 100]⟩ from rfl] at g6
  have c0 : w6.cell? ⟨w.heap.size, 0, none⟩ = some (.int .i64 2) := by rw [cell_of_row _ _ 0 _ _ _ b6]; rfl
  have c1 : w6.cell? ⟨w.heap.size, 1, none⟩ = some (.int .i64 4) := by rw [cell_of_row _ _ 1 _ _ _ b6]; rfl
  have c2 : w6.cell? ⟨w.heap.size, 2, none⟩ = some (.int .i64 2) := by rw [cell_of_row _ _ 2 _ _ _ b6]; rfl
  have B6H := Hid.intro B6w
  have b6H := Hid.intro b6
  clear S5H B5H b5H R5H B6 B6w b6 R6
  go_wp2_with fail
  have s6 := rmay_any 2 4 2 w6
  rw [show mayC 2 4 2 = true from rfl] at s6
  refine s6.mono ?_
  clear s6 c0 c1 c2 g6
  rintro e w7 ⟨rfl, B7⟩
  have b7 := (B7.block _ (lt_of_heap b6H.out)).trans b6H.out
  have B7w := B6H.out.trans (B7.mono B6H.out.size)
  have b7H := Hid.intro b7
  have B7H := Hid.intro B7w
  clear b7 B7w B7 b6H B6H
  go_wp2_with fail
  have s7 := rmay_any 0 0 0 w7
  rw [show mayC 0 0 0 = false from rfl] at s7
  refine s7.mono ?_
  clear s7
  rintro e w8 ⟨rfl, B8⟩
  have b8 := (B8.block _ (lt_of_heap b7H.out)).trans b7H.out
  have B8w := B7H.out.trans (B8.mono B7H.out.size)
  have c0 : w8.cell? ⟨w.heap.size, 0, none⟩ = some (.int .i64 2) := by rw [cell_of_row _ _ 0 _ _ _ b8]; rfl
  have c1 : w8.cell? ⟨w.heap.size, 1, none⟩ = some (.int .i64 4) := by rw [cell_of_row _ _ 1 _ _ _ b8]; rfl
  have c2 : w8.cell? ⟨w.heap.size, 2, none⟩ = some (.int .i64 2) := by rw [cell_of_row _ _ 2 _ _ _ b8]; rfl
  have k8 := KC.out w8 #[.int .u8 120] 1 1
  have B8H := Hid.intro B8w
  clear b8 B8 B8w b7H B7H
  go_wp2_with fail
  clear k8 KC c0 c1 c2
  have R8 : Reads (w8.alloc (.cells (([120] : List Nat).map U).toArray 5 (1, 2))) (some ⟨w8.heap.size, 0, none⟩) [120] := fun _ =>
    ⟨_, rfl, World.news_of_block (cs := (([120] : List Nat).map U).toArray) (heap_alloc_new w8 _)⟩
  have B9 := B8H.out.alloc B8H.out.size (.cells (([120] : List Nat).map U).toArray 5 (1, 2))
  change Calls _ _ _ (w8.alloc (.cells (([120] : List Nat).map U).toArray 5 (1, 2))) _
  generalize w8.alloc (.cells (([120] : List Nat).map U).toArray 5 (1, 2)) = w9 at R8 B9 ⊢
  have hY : Byt [120] := Byt.cons (by decide) Byt.nil
  refine (rpad_any 2 4 2 (some ⟨w8.heap.size, 0, none⟩) 1 [120] hY (by decide) w9 R8 (fun h => by cases h)).mono ?_
  rintro e w10 ⟨v10, rfl, ⟨a10, p10, rfl, _⟩, B10⟩
  rw [show (padB 2 4 2 [120]).length = 4 from by decide]
  have B10w := B9.trans (B10.mono B9.size)
  clear R8 B9 B10 hY B8H
  have B11 := B10w.alloc B10w.size (.cells (([1, 2] : List Nat).map U).toArray 5)
  have R10 : Reads (w10.alloc (.cells (([1, 2] : List Nat).map U).toArray 5)) (some ⟨w10.heap.size, 0, none⟩) [1, 2] := fun _ =>
    ⟨_, rfl, World.news_of_block (cs := (([1, 2] : List Nat).map U).toArray) (heap_alloc_new w10 _)⟩
  have R10H := Hid.intro R10
  have B11H := Hid.intro B11
  clear R10 B11 B10w
  go_wp2_with fail
  change Calls _ _ _ (w10.alloc (.cells (([1, 2] : List Nat).map U).toArray 5)) _
  generalize w10.alloc (.cells (([1, 2] : List Nat).map U).toArray 5) = w11 at R10H B11H ⊢
  have hY : Byt [1, 2] := Byt.cons (by decide) (Byt.cons (by decide) Byt.nil)
  refine (rweights_any (some ⟨w10.heap.size, 0, none⟩) 2 [1, 2] hY (by decide) 3 (by decide) w11 R10H.out (fun h => by cases h)).mono ?_
  rintro e w12 ⟨v12, rfl, ⟨a12, p12, rfl, _⟩, B12⟩
  rw [show (wtsL [1, 2] 3).length = 2 from by decide]
  have B12w := B11H.out.trans (B12.mono B11H.out.size)
  clear R10H B11H B12 hY
  go_wp2
  go_ret
  exact ⟨rfl, B12w⟩

end Go.Proofs.Ytebjkbhidpdpfaa
