/- The document's example of layer 2 comes out, and touches nothing that was there. -/
import Derived.Test.YtmnlnchbnjomhaaCrcB
import Derived.Test.YtmnlnchbnjomhaaCrcC
import Derived.Lib.SlBytesConst
namespace Go.Proofs.Ytmnlnchbnjomhaa
open Go.RowKit
open Bt

def digits : List Nat := [49, 50, 51, 52, 53, 54, 55, 56, 57]

theorem digits16 : crc16 digits = 10673 := by decide +kernel
theorem digits32 : crc32 digits = 3421780262 := by decide +kernel

set_option maxHeartbeats 1000000 in
theorem alive_any (w : World) :
    Calls Try.prog 9 #[] w fun e w' => e = .returned (.bool true) ∧ Below w.heap.size w w' := by
  have kc := fun (w : World) (C : Array Value) (n c : Nat) => Lib.run_convert_bytes_const (P := Try.prog) w 22 5 C n c Try.underlying22 Try.underlying5
  go_enter Try.func9, Try.ntmps9
  go_wp2_with fail
  clear kc
  have R0 : (w.alloc (.cells (digits.map U).toArray 5 (9, 10))).heap[w.heap.size]? = some (.cells (digits.map U).toArray 5 (9, 10)) := heap_alloc_new _ _
  have B0 := (Below.refl _ w).alloc (Nat.le_refl _) (.cells (digits.map U).toArray 5 (9, 10))
  have rd : Reads (w.alloc (.cells (digits.map U).toArray 5 (9, 10))) (some ⟨w.heap.size, 0, none⟩) digits := fun _ => ⟨_, rfl, World.news_of_block (cs := (digits.map U).toArray) R0⟩
  clear R0
  change Calls _ _ _ (w.alloc (.cells (digits.map U).toArray 5 (9, 10))) _
  generalize w.alloc (.cells (digits.map U).toArray 5 (9, 10)) = w0 at rd B0 ⊢
  have h256 : ∀ b ∈ digits, b < 256 := by decide
  have s0 := short_any (some ⟨w.heap.size, 0, none⟩) 9 digits (by decide) h256 w0 rd
  rw [digits16] at s0
  refine s0.mono ?_
  clear s0
  rintro e w1 ⟨rfl, B1⟩
  have rd1 := rd.below (B1.mono (Nat.le_refl _))
  have B1w := B0.trans (B1.mono B0.size)
  clear rd B0 B1
  have s1 := long_any (some ⟨w.heap.size, 0, none⟩) 9 digits (by decide) h256 w1 rd1
  rw [digits32] at s1
  have S1 := Hid.intro s1
  clear s1 rd1 h256
  go_wp2_with fail
  refine S1.out.mono ?_
  rintro e w2 ⟨rfl, B2⟩
  have B2w := B1w.trans (B2.mono B1w.size)
  clear S1 B2 B1w
  go_wp2_with fail
  refine (number_reads 258 2 (by decide) w2).mono ?_
  rintro e w3 ⟨ao, rfl, r3, B3⟩
  have B3w := B2w.trans (B3.mono B2w.size)
  have s3 := read_any ao 2 _ (by decide +kernel) (by decide +kernel) w3 r3
  rw [show (numB (lo64 258) 2).length = 2 from rfl, show (if 4 < 2 then 0 else readB (numB (lo64 258) 2)) = 258 from by decide +kernel] at s3
  have S3 := Hid.intro s3
  clear s3 r3 B3 B2w
  go_wp2_with fail
  refine S3.out.mono ?_
  rintro e w4 ⟨rfl, rfl⟩
  go_wp2
  go_ret
  exact ⟨rfl, B3w⟩

end Go.Proofs.Ytmnlnchbnjomhaa
