/- Bytes as a text. -/
import Derived.Test.YthhggjakenalpaaGreatDoorRsLst
import Derived.Laws.BytesArg
namespace Go.Proofs.YthhggjakenalpaaGreatDoor
set_option maxRecDepth 100000
open Go.RowKit
open Bt

/-- Bytes as a text. -/
def lstr (bs : List Nat) : ByteArray := ⟨(bs.map fun n => UInt8.ofNat n).toArray⟩

theorem lconv {w : World} {a : Option Addr} {bs : List Nat} (h : Reads w a bs) (c : Nat) :
    (convert 42 9 (.slice a bs.length c)).run Tryz.prog w = .ok (.string (lstr bs)) w := by
  rcases Nat.eq_zero_or_pos bs.length with h0 | h0
  · rw [h0]
    obtain rfl : bs = [] := List.eq_nil_of_length_eq_zero h0
    rw [run_convert_bytes_string w _ _ _ _ 0 c Tryz.underlying42 Tryz.underlying5 Tryz.underlying9]
    cases a <;> simp [Conv.bytesToString, loadCells]
    all_goals rfl
  · obtain ⟨b, off, rfl, hc⟩ := reads_at h h0
    have := run_convert_bytes_arg (P := Tryz.prog) w 42 5 Tryz.underlying42 Tryz.underlying5 b off bs.length c (bs.map fun (n : Nat) => (n : Int)) (by simp) (fun i hi => by
      rw [hc i hi]
      simp [List.getD, List.getElem?_eq_getElem hi]) 9 Tryz.underlying9
    rw [this]
    simp [strOfNums, lstr]

end Go.Proofs.YthhggjakenalpaaGreatDoor
