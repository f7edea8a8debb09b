/- Bytes as a text. -/
import Derived.Test.YteacdckfnmjojaaDoorRsLst
import Derived.Laws.BytesArg
namespace Go.Proofs.YteacdckfnmjojaaDoor
open Go.RowKit
open Bt

/-- Bytes as a text. -/
def lstr (bs : List Nat) : ByteArray := ⟨(bs.map fun n => UInt8.ofNat n).toArray⟩

theorem lconv {w : World} {a : Option Addr} {bs : List Nat} (h : Reads w a bs) (c : Nat) :
    (convert 37 9 (.slice a bs.length c)).run Tryd.prog w = .ok (.string (lstr bs)) w := by
  rcases Nat.eq_zero_or_pos bs.length with h0 | h0
  · rw [h0]
    obtain rfl : bs = [] := List.eq_nil_of_length_eq_zero h0
    rw [run_convert_bytes_string w _ _ _ _ 0 c Tryd.underlying37 Tryd.underlying5 Tryd.underlying9]
    cases a <;> simp [Conv.bytesToString, loadCells]
    all_goals rfl
  · obtain ⟨b, off, rfl, hc⟩ := reads_at h h0
    have := run_convert_bytes_arg (P := Tryd.prog) w 37 5 Tryd.underlying37 Tryd.underlying5 b off bs.length c (bs.map fun (n : Nat) => (n : Int)) (by simp) (fun i hi => by
      rw [hc i hi]
      simp [List.getD, List.getElem?_eq_getElem hi]) 9 Tryd.underlying9
    rw [this]
    simp [strOfNums, lstr]

end Go.Proofs.YteacdckfnmjojaaDoor
