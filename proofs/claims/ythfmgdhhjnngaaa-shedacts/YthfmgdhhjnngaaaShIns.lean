/- slices.Insert of one pointer more into a list of one's own. -/
import Derived.Test.YthfmgdhhjnngaaaShK1
import Derived.Shelf.Spec.SlicesInsertGrow
import Derived.Maps.AppendAt
namespace Go.Proofs.Ythfmgdhhjnngaaa
open Go.RowKit Go.Lib
open Bt

theorem info_ptr : (Try.prog.info? 55).map (fun i => (i.zero, i.size, i.bytes)) = some (some (.pointer none), 1, 8) := by kernel_rfl

/-- Cells written from a place on. -/
theorem owns_setCellsP {g c n : Nat} {t : TypeId} : ∀ (vs : List Value) (o : Nat) (w : World) (xs : List Value), w.ownsRow 0 t 1 (.slice (some ⟨g, 0, none⟩) n c) n xs → o + vs.length ≤ n → (w.setCells g o vs).ownsRow 0 t 1 (.slice (some ⟨g, 0, none⟩) n c) n (xs.take o ++ vs ++ xs.drop (o + vs.length))
  | [], o, w, xs, h, _ => by simpa [World.setCells] using h
  | v :: vs, o, w, xs, h, ho => by
    have hl : xs.length = n := by have := h.1; omega
    have q := owns_setCellsP vs (o + 1) (w.setCell ⟨g, o, none⟩ v) (xs.set o v) (World.ownsRow.stored h o v).1 (by simp at ho; omega)
    rw [World.setCells]
    have e : (xs.set o v).take (o + 1) ++ vs ++ (xs.set o v).drop (o + 1 + vs.length) = xs.take o ++ v :: vs ++ xs.drop (o + (v :: vs).length) := by
      have ho' : o < xs.length := by simp at ho; omega
      rw [List.take_set, List.drop_set_of_lt (by omega), List.take_add_one, List.getElem?_eq_getElem ho']
      have e2 : (xs.take o ++ [xs[o]]).set o v = xs.take o ++ [v] := by
        have hm : (xs.take o).length = o := by rw [List.length_take]; omega
        rw [List.set_append_right _ _ (by omega), hm]
        simp
      simp only [Option.toList_some] at e2 ⊢
      rw [e2]
      simp [Nat.add_comm, Nat.add_left_comm]
    rw [← e]
    exact q

theorem chg_setCellsP {g : Nat} : ∀ (vs : List Value) (o : Nat) (w : World), Chg (fun k => k = g) w (w.setCells g o vs)
  | [], _, w => Chg.refl _ w
  | v :: vs, o, w => ((Chg.refl (fun k => k = g) w).setCell (p := ⟨g, o, none⟩) (fun _ => rfl) v).trans (chg_setCellsP vs (o + 1) _) (fun _ q _ => q)

end Go.Proofs.Ythfmgdhhjnngaaa
