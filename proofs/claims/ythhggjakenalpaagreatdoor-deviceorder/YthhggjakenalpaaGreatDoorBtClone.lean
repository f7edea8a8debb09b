/- bytes.Clone of bytes that are not nil. -/
import Derived.Test.YthhggjakenalpaaGreatDoorRsVal
import Derived.Test.YthhggjakenalpaaGreatDoorAppB
import Derived.Lib.SliceRun
namespace Go.Proofs.YthhggjakenalpaaGreatDoor
set_option maxRecDepth 100000
open Go.RowKit
open Bt

theorem bcl_grown {w w1 w2 : World} {v v' : Value} {B : Nat} (hgrow : w1.grownBy w2 v.ownBlock) (hat : v'.ownBlock = v.ownBlock ∨ v'.ownBlock = some w1.heap.size) (hB : Below B w w1) (hBw : B ≤ w.heap.size) (hv : ∀ k, v.ownBlock = some k → B ≤ k) :
    Below B w w2 ∧ ∀ k, v'.ownBlock = some k → B ≤ k := by
  have hs := hB.size
  refine ⟨hB.grown hgrow (by omega) hv, fun k hk => ?_⟩
  rcases hat with h | h
  · exact hv k (by rw [← h]; exact hk)
  · rw [hk] at h
    have e : k = w1.heap.size := by simpa using h
    omega

theorem bcl_none {w : World} {e : TypeId} {sz n c : Nat} {ao : Option Addr} {xs : List Value} (h : w.ownsRow 0 e sz (.slice ao n c) n xs) : ao = none → c = 0 := by
  intro ha
  rcases h.2 with ⟨h', _⟩ | ⟨g', cap', _, h', _⟩
  · cases h'; rfl
  · cases h'; cases ha

/-- A slice of one's own: where it lies, and how it reads. -/
theorem bcl_owned {w : World} {B : Nat} {v : Value} {bs : List Nat} (h : w.ownsRow 0 5 1 v bs.length (bs.map U)) (hk : ∀ k, v.ownBlock = some k → B ≤ k) :
    ∃ ao c, v = .slice ao bs.length c ∧ Reads w ao bs ∧ Room ao c bs.length ∧ ∀ ad, ao = some ad → B ≤ ad.block := by
  obtain ⟨ao, c, rfl, hr, hb⟩ := row_of_owns h
  refine ⟨ao, c, rfl, hr, ⟨fun e => ?_, ?_⟩, fun ad e => hk _ (hb ad e)⟩
  · exact bcl_none h e
  · rcases h.2 with ⟨h', h0⟩ | ⟨g', cap', _, h', _, _, hn, _⟩
    · omega
    · cases h'; exact hn

/-- Clone of bytes that are not nil. -/
theorem bcl_clone (bb off cap : Nat) (ds : List Nat) (hl : ds.length ≤ 100000) (w : World) (hr : Reads w (some ⟨bb, off, none⟩) ds) :
    Calls Tryz.prog 61 #[.slice (some ⟨bb, off, none⟩) ds.length cap] w fun e w' => ∃ ao c, e = .returned (.slice ao ds.length c) ∧ Reads w' ao ds ∧ Room ao c ds.length ∧ (∀ ad, ao = some ad → w.heap.size ≤ ad.block) ∧ Below w.heap.size w w' := by
  have HR := Hid.intro hr
  clear hr
  have HB := Hid.intro ((Below.refl _ w).alloc (Nat.le_refl _) (.cells #[] 5))
  have ER := Hid.intro (empty_row w)
  have en := fun (w : World) => Lib.run_eql_slice_nil (P := Tryz.prog) w 42 5 (some ⟨bb, off, none⟩) ds.length cap 0 0 Tryz.underlying42
  go_enter Tryz.func61, Tryz.ntmps61
  go_wp2_with (at_builtin; refine append_bytes rfl _ _ rfl _ [] rfl ER.out (some ⟨bb, off, none⟩) ds.length cap ds rfl rfl (HR.out.below HB.out) (fun e => by cases e) (by simp; omega) ?_)
  intro v1 w1 hown hgrow hat
  obtain ⟨B1, N1⟩ := bcl_grown hgrow (by rw [World.size_alloc]; exact hat) HB.out (Nat.le_refl _) (fun k hk => by
    have e : w.heap.size = k := by simpa [Value.ownBlock] using hk
    omega)
  obtain ⟨ao, c, rfl, hr1, h1, h4⟩ := bcl_owned hown N1
  clear hown hgrow hat N1
  have R1 := Hid.intro hr1
  have H1 := Hid.intro h1
  have H4 := Hid.intro h4
  clear hr1 h1 h4
  go_wp2
  go_ret
  exact ⟨ao, c, rfl, R1.out, H1.out, H4.out, B1⟩

end Go.Proofs.YthhggjakenalpaaGreatDoor
