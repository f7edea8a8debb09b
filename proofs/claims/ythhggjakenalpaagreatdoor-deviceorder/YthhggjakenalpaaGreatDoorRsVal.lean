/- A slice of bytes as a value that reads as bytes; the factors that Weights answers. -/
import Derived.Test.YthhggjakenalpaaGreatDoorRsLst
import Derived.Test.YthhggjakenalpaaGreatDoorRsCd
namespace Go.Proofs.YthhggjakenalpaaGreatDoor
set_option maxRecDepth 100000
open Go.RowKit
open Bt

/-- Room: none has none, and there is enough. -/
def Room (ao : Option Addr) (cap len : Nat) : Prop := (ao = none → cap = 0) ∧ len ≤ cap

/-- A value that reads as bytes, in memory from B on. -/
def Rd (B : Nat) (w : World) (v : Value) (bs : List Nat) : Prop := ∃ ao cap, v = .slice ao bs.length cap ∧ Reads w ao bs ∧ Room ao cap bs.length ∧ ∀ ad, ao = some ad → B ≤ ad.block

theorem Rd.below {B : Nat} {w w' : World} {v : Value} {bs : List Nat} (h : Rd B w v bs) (hb : Below w.heap.size w w') : Rd B w' v bs := by
  obtain ⟨ao, cap, e, h1, h2, h3⟩ := h
  exact ⟨ao, cap, e, h1.below hb, h2, h3⟩

theorem rd_nil (B : Nat) (w : World) : Rd B w (.slice none 0 0) [] := ⟨none, 0, rfl, (fun h => absurd h (by simp)), ⟨(fun _ => rfl), Nat.le_refl _⟩, (fun _ h => by cases h)⟩

theorem rd_of_owns {B : Nat} {w : World} {v : Value} {bs : List Nat} (h : w.ownsRow 0 5 1 v bs.length (bs.map U)) (hB : ∀ k, v.ownBlock = some k → B ≤ k) : Rd B w v bs := by
  rcases h.2 with ⟨hv, h0⟩ | ⟨g, cap, cur, hv, _, _, hl, _⟩
  · exact ⟨none, 0, by rw [h0]; exact hv, fun hp => by omega, ⟨fun _ => rfl, by omega⟩, fun ad e => by cases e⟩
  · obtain ⟨ao, cp, e, h1, h2⟩ := row_of_owns h
    have e' := e
    rw [hv] at e
    simp at e
    refine ⟨ao, cp, e', h1, ⟨fun e0 => ?_, by omega⟩, fun ad ea => hB _ (h2 ad ea)⟩
    rw [e0] at e
    exact absurd e.1 (by simp)

/-- What Weights answers. -/
def wtsL (at_ : List Nat) (x : Nat) : List Nat := if at_.Nodup then at_.map (fun s => wt x s (oth s at_)) else []

end Go.Proofs.YthhggjakenalpaaGreatDoor
