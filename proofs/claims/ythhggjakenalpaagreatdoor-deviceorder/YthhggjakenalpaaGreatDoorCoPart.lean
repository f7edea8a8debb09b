/- Parts of layer 7 in memory. -/
import Derived.Test.YthhggjakenalpaaGreatDoorRsVal
import Derived.Test.YthhggjakenalpaaGreatDoorMPlain
namespace Go.Proofs.YthhggjakenalpaaGreatDoor
set_option maxRecDepth 100000
open Go.RowKit
open Bt

/-- A list of parts, in memory from B on. -/
def PartsAt (B : Nat) (w : World) (v : Value) (ps : List Prt) : Prop :=
  ∃ ao cap, v = .slice ao ps.length cap ∧ (0 < ps.length → ∃ pb off, ao = some ⟨pb, off, none⟩ ∧ B ≤ pb ∧ ∀ t, (ht : t < ps.length) → ∃ a c,
    w.cell? ⟨pb, off + t * 3, none⟩ = some (.int .i64 (ps[t].group : Int)) ∧ w.cell? ⟨pb, off + t * 3 + 1, none⟩ = some (.bool ps[t].gap) ∧ w.cell? ⟨pb, off + t * 3 + 2, none⟩ = some (.slice a ps[t].data.length c) ∧
    Reads w a ps[t].data ∧ Room a c ps[t].data.length ∧ ∀ ad, a = some ad → B ≤ ad.block)

theorem PartsAt.kept {B : Nat} {S : Nat → Prop} {w w' : World} {v : Value} {ps : List Prt} (h : PartsAt B w v ps) (hc : Chg S w w') (hS : ∀ k, B ≤ k → ¬ S k) : PartsAt B w' v ps := by
  obtain ⟨ao, cap, e, h⟩ := h
  refine ⟨ao, cap, e, fun h0 => ?_⟩
  obtain ⟨pb, off, ha, hb, hp⟩ := h h0
  refine ⟨pb, off, ha, hb, fun t ht => ?_⟩
  obtain ⟨a, c, c0, c1, c2, r, m, n⟩ := hp t ht
  exact ⟨a, c, cell_chg hc c0 (hS _ hb), cell_chg hc c1 (hS _ hb), cell_chg hc c2 (hS _ hb), r.kept hc (fun ad ha => hS _ (n ad ha)), m, n⟩

theorem PartsAt.below {B : Nat} {w w' : World} {v : Value} {ps : List Prt} (h : PartsAt B w v ps) (hb : Below w.heap.size w w') : PartsAt B w' v ps :=
  h.kept (below_chg hb) (fun _ _ => id)

end Go.Proofs.YthhggjakenalpaaGreatDoor
