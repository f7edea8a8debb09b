/- Lists of numbers in memory. -/
import Derived.Test.YtngfgahdiobcmaaBase
namespace Go.Proofs.Ytngfgahdiobcmaa
open Go.RowKit
open Bt

/-- A list of numbers, its block in R. -/
def NumsAt (R : Nat → Prop) (w : World) (v : Value) (l : List Int) : Prop :=
  ∃ ao cap, v = .slice ao l.length cap ∧ (0 < l.length → ∃ pb off, ao = some ⟨pb, off, none⟩ ∧ R pb ∧ ∀ t, (ht : t < l.length) → w.cell? ⟨pb, off + t, none⟩ = some (.int .i64 l[t]))

theorem NumsAt.kept {R S : Nat → Prop} {w w' : World} {v : Value} {l : List Int} (h : NumsAt R w v l) (hc : Chg S w w') (hR : ∀ k, R k → ¬ S k) : NumsAt R w' v l := by
  obtain ⟨ao, cap, e, h⟩ := h
  refine ⟨ao, cap, e, fun h0 => ?_⟩
  obtain ⟨pb, off, ha, hb, hp⟩ := h h0
  exact ⟨pb, off, ha, hb, fun t ht => cell_chg hc (hp t ht) (hR _ hb)⟩

theorem NumsAt.below {R : Nat → Prop} {w w' : World} {v : Value} {l : List Int} (h : NumsAt R w v l) (hb : Below w.heap.size w w') : NumsAt R w' v l := h.kept (below_chg hb) (fun _ _ => id)

theorem NumsAt.mono {R R' : Nat → Prop} {w : World} {v : Value} {l : List Int} (h : NumsAt R w v l) (hR : ∀ k, R k → R' k) : NumsAt R' w v l := by
  obtain ⟨ao, cap, e, hp⟩ := h
  refine ⟨ao, cap, e, fun h0 => ?_⟩
  obtain ⟨pb, off, ha, hb, hq⟩ := hp h0
  exact ⟨pb, off, ha, hR _ hb, hq⟩

theorem NumsAt.len {R : Nat → Prop} {w : World} {v : Value} {l : List Int} (h : NumsAt R w v l) : ∃ ao cap, v = .slice ao l.length cap := by
  obtain ⟨ao, cap, e, _⟩ := h
  exact ⟨ao, cap, e⟩

theorem NumsAt.at {R : Nat → Prop} {w : World} {ao : Option Addr} {n c : Nat} {l : List Int} (h : NumsAt R w (.slice ao n c) l) : l.length = n ∧ (0 < n → ∃ pb off, ao = some ⟨pb, off, none⟩ ∧ R pb ∧ ∀ t, (ht : t < l.length) → w.cell? ⟨pb, off + t, none⟩ = some (.int .i64 l[t])) := by
  obtain ⟨ao', c', e, h⟩ := h
  cases e
  exact ⟨rfl, h⟩

end Go.Proofs.Ytngfgahdiobcmaa
