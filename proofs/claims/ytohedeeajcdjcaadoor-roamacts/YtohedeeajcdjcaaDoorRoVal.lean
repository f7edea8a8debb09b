/- Lists of those that are followed, and of numbers, in memory. -/
import Derived.Test.YtohedeeajcdjcaaDoorFrmW
import Derived.Test.YtohedeeajcdjcaaDoorRoPure
namespace Go.Proofs.YtohedeeajcdjcaaDoor
open Go.RowKit
open Bt

/-- A config as a value. -/
abbrev Rm (r a m : Int) : Value := .agg #[.int .i64 r, .int .i64 a, .int .i64 m]

/-- A list of those that are followed, its block in R. -/
def SensAt (R : Nat → Prop) (w : World) (v : Value) (l : List Sen) : Prop :=
  ∃ ao cap, v = .slice ao l.length cap ∧ (0 < l.length → ∃ pb off, ao = some ⟨pb, off, none⟩ ∧ R pb ∧ ∀ t, (ht : t < l.length) →
    w.cell? ⟨pb, off + t * 4, none⟩ = some (.int .i64 l[t].tx) ∧ w.cell? ⟨pb, off + t * 4 + 1, none⟩ = some (.int .i64 l[t].ant) ∧ w.cell? ⟨pb, off + t * 4 + 2, none⟩ = some (.int .i64 l[t].rssi) ∧ w.cell? ⟨pb, off + t * 4 + 3, none⟩ = some (.int .i64 l[t].last))

theorem SensAt.kept {R S : Nat → Prop} {w w' : World} {v : Value} {l : List Sen} (h : SensAt R w v l) (hc : Chg S w w') (hR : ∀ k, R k → ¬ S k) : SensAt R w' v l := by
  obtain ⟨ao, cap, e, h⟩ := h
  refine ⟨ao, cap, e, fun h0 => ?_⟩
  obtain ⟨pb, off, ha, hb, hp⟩ := h h0
  refine ⟨pb, off, ha, hb, fun t ht => ?_⟩
  obtain ⟨c0, c1, c2, c3⟩ := hp t ht
  exact ⟨cell_chg hc c0 (hR _ hb), cell_chg hc c1 (hR _ hb), cell_chg hc c2 (hR _ hb), cell_chg hc c3 (hR _ hb)⟩

theorem SensAt.below {R : Nat → Prop} {w w' : World} {v : Value} {l : List Sen} (h : SensAt R w v l) (hb : Below w.heap.size w w') : SensAt R w' v l := h.kept (below_chg hb) (fun _ _ => id)

theorem SensAt.mono {R R' : Nat → Prop} {w : World} {v : Value} {l : List Sen} (h : SensAt R w v l) (hR : ∀ k, R k → R' k) : SensAt R' w v l := by
  obtain ⟨ao, cap, e, hp⟩ := h
  refine ⟨ao, cap, e, fun h0 => ?_⟩
  obtain ⟨pb, off, ha, hb, hq⟩ := hp h0
  exact ⟨pb, off, ha, hR _ hb, hq⟩

theorem SensAt.len {R : Nat → Prop} {w : World} {v : Value} {l : List Sen} (h : SensAt R w v l) : ∃ ao cap, v = .slice ao l.length cap := by
  obtain ⟨ao, cap, e, _⟩ := h
  exact ⟨ao, cap, e⟩

/-- A list of numbers, its block in R. -/
def NumsAt (R : Nat → Prop) (w : World) (v : Value) (l : List Int) : Prop :=
  ∃ ao cap, v = .slice ao l.length cap ∧ (0 < l.length → ∃ pb off, ao = some ⟨pb, off, none⟩ ∧ R pb ∧ ∀ t, (ht : t < l.length) → w.cell? ⟨pb, off + t, none⟩ = some (.int .i64 l[t]))

theorem NumsAt.kept {R S : Nat → Prop} {w w' : World} {v : Value} {l : List Int} (h : NumsAt R w v l) (hc : Chg S w w') (hR : ∀ k, R k → ¬ S k) : NumsAt R w' v l := by
  obtain ⟨ao, cap, e, h⟩ := h
  refine ⟨ao, cap, e, fun h0 => ?_⟩
  obtain ⟨pb, off, ha, hb, hp⟩ := h h0
  exact ⟨pb, off, ha, hb, fun t ht => cell_chg hc (hp t ht) (hR _ hb)⟩

theorem NumsAt.below {R : Nat → Prop} {w w' : World} {v : Value} {l : List Int} (h : NumsAt R w v l) (hb : Below w.heap.size w w') : NumsAt R w' v l := h.kept (below_chg hb) (fun _ _ => id)

theorem NumsAt.mono {R R' : Nat → Prop} {w : World} {v : Value} {l : List Int} (h : NumsAt R w v l) (hR : ∀ k, R k → R' k) : NumsAt R' w v l := by
  obtain ⟨ao, cap, e, hp⟩ := h
  refine ⟨ao, cap, e, fun h0 => ?_⟩
  obtain ⟨pb, off, ha, hb, hq⟩ := hp h0
  exact ⟨pb, off, ha, hR _ hb, hq⟩

theorem NumsAt.len {R : Nat → Prop} {w : World} {v : Value} {l : List Int} (h : NumsAt R w v l) : ∃ ao cap, v = .slice ao l.length cap := by
  obtain ⟨ao, cap, e, _⟩ := h
  exact ⟨ao, cap, e⟩

end Go.Proofs.YtohedeeajcdjcaaDoor
