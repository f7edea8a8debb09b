/- Jobs in memory: a list of them. -/
import Derived.Test.YtgcpkploeobafaaBase
import Derived.Test.YtgcpkploeobafaaEdPure
import Derived.Laws.OwnMore
namespace Go.Proofs.Ytgcpkploeobafaa
open Go.RowKit
open Bt

/-- A job as a value. -/
abbrev Jv (j : Jb) : Value := .agg #[.int .i64 j.bed, .int .i64 j.kind, .int .i64 j.tick, .int .i64 j.value, .int .i64 j.since, .int .i64 j.dl, .int .i64 j.left]

/-- One job's cells. -/
def JobAt (w : World) (b o : Nat) (j : Jb) : Prop := w.cell? ⟨b, o, none⟩ = some (.int .i64 j.bed) ∧ w.cell? ⟨b, o + 1, none⟩ = some (.int .i64 j.kind) ∧ w.cell? ⟨b, o + 2, none⟩ = some (.int .i64 j.tick) ∧ w.cell? ⟨b, o + 3, none⟩ = some (.int .i64 j.value) ∧ w.cell? ⟨b, o + 4, none⟩ = some (.int .i64 j.since) ∧ w.cell? ⟨b, o + 5, none⟩ = some (.int .i64 j.dl) ∧ w.cell? ⟨b, o + 6, none⟩ = some (.int .i64 j.left)

theorem JobAt.chg {S : Nat → Prop} {w w' : World} {b o : Nat} {j : Jb} (h : JobAt w b o j) (hc : Chg S w w') (hb : ¬ S b) : JobAt w' b o j := by
  obtain ⟨c0, c1, c2, c3, c4, c5, c6⟩ := h
  exact ⟨cell_chg hc c0 hb, cell_chg hc c1 hb, cell_chg hc c2 hb, cell_chg hc c3 hb, cell_chg hc c4 hb, cell_chg hc c5 hb, cell_chg hc c6 hb⟩

theorem JobAt.below {w w' : World} {b o : Nat} {j : Jb} (h : JobAt w b o j) (hb : Below w.heap.size w w') : JobAt w' b o j := h.chg (below_chg hb) id

/-- A list of jobs, its block in R. -/
def JsAt (R : Nat → Prop) (w : World) (v : Value) (l : List Jb) : Prop :=
  ∃ ao cap, v = .slice ao l.length cap ∧ (l.length ≤ cap ∧ (ao = none → cap = 0)) ∧ (0 < l.length → ∃ pb off, ao = some ⟨pb, off, none⟩ ∧ R pb ∧ ∀ t, (ht : t < l.length) → JobAt w pb (off + t * 7) l[t])

theorem JsAt.kept {R S : Nat → Prop} {w w' : World} {v : Value} {l : List Jb} (h : JsAt R w v l) (hc : Chg S w w') (hR : ∀ k, R k → ¬ S k) : JsAt R w' v l := by
  obtain ⟨ao, cap, e, r, h⟩ := h
  refine ⟨ao, cap, e, r, fun h0 => ?_⟩
  obtain ⟨pb, off, ha, hb, hp⟩ := h h0
  exact ⟨pb, off, ha, hb, fun t ht => (hp t ht).chg hc (hR _ hb)⟩

theorem JsAt.below {R : Nat → Prop} {w w' : World} {v : Value} {l : List Jb} (h : JsAt R w v l) (hb : Below w.heap.size w w') : JsAt R w' v l := h.kept (below_chg hb) (fun _ _ => id)

theorem JsAt.mono {R R' : Nat → Prop} {w : World} {v : Value} {l : List Jb} (h : JsAt R w v l) (hR : ∀ k, R k → R' k) : JsAt R' w v l := by
  obtain ⟨ao, cap, e, r, hp⟩ := h
  refine ⟨ao, cap, e, r, fun h0 => ?_⟩
  obtain ⟨pb, off, ha, hb, hq⟩ := hp h0
  exact ⟨pb, off, ha, hR _ hb, hq⟩

theorem JsAt.len {R : Nat → Prop} {w : World} {v : Value} {l : List Jb} (h : JsAt R w v l) : ∃ ao cap, v = .slice ao l.length cap := by
  obtain ⟨ao, cap, e, _⟩ := h
  exact ⟨ao, cap, e⟩

theorem JsAt.room {R : Nat → Prop} {w : World} {ao : Option Addr} {n c : Nat} {l : List Jb} (h : JsAt R w (.slice ao n c) l) : n = l.length ∧ n ≤ c ∧ (ao = none → c = 0) := by
  obtain ⟨ao', cap, e, r, _⟩ := h
  simp only [Value.slice.injEq] at e
  obtain ⟨rfl, rfl, rfl⟩ := e
  exact ⟨rfl, r⟩

theorem js_nil (R : Nat → Prop) (w : World) : JsAt R w (.slice none 0 0) [] := ⟨none, 0, rfl, ⟨Nat.le_refl _, fun _ => rfl⟩, fun q => absurd q (by simp)⟩

/-- The cells of jobs. -/
def jcell (j : Jb) : List Value := [.int .i64 j.bed, .int .i64 j.kind, .int .i64 j.tick, .int .i64 j.value, .int .i64 j.since, .int .i64 j.dl, .int .i64 j.left]

def jcells (l : List Jb) : List Value := l.flatMap jcell

theorem jcells_append (a b : List Jb) : jcells (a ++ b) = jcells a ++ jcells b := by simp [jcells]

theorem jcells_one (b : Jb) : jcells [b] = jcell b := by simp [jcells]

theorem jcells_length (l : List Jb) : (jcells l).length = l.length * 7 := by
  induction l with
  | nil => rfl
  | cons b l ih => rw [show jcells (b :: l) = jcell b ++ jcells l from rfl, List.length_append, ih, List.length_cons]; simp [jcell]; omega

theorem jcells_at (l : List Jb) {i j : Nat} (h : i < l.length) (hj : j < 7) : (jcells l)[i * 7 + j]? = (jcell l[i])[j]? := by
  induction l generalizing i with
  | nil => exact absurd h (by simp)
  | cons b l ih =>
    rw [show jcells (b :: l) = jcell b ++ jcells l from rfl]
    have hs : (jcell b).length = 7 := rfl
    cases i with
    | zero => rw [List.getElem?_append_left (by omega)]; simp
    | succ i =>
      rw [List.getElem?_append_right (by omega), hs, show (i + 1) * 7 + j - 7 = i * 7 + j by omega]
      exact ih (by simpa using h)

theorem jcells_onecell (l : List Jb) : ∀ u ∈ jcells l, u.oneCell' = true := by
  intro u hu
  obtain ⟨b, _, hb⟩ := List.mem_flatMap.1 hu
  simp only [jcell, List.mem_cons, List.not_mem_nil, or_false] at hb
  rcases hb with rfl | rfl | rfl | rfl | rfl | rfl | rfl <;> rfl

theorem ownsRow_roomJ {w : World} {e : TypeId} {sz n cap : Nat} {ao : Option Addr} {xs : List Value} (h : w.ownsRow 0 e sz (.slice ao n cap) n xs) : n ≤ cap ∧ (ao = none → cap = 0) := by
  rcases h.2 with ⟨h', _⟩ | ⟨g', cap', _, h', _, _, hn, hm, _⟩
  · simp only [Value.slice.injEq] at h'
    obtain ⟨_, rfl, rfl⟩ := h'
    exact ⟨Nat.le_refl _, fun _ => rfl⟩
  · simp only [Value.slice.injEq] at h'
    obtain ⟨rfl, _, rfl⟩ := h'
    exact ⟨hn, fun q => by cases q⟩

/-- Where they lie. -/
theorem js_of_owns {w : World} {v : Value} {l : List Jb} (h : w.ownsRow 0 38 7 v l.length (jcells l)) {R : Nat → Prop} (hR : ∀ k, v.ownBlock = some k → R k) : JsAt R w v l := by
  obtain ⟨ao, c, rfl, hf⟩ := ownsRow_form h
  refine ⟨ao, c, rfl, ownsRow_roomJ h, fun h0 => ?_⟩
  obtain ⟨g, rfl⟩ := hf.resolve_left (by omega)
  refine ⟨g, 0, rfl, hR g rfl, fun t ht => ?_⟩
  have q : ∀ j, j < 7 → w.cell? ⟨g, 0 + t * 7 + j, none⟩ = (jcell l[t])[j]? := fun j hj => by
    rw [Nat.zero_add, h.cellAt (t * 7 + j) (by omega)]
    exact jcells_at l ht hj
  exact ⟨q 0 (by omega), q 1 (by omega), q 2 (by omega), q 3 (by omega), q 4 (by omega), q 5 (by omega), q 6 (by omega)⟩

/-- A block of jobs. -/
theorem js_block {w : World} {g : Nat} {l : List Jb} {t : TypeId} {fr : Nat × Nat} (h : w.heap[g]? = some (.cells (jcells l).toArray t fr)) {c : Nat} (hc : l.length ≤ c) : JsAt (fun k => k = g) w (.slice (some ⟨g, 0, none⟩) l.length c) l := by
  refine ⟨_, c, rfl, ⟨hc, fun q => by cases q⟩, fun h0 => ⟨g, 0, rfl, rfl, fun t ht => ?_⟩⟩
  have q : ∀ j, j < 7 → w.cell? ⟨g, 0 + t * 7 + j, none⟩ = (jcell l[t])[j]? := fun j hj => by
    rw [Nat.zero_add, cell_of_row _ _ _ _ _ _ h, ← jcells_at l ht hj]
    simp
  exact ⟨q 0 (by omega), q 1 (by omega), q 2 (by omega), q 3 (by omega), q 4 (by omega), q 5 (by omega), q 6 (by omega)⟩

theorem info_job : (Try.prog.info? 38).map (fun i => (i.zero, i.size, i.bytes)) = some (some (.agg #[.int .i64 0, .int .i64 0, .int .i64 0, .int .i64 0, .int .i64 0, .int .i64 0, .int .i64 0]), 7, 56) := by kernel_rfl

end Go.Proofs.Ytgcpkploeobafaa
