/- Beds in memory: a list of them. -/
import Derived.Test.YthofgajchejdfaaBase
import Derived.Test.YthofgajchejdfaaLdPure
import Derived.Laws.OwnMore
namespace Go.Proofs.Ythofgajchejdfaa
open Go.RowKit
open Bt

/-- A bed as a value. -/
abbrev Bv (b : Bdd) : Value := .agg #[.int .i64 b.bid, .int .i64 b.tx, .int .i64 b.period, .int .i64 b.cost, .int .i64 b.watch, .int .i64 b.prio]

/-- A list of beds, its block in R. -/
def BdsAt (R : Nat → Prop) (w : World) (v : Value) (l : List Bdd) : Prop :=
  ∃ ao cap, v = .slice ao l.length cap ∧ (0 < l.length → ∃ pb off, ao = some ⟨pb, off, none⟩ ∧ R pb ∧ ∀ t, (ht : t < l.length) →
    w.cell? ⟨pb, off + t * 6, none⟩ = some (.int .i64 l[t].bid) ∧ w.cell? ⟨pb, off + t * 6 + 1, none⟩ = some (.int .i64 l[t].tx) ∧ w.cell? ⟨pb, off + t * 6 + 2, none⟩ = some (.int .i64 l[t].period) ∧ w.cell? ⟨pb, off + t * 6 + 3, none⟩ = some (.int .i64 l[t].cost) ∧ w.cell? ⟨pb, off + t * 6 + 4, none⟩ = some (.int .i64 l[t].watch) ∧ w.cell? ⟨pb, off + t * 6 + 5, none⟩ = some (.int .i64 l[t].prio))

theorem BdsAt.kept {R S : Nat → Prop} {w w' : World} {v : Value} {l : List Bdd} (h : BdsAt R w v l) (hc : Chg S w w') (hR : ∀ k, R k → ¬ S k) : BdsAt R w' v l := by
  obtain ⟨ao, cap, e, h⟩ := h
  refine ⟨ao, cap, e, fun h0 => ?_⟩
  obtain ⟨pb, off, ha, hb, hp⟩ := h h0
  refine ⟨pb, off, ha, hb, fun t ht => ?_⟩
  obtain ⟨c0, c1, c2, c3, c4, c5⟩ := hp t ht
  exact ⟨cell_chg hc c0 (hR _ hb), cell_chg hc c1 (hR _ hb), cell_chg hc c2 (hR _ hb), cell_chg hc c3 (hR _ hb), cell_chg hc c4 (hR _ hb), cell_chg hc c5 (hR _ hb)⟩

theorem BdsAt.below {R : Nat → Prop} {w w' : World} {v : Value} {l : List Bdd} (h : BdsAt R w v l) (hb : Below w.heap.size w w') : BdsAt R w' v l := h.kept (below_chg hb) (fun _ _ => id)

theorem BdsAt.mono {R R' : Nat → Prop} {w : World} {v : Value} {l : List Bdd} (h : BdsAt R w v l) (hR : ∀ k, R k → R' k) : BdsAt R' w v l := by
  obtain ⟨ao, cap, e, hp⟩ := h
  refine ⟨ao, cap, e, fun h0 => ?_⟩
  obtain ⟨pb, off, ha, hb, hq⟩ := hp h0
  exact ⟨pb, off, ha, hR _ hb, hq⟩

theorem BdsAt.len {R : Nat → Prop} {w : World} {v : Value} {l : List Bdd} (h : BdsAt R w v l) : ∃ ao cap, v = .slice ao l.length cap := by
  obtain ⟨ao, cap, e, _⟩ := h
  exact ⟨ao, cap, e⟩

theorem bds_nil (R : Nat → Prop) (w : World) (ao : Option Addr) (c : Nat) : BdsAt R w (.slice ao 0 c) [] := ⟨ao, c, rfl, fun q => absurd q (by simp)⟩

/-- One of them, as a list of its own. -/
theorem BdsAt.one {R : Nat → Prop} {w : World} {ao : Option Addr} {n c : Nat} {l : List Bdd} (h : BdsAt R w (.slice ao n c) l) {i : Nat} (hi : i < l.length) {pb off : Nat} (ha : ao = some ⟨pb, off, none⟩) (c' : Nat) : BdsAt R w (.slice (some ⟨pb, off + i * 6, none⟩) 1 c') [l[i]] := by
  obtain ⟨ao', cap, e, hp⟩ := h
  simp only [Value.slice.injEq] at e
  obtain ⟨rfl, _, _⟩ := e
  obtain ⟨pb', off', ha', hb, hq⟩ := hp (by omega)
  rw [ha'] at ha
  simp only [Option.some.injEq, Addr.mk.injEq, and_true] at ha
  obtain ⟨rfl, rfl⟩ := ha
  refine ⟨_, c', rfl, fun _ => ⟨pb', _, rfl, hb, fun t ht => ?_⟩⟩
  obtain rfl : t = 0 := by simpa using ht
  simp only [List.getElem_cons_zero, Nat.zero_mul, Nat.add_zero]
  exact hq i hi

/-- The cells of beds. -/
def bcell (b : Bdd) : List Value := [.int .i64 b.bid, .int .i64 b.tx, .int .i64 b.period, .int .i64 b.cost, .int .i64 b.watch, .int .i64 b.prio]

def bcells (l : List Bdd) : List Value := l.flatMap bcell

theorem bcells_append (a b : List Bdd) : bcells (a ++ b) = bcells a ++ bcells b := by simp [bcells]

theorem bcells_one (b : Bdd) : bcells [b] = bcell b := by simp [bcells]

theorem bcells_length (l : List Bdd) : (bcells l).length = l.length * 6 := by
  induction l with
  | nil => rfl
  | cons b l ih => rw [show bcells (b :: l) = bcell b ++ bcells l from rfl, List.length_append, ih, List.length_cons]; simp [bcell]; omega

theorem bcells_at (l : List Bdd) {i j : Nat} (h : i < l.length) (hj : j < 6) : (bcells l)[i * 6 + j]? = (bcell l[i])[j]? := by
  induction l generalizing i with
  | nil => exact absurd h (by simp)
  | cons b l ih =>
    rw [show bcells (b :: l) = bcell b ++ bcells l from rfl]
    have hs : (bcell b).length = 6 := rfl
    cases i with
    | zero => rw [List.getElem?_append_left (by omega)]; simp
    | succ i =>
      rw [List.getElem?_append_right (by omega), hs, show (i + 1) * 6 + j - 6 = i * 6 + j by omega]
      exact ih (by simpa using h)

theorem bcells_onecell (l : List Bdd) : ∀ u ∈ bcells l, u.oneCell' = true := by
  intro u hu
  obtain ⟨b, _, hb⟩ := List.mem_flatMap.1 hu
  simp only [bcell, List.mem_cons, List.not_mem_nil, or_false] at hb
  rcases hb with rfl | rfl | rfl | rfl | rfl | rfl <;> rfl

/-- Where they lie. -/
theorem bds_of_owns {w : World} {v : Value} {l : List Bdd} (h : w.ownsRow 0 27 6 v l.length (bcells l)) {R : Nat → Prop} (hR : ∀ k, v.ownBlock = some k → R k) : BdsAt R w v l := by
  obtain ⟨ao, c, rfl, hf⟩ := ownsRow_form h
  refine ⟨ao, c, rfl, fun h0 => ?_⟩
  obtain ⟨g, rfl⟩ := hf.resolve_left (by omega)
  refine ⟨g, 0, rfl, hR g rfl, fun t ht => ?_⟩
  have q : ∀ j, j < 6 → w.cell? ⟨g, 0 + t * 6 + j, none⟩ = (bcell l[t])[j]? := fun j hj => by
    rw [Nat.zero_add, h.cellAt (t * 6 + j) (by omega)]
    exact bcells_at l ht hj
  exact ⟨q 0 (by omega), q 1 (by omega), q 2 (by omega), q 3 (by omega), q 4 (by omega), q 5 (by omega)⟩

/-- A block of beds. -/
theorem bds_block {w : World} {g : Nat} {l : List Bdd} {t : TypeId} {fr : Nat × Nat} (h : w.heap[g]? = some (.cells (bcells l).toArray t fr)) (c : Nat) : BdsAt (fun _ => True) w (.slice (some ⟨g, 0, none⟩) l.length c) l := by
  refine ⟨_, c, rfl, fun h0 => ⟨g, 0, rfl, trivial, fun t ht => ?_⟩⟩
  have q : ∀ j, j < 6 → w.cell? ⟨g, 0 + t * 6 + j, none⟩ = (bcell l[t])[j]? := fun j hj => by
    rw [Nat.zero_add, cell_of_row _ _ _ _ _ _ h, ← bcells_at l ht hj]
    simp
  exact ⟨q 0 (by omega), q 1 (by omega), q 2 (by omega), q 3 (by omega), q 4 (by omega), q 5 (by omega)⟩

theorem info_bed : (Try.prog.info? 27).map (fun i => (i.zero, i.size, i.bytes)) = some (some (.agg #[.int .i64 0, .int .i64 0, .int .i64 0, .int .i64 0, .int .i64 0, .int .i64 0]), 6, 48) := by kernel_rfl

end Go.Proofs.Ythofgajchejdfaa
