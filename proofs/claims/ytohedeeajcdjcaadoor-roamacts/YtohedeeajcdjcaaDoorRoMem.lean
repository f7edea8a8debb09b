/- Those that are followed, one behind the other in memory: their cells. -/
import Derived.Test.YtohedeeajcdjcaaDoorRoVal
import Derived.Laws.OwnMore
namespace Go.Proofs.YtohedeeajcdjcaaDoor
open Go.RowKit
open Bt

/-- The cells of one. -/
def scell (s : Sen) : List Value := [.int .i64 s.tx, .int .i64 s.ant, .int .i64 s.rssi, .int .i64 s.last]

/-- The cells of all. -/
def scells (l : List Sen) : List Value := l.flatMap scell

theorem scells_nil : scells [] = [] := rfl

theorem scells_append (a b : List Sen) : scells (a ++ b) = scells a ++ scells b := by simp [scells]

theorem scells_one (s : Sen) : scells [s] = scell s := by simp [scells]

theorem scells_length (l : List Sen) : (scells l).length = l.length * 4 := by
  induction l with
  | nil => rfl
  | cons s l ih => rw [show scells (s :: l) = scell s ++ scells l from rfl, List.length_append, ih, List.length_cons]; simp [scell]; omega

theorem scells_at (l : List Sen) {i j : Nat} (h : i < l.length) (hj : j < 4) : (scells l)[i * 4 + j]? = (scell l[i])[j]? := by
  induction l generalizing i with
  | nil => exact absurd h (by simp)
  | cons s l ih =>
    rw [show scells (s :: l) = scell s ++ scells l from rfl]
    have hs : (scell s).length = 4 := rfl
    cases i with
    | zero => rw [List.getElem?_append_left (by omega)]; simp
    | succ i =>
      rw [List.getElem?_append_right (by omega), hs, show (i + 1) * 4 + j - 4 = i * 4 + j by omega]
      exact ih (by simpa using h)

theorem scells_onecell (l : List Sen) : ∀ u ∈ scells l, u.oneCell' = true := by
  intro u hu
  obtain ⟨s, _, hs⟩ := List.mem_flatMap.1 hu
  simp only [scell, List.mem_cons, List.not_mem_nil, or_false] at hs
  rcases hs with rfl | rfl | rfl | rfl <;> rfl

/-- One is written anew. -/
theorem scells_set (l : List Sen) {i : Nat} (s : Sen) :
    (((((scells l).set (i * 4) (.int .i64 s.tx)).set (i * 4 + 1) (.int .i64 s.ant)).set (i * 4 + 2) (.int .i64 s.rssi)).set (i * 4 + 3) (.int .i64 s.last)) = scells (l.set i s) := by
  apply List.ext_getElem?
  intro j
  have hl := scells_length l
  have hl2 := scells_length (l.set i s)
  rw [List.length_set] at hl2
  by_cases hj : j < l.length * 4
  · have hj6 : j = (j / 4) * 4 + j % 4 := by omega
    have hq : j / 4 < l.length := by omega
    have hm : j % 4 < 4 := Nat.mod_lt _ (by decide)
    have e2 : (scells (l.set i s))[j]? = (scell ((l.set i s)[j / 4]'(by simpa using hq)))[j % 4]? := by
      conv => lhs; rw [hj6]
      exact scells_at _ (by simpa using hq) hm
    have e1 : (scells l)[j]? = (scell l[j / 4])[j % 4]? := by
      conv => lhs; rw [hj6]
      exact scells_at l hq hm
    rw [e2]
    simp only [List.getElem?_set, List.length_set, hl, List.getElem_set]
    have cases4 : j % 4 = 0 ∨ j % 4 = 1 ∨ j % 4 = 2 ∨ j % 4 = 3 := by omega
    by_cases e : i = j / 4
    · rw [if_pos e]
      rcases cases4 with q | q | q | q
      · rw [q, if_neg (by omega), if_neg (by omega), if_neg (by omega), if_pos (by omega), if_pos (by omega)]; rfl
      · rw [q, if_neg (by omega), if_neg (by omega), if_pos (by omega), if_pos (by omega)]; rfl
      · rw [q, if_neg (by omega), if_pos (by omega), if_pos (by omega)]; rfl
      · rw [q, if_pos (by omega), if_pos (by omega)]; rfl
    · rw [if_neg e, if_neg (by omega), if_neg (by omega), if_neg (by omega), if_neg (by omega), e1]
  · rw [List.getElem?_eq_none (by simp only [List.length_set]; omega), List.getElem?_eq_none (by omega)]

theorem set_sameS {l : List Value} {i : Nat} {u : Value} (h : l[i]? = some u) : l.set i u = l := by
  apply List.ext_getElem?
  intro j
  rw [List.getElem?_set]
  split
  · rename_i e
    subst e
    split
    · exact h.symm
    · rw [List.getElem?_eq_none (by omega)]
  · rfl

/-- Its antenna, strength and time are written. -/
theorem scells_set3 (l : List Sen) {i : Nat} (hi : i < l.length) (s : Sen) (ht : s.tx = l[i].tx) :
    ((((scells l).set (i * 4 + 1) (.int .i64 s.ant)).set (i * 4 + 2) (.int .i64 s.rssi)).set (i * 4 + 3) (.int .i64 s.last)) = scells (l.set i s) := by
  rw [← scells_set]
  have c0 : (scells l)[i * 4]? = some (.int .i64 s.tx) := by have := scells_at l hi (j := 0) (by omega); rw [ht]; exact this
  rw [set_sameS c0]

/-- Its strength and time. -/
theorem scells_set2 (l : List Sen) {i : Nat} (hi : i < l.length) (s : Sen) (ht : s.tx = l[i].tx) (ha : s.ant = l[i].ant) :
    (((scells l).set (i * 4 + 2) (.int .i64 s.rssi)).set (i * 4 + 3) (.int .i64 s.last)) = scells (l.set i s) := by
  rw [← scells_set3 l hi s ht]
  have c1 : (scells l)[i * 4 + 1]? = some (.int .i64 s.ant) := by have := scells_at l hi (j := 1) (by omega); rw [ha]; exact this
  rw [set_sameS c1]

/-- Its time. -/
theorem scells_set1 (l : List Sen) {i : Nat} (hi : i < l.length) (s : Sen) (ht : s.tx = l[i].tx) (ha : s.ant = l[i].ant) (hr : s.rssi = l[i].rssi) :
    ((scells l).set (i * 4 + 3) (.int .i64 s.last)) = scells (l.set i s) := by
  rw [← scells_set2 l hi s ht ha]
  have c2 : (scells l)[i * 4 + 2]? = some (.int .i64 s.rssi) := by have := scells_at l hi (j := 2) (by omega); rw [hr]; exact this
  rw [set_sameS c2]

/-- Where they lie. -/
theorem sens_of_owns {w : World} {v : Value} {l : List Sen} (h : w.ownsRow 0 41 4 v l.length (scells l)) {R : Nat → Prop} (hR : ∀ k, v.ownBlock = some k → R k) : SensAt R w v l := by
  obtain ⟨ao, c, rfl, hf⟩ := ownsRow_form h
  refine ⟨ao, c, rfl, fun h0 => ?_⟩
  obtain ⟨g, rfl⟩ := hf.resolve_left (by omega)
  refine ⟨g, 0, rfl, hR g rfl, fun t ht => ?_⟩
  have q : ∀ j, j < 4 → w.cell? ⟨g, 0 + t * 4 + j, none⟩ = (scell l[t])[j]? := fun j hj => by
    have hl := scells_length l
    rw [Nat.zero_add, h.cellAt (t * 4 + j) (by omega)]
    exact scells_at l ht hj
  exact ⟨q 0 (by omega), q 1 (by omega), q 2 (by omega), q 3 (by omega)⟩

end Go.Proofs.YtohedeeajcdjcaaDoor
