/- Beds that are watched, as cells; lists of numbers of one's own. -/
import Derived.Test.YtngfgahdiobcmaaWtPure
import Derived.Test.YtngfgahdiobcmaaApRow
import Derived.Test.YtngfgahdiobcmaaOwnG
import Derived.Test.YtngfgahdiobcmaaNumL
namespace Go.Proofs.Ytngfgahdiobcmaa
open Go.RowKit
open Bt

abbrev Iv15 (n : Int) : Value := .int .i64 n

def wcell15 (x : Wb) : List Value := [.int .i64 x.bed, .int .i64 x.most, .int .i64 x.last, .bool x.lost]

def wcells15 (l : List Wb) : List Value := l.flatMap wcell15

theorem wcells15_append (l m : List Wb) : wcells15 (l ++ m) = wcells15 l ++ wcells15 m := by simp [wcells15]

theorem wcells15_length (l : List Wb) : (wcells15 l).length = l.length * 4 := by
  induction l with
  | nil => rfl
  | cons b l ih => rw [show wcells15 (b :: l) = wcell15 b ++ wcells15 l from rfl, List.length_append, ih, List.length_cons]; simp [wcell15]; omega

theorem wcells15_at (l : List Wb) {i j : Nat} (h : i < l.length) (hj : j < 4) : (wcells15 l)[i * 4 + j]? = (wcell15 l[i])[j]? := by
  induction l generalizing i with
  | nil => exact absurd h (by simp)
  | cons b l ih =>
    rw [show wcells15 (b :: l) = wcell15 b ++ wcells15 l from rfl]
    have hs : (wcell15 b).length = 4 := rfl
    cases i with
    | zero => rw [List.getElem?_append_left (by omega)]; simp
    | succ i =>
      rw [List.getElem?_append_right (by omega), hs, show (i + 1) * 4 + j - 4 = i * 4 + j by omega]
      exact ih (by simpa using h)

theorem wcells15_onecell (l : List Wb) : ∀ u ∈ wcells15 l, u.oneCell' = true := by
  intro u hu
  obtain ⟨b, _, hb⟩ := List.mem_flatMap.1 hu
  simp only [wcell15, List.mem_cons, List.not_mem_nil, or_false] at hb
  rcases hb with rfl | rfl | rfl | rfl <;> rfl

theorem wcells15_set (l : List Wb) {i k : Nat} (hi : i < l.length) (hk : k < 4) {y : Wb} {v : Value} (hy : wcell15 y = (wcell15 l[i]).set k v) : (wcells15 l).set (i * 4 + k) v = wcells15 (l.set i y) := by
  induction l generalizing i with
  | nil => exact absurd hi (by simp)
  | cons b l ih =>
    rw [show wcells15 (b :: l) = wcell15 b ++ wcells15 l from rfl]
    have hs : (wcell15 b).length = 4 := rfl
    cases i with
    | zero =>
      rw [List.set_append_left _ _ (by omega), Nat.zero_mul, Nat.zero_add]
      rw [show ((b :: l).set 0 y) = y :: l from rfl, show wcells15 (y :: l) = wcell15 y ++ wcells15 l from rfl, hy]
      rfl
    | succ i =>
      rw [List.set_append_right _ _ (by omega), hs, show (i + 1) * 4 + k - 4 = i * 4 + k by omega, ih (by simpa using hi) hy]
      rfl

theorem info_int15 : (Try.prog.info? 3).map (fun i => (i.zero, i.size, i.bytes)) = some (some (.int .i64 0), 1, 8) := by kernel_rfl

theorem elem_int15 : ElemT 30 3 1 := by
  obtain ⟨i, hi, hz0, hz1, hz2⟩ := info_parts info_int15
  exact ⟨Try.underlying30, ⟨i, _, 8, hi, hz0, hz1, hz2, rfl, by omega⟩, by omega⟩

/-- A row of numbers of one's own is a list of numbers. -/
theorem nums_own15 {w : World} {v : Value} {l : List Int} {n : Nat} (hn : n = l.length) (h : w.ownsRow 0 3 1 v n (l.map Iv15)) {R : Nat → Prop} (hR : ∀ k, v.ownBlock = some k → R k) : NumsAt R w v l := by
  subst hn
  obtain ⟨ao, c, rfl, hf⟩ := ownsRow_form h
  refine ⟨ao, c, rfl, fun h0 => ?_⟩
  obtain ⟨g, rfl⟩ := hf.resolve_left (by omega)
  refine ⟨g, 0, rfl, hR g rfl, fun t ht => ?_⟩
  rw [Nat.zero_add, h.cellAt t (by omega)]
  simp [ht]

/-- One bed's cells. -/
def WbAt (w : World) (g o : Nat) (x : Wb) : Prop := w.cell? ⟨g, o, none⟩ = some (.int .i64 x.bed) ∧ w.cell? ⟨g, o + 1, none⟩ = some (.int .i64 x.most) ∧ w.cell? ⟨g, o + 2, none⟩ = some (.int .i64 x.last) ∧ w.cell? ⟨g, o + 3, none⟩ = some (.bool x.lost)

theorem frozen_own15 {w : World} {e : TypeId} {sz g n c : Nat} {xs : List Value} (h : w.ownsRow 0 e sz (.slice (some ⟨g, 0, none⟩) n c) n xs) (j : Nat) : w.frozen? ⟨g, j, none⟩ = false := by
  rcases h.2 with ⟨e, _⟩ | ⟨g', c', cur, e, _, hg, _⟩
  · cases e
  · cases e
    exact frozen_of_row w g j _ _ hg

end Go.Proofs.Ytngfgahdiobcmaa
