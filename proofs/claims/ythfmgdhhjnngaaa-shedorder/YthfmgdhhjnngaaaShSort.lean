/- Plain: beds stand in the order of their priorities. -/
import Derived.Test.YthfmgdhhjnngaaaShPure
namespace Go.Proofs.Ythfmgdhhjnngaaa.Bt

def SortS (l : List Sd) : Prop := l.Pairwise (fun a b => b.prio ≤ a.prio)

theorem ins_takeS (l : List Sd) (s : Sd) : ∀ i, i ≤ l.length → l.insertIdx i s = l.take i ++ s :: l.drop i := by
  induction l with
  | nil => intro i hi; obtain rfl : i = 0 := by (simpa using hi)
           rfl
  | cons a l ih =>
    intro i hi
    cases i with
    | zero => rfl
    | succ i => simp [List.insertIdx_succ_cons, ih i (by simpa using hi)]

theorem take_ge (l : List Sd) (p : Int) : ∀ t ∈ l.take (atS p l), p ≤ t.prio := by
  intro t ht
  obtain ⟨j, hj, rfl⟩ := List.getElem_of_mem ht
  rw [List.length_take] at hj
  have hj' : j < atS p l := by omega
  rw [List.getElem_take]
  have := List.not_of_lt_findIdx hj'
  simpa [lessS] using this

theorem drop_lt {l : List Sd} (h : SortS l) (p : Int) : ∀ t ∈ l.drop (atS p l), t.prio < p := by
  intro t ht
  obtain ⟨j, hj, rfl⟩ := List.getElem_of_mem ht
  rw [List.length_drop] at hj
  rw [List.getElem_drop]
  have hi : atS p l < l.length := by omega
  have hit : l[atS p l].prio < p := by
    have q : lessS p (l[l.findIdx (lessS p)]'hi) = true := List.findIdx_getElem
    exact of_decide_eq_true q
  by_cases e : j = 0
  · subst e; exact hit
  · have := List.pairwise_iff_getElem.1 h (atS p l) (atS p l + j) hi (by omega) (by omega)
    omega

theorem ins_sorted {l : List Sd} (h : SortS l) (s : Sd) : SortS (insS l s) := by
  unfold insS
  rw [ins_takeS l s _ (atS_le _ _)]
  unfold SortS
  rw [List.pairwise_append, List.pairwise_cons]
  refine ⟨h.sublist (List.take_sublist _ _), ⟨fun t ht => Int.le_of_lt (drop_lt h s.prio t ht), h.sublist (List.drop_sublist _ _)⟩, fun a ha t ht => ?_⟩
  have q1 := take_ge l s.prio a ha
  rcases List.mem_cons.1 ht with rfl | q
  · exact q1
  · have := drop_lt h s.prio t q
    omega

/-- Behind the one that came stand lesser ones alone. -/
theorem ins_next {l : List Sd} (h : SortS l) (s : Sd) (hn : (insS l s).Pairwise (fun a b => a.bed ≠ b.bed)) {k : Nat} (hk : k + 1 < (insS l s).length) (hb : (insS l s)[k].bed = s.bed) : (insS l s)[k + 1].prio < s.prio := by
  have e : insS l s = l.take (atS s.prio l) ++ s :: l.drop (atS s.prio l) := ins_takeS l s _ (atS_le _ _)
  have hl : (l.take (atS s.prio l)).length = atS s.prio l := by rw [List.length_take]; have := atS_le s.prio l; omega
  have hi : atS s.prio l < (insS l s).length := by rw [ins_length]; have := atS_le s.prio l; omega
  have es : (insS l s)[atS s.prio l] = s := by
    have : ∀ (L : List Sd) (hL : atS s.prio l < L.length), L = l.take (atS s.prio l) ++ s :: l.drop (atS s.prio l) → L[atS s.prio l] = s := fun L hL eL => by
      subst eL
      rw [List.getElem_append_right (by omega)]
      simp [hl]
    exact this _ hi e
  have ek : k = atS s.prio l := by
    rcases Nat.lt_trichotomy k (atS s.prio l) with q | q | q
    · exact absurd (by rw [hb, es]) (List.pairwise_iff_getElem.1 hn k (atS s.prio l) (by omega) hi q)
    · exact q
    · exact absurd (by rw [hb, es]) (List.pairwise_iff_getElem.1 hn (atS s.prio l) k hi (by omega) q)
  subst ek
  refine drop_lt h s.prio _ ?_
  have : ∀ (L : List Sd) (hL : atS s.prio l + 1 < L.length), L = l.take (atS s.prio l) ++ s :: l.drop (atS s.prio l) → L[atS s.prio l + 1] ∈ l.drop (atS s.prio l) := fun L hL eL => by
    subst eL
    rw [List.getElem_append_right (by omega)]
    simp only [hl, Nat.add_sub_cancel_left, List.getElem_cons_succ]
    exact List.getElem_mem _
  exact this _ hk e

theorem once_pair {l : List Sd} (h : (l.map Sd.bed).Nodup) : l.Pairwise (fun a b => a.bed ≠ b.bed) := List.pairwise_map.1 h

end Go.Proofs.Ythfmgdhhjnngaaa.Bt
