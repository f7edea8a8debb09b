/- Plain: how Decode goes, step by step; no program is named here. -/
import Derived.Test.YtebjkbhidpdpfabRsAns
namespace Go.Proofs.Ytebjkbhidpdpfab.Bt

/-- Which shards of the first t are there, as many as say a text. -/
def thT (K : Nat) (L : List (List Nat)) (t : Nat) : List Nat := ((List.range t).filter (fun i => decide (0 < (L.getD i []).length))).take K

theorem thT_zero (K : Nat) (L : List (List Nat)) : thT K L 0 = [] := by simp [thT]

theorem thT_all (K : Nat) (L : List (List Nat)) : thT K L L.length = decAt K L := rfl

theorem thT_skip {K : Nat} {L : List (List Nat)} {t : Nat} (h : (L.getD t []).length = 0) : thT K L (t + 1) = thT K L t := by
  unfold thT
  rw [List.range_succ, List.filter_append, List.filter_cons, if_neg (by simp only [h]; decide), List.filter_nil, List.append_nil]

theorem thT_push {K : Nat} {L : List (List Nat)} {t : Nat} (h : (L.getD t []).length ≠ 0) (hl : (thT K L t).length < K) : thT K L (t + 1) = thT K L t ++ [t] := by
  unfold thT at hl ⊢
  rw [List.length_take] at hl
  rw [List.range_succ, List.filter_append, List.filter_cons, if_pos (by simp only [decide_eq_true_eq]; omega), List.filter_nil]
  generalize (List.range t).filter (fun i => decide (0 < (L.getD i []).length)) = F at hl ⊢
  rw [List.take_of_length_le (l := F ++ [t]) (by simp; omega), List.take_of_length_le (l := F) (by omega)]

theorem thT_full {K : Nat} {L : List (List Nat)} {t : Nat} (hl : ¬ (thT K L t).length < K) : thT K L (t + 1) = thT K L t := by
  unfold thT at hl ⊢
  rw [List.length_take] at hl
  rw [List.range_succ, List.filter_append]
  generalize (List.range t).filter (fun i => decide (0 < (L.getD i []).length)) = F at hl ⊢
  rw [List.take_append_of_le_length (by omega)]

theorem thT_le (K : Nat) (L : List (List Nat)) (t : Nat) : (thT K L t).length ≤ K := by simp [thT]; omega

theorem thT_byt {K : Nat} {L : List (List Nat)} {t : Nat} (ht : t ≤ 256) : Byt (thT K L t) := fun x hx => by
  have := List.mem_range.1 (List.mem_filter.1 (List.mem_of_mem_take hx)).1
  omega

/-- The bytes that are decoded so far. -/
def DT (K S : Nat) (L : List (List Nat)) (p i j : Nat) : Nat := if j % S < p ∨ (j % S = p ∧ j / S < i) then decB K L (j / S) (j % S) else 0

def rowD (K S : Nat) (L : List (List Nat)) (p i : Nat) : List Nat := (List.range (K * S)).map (DT K S L p i)

theorem rowD_length (K S : Nat) (L : List (List Nat)) (p i : Nat) : (rowD K S L p i).length = K * S := by simp [rowD]

theorem rowD_start (K S : Nat) (L : List (List Nat)) : rowD K S L 0 0 = List.replicate (K * S) 0 := by
  apply List.ext_getElem
  · simp [rowD]
  · intro j h1 h2
    simp only [rowD, List.getElem_map, List.getElem_range, DT, List.getElem_replicate]
    rw [if_neg (by rintro (h | ⟨_, h⟩) <;> exact absurd h (Nat.not_lt_zero _))]

theorem rowD_next {K S : Nat} (L : List (List Nat)) (p : Nat) : rowD K S L p K = rowD K S L (p + 1) 0 := by
  refine List.map_congr_left (fun j hj => ?_)
  have hd : j / S < K := Nat.div_lt_of_lt_mul (by rw [Nat.mul_comm]; exact List.mem_range.1 hj)
  unfold DT
  generalize j / S = a at hd
  generalize j % S = b
  by_cases h : b < p ∨ (b = p ∧ a < K)
  · rw [if_pos h, if_pos (by omega)]
  · rw [if_neg h, if_neg (by omega)]

theorem rowD_end {K S : Nat} (hS : 0 < S) (L : List (List Nat)) : rowD K S L S 0 = decT K S L := by
  refine List.map_congr_left (fun j hj => ?_)
  unfold DT
  rw [if_pos (.inl (Nat.mod_lt j hS))]

theorem rowD_set {α : Type} (f : Nat → α) {K S : Nat} (hS : 0 < S) (L : List (List Nat)) {p i : Nat} (hp : p < S) : ((rowD K S L p i).map f).set (i * S + p) (f (decB K L i p)) = (rowD K S L p (i + 1)).map f := by
  have e1 : (i * S + p) % S = p := by rw [Nat.mul_comm, Nat.mul_add_mod, Nat.mod_eq_of_lt hp]
  have e2 : (i * S + p) / S = i := by rw [Nat.mul_comm, Nat.mul_add_div hS, Nat.div_eq_of_lt hp, Nat.add_zero]
  apply List.ext_getElem
  · simp [rowD]
  · intro j h1 h2
    rw [List.getElem_set]
    simp only [rowD, List.getElem_map, List.getElem_range]
    by_cases e : i * S + p = j
    · rw [if_pos e, ← e]
      unfold DT
      rw [e1, e2, if_pos (.inr ⟨rfl, by omega⟩)]
    · rw [if_neg e]
      unfold DT
      have key : ¬ (j % S = p ∧ j / S = i) := fun ⟨a, b⟩ => e (by rw [← a, ← b, Nat.mul_comm]; exact Nat.div_add_mod j S)
      by_cases h : j % S < p ∨ (j % S = p ∧ j / S < i)
      · rw [if_pos h, if_pos (by omega)]
      · rw [if_neg h, if_neg (by omega)]

/-- Decode's error, in its parts. -/
theorem decE_may {k n s : Int} {L : List (List Nat)} (h : mayC k n s = false) : decE k n s L = 1 := by unfold decE; rw [h]; rfl

theorem decE_many {k n s : Int} {L : List (List Nat)} (h : mayC k n s = true) (hn : ¬ (L.length : Int) = n) : decE k n s L = 4 := by
  unfold decE; rw [if_pos h, if_neg hn]

theorem decE_size {k n s : Int} {L : List (List Nat)} (h : mayC k n s = true) (hn : (L.length : Int) = n) {t : Nat} (ht : t < L.length) (h0 : (L.getD t []).length ≠ 0) (hs : ¬ ((L.getD t []).length : Int) = s) : decE k n s L = 4 := by
  unfold decE
  rw [if_pos h, if_pos hn, if_neg]
  intro ha
  rw [← List.getElem_eq_getD (h := ht) []] at h0 hs
  have := List.all_eq_true.1 ha _ (List.getElem_mem ht)
  simp at this
  rcases this with h1 | h1
  · exact h0 (by rw [h1]; rfl)
  · exact hs h1

theorem all_sizes {s : Int} {L : List (List Nat)} (h : ∀ r, r < L.length → (L.getD r []).length = 0 ∨ ((L.getD r []).length : Int) = s) : L.all (fun r => decide (r.length = 0) || decide ((r.length : Int) = s)) = true := by
  refine List.all_eq_true.2 (fun r hr => ?_)
  obtain ⟨j, hj, rfl⟩ := List.mem_iff_getElem.1 hr
  have := h j hj
  rw [← List.getElem_eq_getD (h := hj) []] at this
  rcases this with h1 | h1
  · rw [decide_eq_true h1]; rfl
  · rw [decide_eq_true h1, Bool.or_true]

theorem decE_few {k n s : Int} {L : List (List Nat)} (h : mayC k n s = true) (hn : (L.length : Int) = n) (ha : ∀ r, r < L.length → (L.getD r []).length = 0 ∨ ((L.getD r []).length : Int) = s) (hk : ¬ k ≤ ((there L).length : Int)) : decE k n s L = 8 := by
  unfold decE
  rw [if_pos h, if_pos hn, if_pos (all_sizes ha), if_neg hk]

theorem decE_ok {k n s : Int} {L : List (List Nat)} (h : mayC k n s = true) (hn : (L.length : Int) = n) (ha : ∀ r, r < L.length → (L.getD r []).length = 0 ∨ ((L.getD r []).length : Int) = s) (hk : k ≤ ((there L).length : Int)) : decE k n s L = 0 := by
  unfold decE
  rw [if_pos h, if_pos hn, if_pos (all_sizes ha), if_pos hk]

theorem decAt_few {K : Nat} {L : List (List Nat)} (h : (decAt K L).length < K) : (there L).length < K := by
  unfold decAt at h
  rw [List.length_take] at h
  omega

theorem decAt_enough {K : Nat} {L : List (List Nat)} (h : ¬ (decAt K L).length < K) : K ≤ (there L).length := by
  unfold decAt at h
  rw [List.length_take] at h
  omega

end Go.Proofs.Ytebjkbhidpdpfab.Bt
