/- Plain: rows that are lost by a number's bits; no program is named here. -/
import Derived.Test.YtebjkbhidpdpfaaRsDecP
namespace Go.Proofs.Ytebjkbhidpdpfaa.Bt

/-- Rows of which those are lost, of the first t, whose bit is set. -/
def lostT (q : Nat) (L : List (List Nat)) : Nat → List (List Nat)
  | 0 => L
  | t + 1 => if q / 2 ^ t % 2 = 1 then (lostT q L t).set t [] else lostT q L t

/-- How many of the first t are left. -/
def cntT (q : Nat) : Nat → Nat
  | 0 => 0
  | t + 1 => if q / 2 ^ t % 2 = 1 then cntT q t else cntT q t + 1

theorem lostT_length (q : Nat) (L : List (List Nat)) (t : Nat) : (lostT q L t).length = L.length := by
  induction t with
  | zero => rfl
  | succ t ih =>
    unfold lostT
    split
    · rw [List.length_set, ih]
    · exact ih

theorem set_nil_getD (L : List (List Nat)) (r s : Nat) : (L.set r []).getD s [] = if s = r then [] else L.getD s [] := by
  rw [List.getD_eq_getElem?_getD, List.getElem?_set]
  by_cases e : r = s
  · rw [if_pos e, if_pos e.symm]
    split <;> rfl
  · rw [if_neg e, if_neg (fun q => e q.symm)]; rfl

theorem lostT_getD (q : Nat) (L : List (List Nat)) (t r : Nat) : (lostT q L t).getD r [] = if r < t ∧ q / 2 ^ r % 2 = 1 then [] else L.getD r [] := by
  induction t with
  | zero => rw [if_neg (by omega)]; rfl
  | succ t ih =>
    unfold lostT
    by_cases hb : q / 2 ^ t % 2 = 1
    · rw [if_pos hb, set_nil_getD]
      by_cases e : r = t
      · rw [if_pos e, if_pos ⟨by omega, by rw [e]; exact hb⟩]
      · rw [if_neg e, ih]
        by_cases h : r < t ∧ q / 2 ^ r % 2 = 1
        · rw [if_pos h, if_pos ⟨by omega, h.2⟩]
        · rw [if_neg h, if_neg (fun h' => h ⟨by omega, h'.2⟩)]
    · rw [if_neg hb, ih]
      by_cases h : r < t ∧ q / 2 ^ r % 2 = 1
      · rw [if_pos h, if_pos ⟨by omega, h.2⟩]
      · rw [if_neg h, if_neg (fun h' => h ⟨by
          have := h'.1
          have : r ≠ t := fun e => hb (by rw [← e]; exact h'.2)
          omega, h'.2⟩)]

theorem cntT_filter (q t : Nat) : ((List.range t).filter (fun r => decide (¬ q / 2 ^ r % 2 = 1))).length = cntT q t := by
  induction t with
  | zero => rfl
  | succ t ih =>
    rw [List.range_succ, List.filter_append, List.length_append, ih, List.filter_cons, cntT]
    by_cases h : q / 2 ^ t % 2 = 1
    · rw [if_neg (by simp [h]), if_pos h]; rfl
    · rw [if_pos (by simpa using h), if_neg h]; rfl

theorem cntT_le (q t : Nat) : cntT q t ≤ t := by
  induction t with
  | zero => exact Nat.le_refl _
  | succ t ih =>
    unfold cntT
    split <;> omega

/-- Which of a text's shards are there, when some are lost. -/
theorem lost_there (q : Nat) {L : List (List Nat)} (h : ∀ r, r < L.length → 0 < (L.getD r []).length) : (there (lostT q L L.length)).length = cntT q L.length := by
  rw [← cntT_filter]
  unfold there
  rw [lostT_length]
  congr 1
  refine List.filter_congr (fun r hr => ?_)
  have hr := List.mem_range.1 hr
  rw [lostT_getD]
  by_cases hb : q / 2 ^ r % 2 = 1
  · rw [if_pos ⟨hr, hb⟩]; simp [hb]
  · rw [if_neg (fun c => hb c.2), decide_eq_true (h r hr), decide_eq_true hb]

theorem lost_mem {q : Nat} {L : List (List Nat)} {t j : Nat} (h : j ∈ there (lostT q L t)) : (lostT q L t).getD j [] = L.getD j [] := by
  have := there_pos h
  rw [lostT_getD] at this ⊢
  split at this
  · exact absurd this (by simp)
  · rename_i hn; rw [if_neg hn]

theorem lost_bytL {q : Nat} {L : List (List Nat)} (h : BytL L) (t : Nat) : BytL (lostT q L t) := by
  induction t with
  | zero => exact h
  | succ t ih =>
    unfold lostT
    split
    · intro x hx
      rcases List.mem_or_eq_of_mem_set hx with h1 | h1
      · exact ih x h1
      · rw [h1]; exact Byt.nil
    · exact ih

theorem encL_bytL {K N S : Nat} {text : List Nat} (hK : K ≤ 256) (hN : N ≤ 256) (ht : Byt text) : BytL (encL K N S text) := fun r hr => by
  obtain ⟨i, hi, rfl⟩ := List.mem_map.1 hr
  exact shL_byt hK ht (by have := List.mem_range.1 hi; omega) S

theorem encL_row {K N S : Nat} {text : List Nat} {r : Nat} (h : r < N) : ((encL K N S text).getD r []).length = S := by rw [encL_getD h, shL_length]

/-- Decode of a text's shards of which some are lost: its error, and what it answers. -/
theorem lost_E {K N S : Nat} {text : List Nat} (hm : mayC K N S = true) (q : Nat) : decE K N S (lostT q (encL K N S text) N) = if K ≤ cntT q N then 0 else 8 := by
  obtain ⟨h1, h2, h3, h4, h5, h6⟩ := mayC_true hm
  have hl : (lostT q (encL K N S text) N).length = N := by rw [lostT_length, encL_length]
  have hth := lost_there q (L := encL K N S text) (fun r hr => by rw [encL_length] at hr; rw [encL_row hr]; omega)
  rw [encL_length] at hth
  have ha : ∀ r, r < (lostT q (encL K N S text) N).length → ((lostT q (encL K N S text) N).getD r []).length = 0 ∨ (((lostT q (encL K N S text) N).getD r []).length : Int) = (S : Int) := fun r hr => by
    rw [hl] at hr
    rw [lostT_getD]
    split
    · exact .inl rfl
    · exact .inr (by rw [encL_row hr])
  split
  · exact decE_ok hm (by rw [hl]) ha (by rw [hth]; omega)
  · exact decE_few hm (by rw [hl]) ha (by rw [hth]; omega)

theorem lost_T {K N S : Nat} {text : List Nat} (hm : mayC K N S = true) (ht : Byt text) (hlen : text.length = K * S) (q : Nat) (hc : K ≤ cntT q N) : decA K N S (lostT q (encL K N S text) N) = text := by
  obtain ⟨h1, h2, h3, h4, h5, h6⟩ := mayC_true hm
  have hE := lost_E (text := text) hm q
  rw [if_pos hc] at hE
  unfold decA
  rw [hE, if_pos rfl, Int.toNat_natCast, Int.toNat_natCast]
  have hl : (lostT q (encL K N S text) N).length = N := by rw [lostT_length, encL_length]
  have hth := lost_there q (L := encL K N S text) (fun r hr => by rw [encL_length] at hr; rw [encL_row hr]; omega)
  rw [encL_length] at hth
  refine dec_back (by omega) (by omega) (by rw [hl]; omega) ht hlen (by rw [hth]; exact hc) (fun j hj => ?_)
  have hj' := there_lt hj
  rw [hl] at hj'
  rw [lost_mem hj, encL_getD hj']

end Go.Proofs.Ytebjkbhidpdpfaa.Bt
