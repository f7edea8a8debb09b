/- Plain: the document's own table of layer 14: of each limit all values that came; what it comes to. -/
import Derived.Test.YtcloneccfbcclaaLmPure
namespace Go.Proofs.Ytcloneccfbcclaa.Bt

/-- How many of the last are beyond. -/
def outN (l : Lm) (vs : List Int) : Nat := (vs.reverse.takeWhile (outK l)).length

theorem outN_snoc (l : Lm) (vs : List Int) (v : Int) : outN l (vs ++ [v]) = if outK l v = true then outN l vs + 1 else 0 := by
  unfold outN
  rw [List.reverse_append, List.reverse_singleton, List.singleton_append, List.takeWhile_cons]
  split <;> rfl

theorem outN_le (l : Lm) (vs : List Int) : outN l vs ≤ vs.length := by
  unfold outN
  have := (List.takeWhile_sublist (outK l) (l := vs.reverse)).length_le
  simpa using this

/-- The last t are beyond, and the one ahead of them isn't, or there is none. -/
theorem outN_eq (l : Lm) (vs : List Int) (t : Nat) (ht : t ≤ vs.length) (h1 : ∀ j, (hj : j < vs.length) → vs.length ≤ j + t → outK l vs[j] = true) (h2 : (hj : t < vs.length) → outK l (vs[vs.length - 1 - t]'(by omega)) = false) : outN l vs = t := by
  induction t generalizing vs with
  | zero =>
    rcases List.eq_nil_or_concat vs with rfl | ⟨us, v, rfl⟩
    · rfl
    · rw [List.concat_eq_append] at *
      rw [outN_snoc, if_neg]
      have := h2 (by simp)
      simp at this
      simp [this]
  | succ t ih =>
    rcases List.eq_nil_or_concat vs with rfl | ⟨us, v, rfl⟩
    · simp at ht
    · rw [List.concat_eq_append] at *
      have hl : (us ++ [v]).length = us.length + 1 := by simp
      have hv : outK l v = true := by
        have := h1 us.length (by simp) (by simp)
        simpa using this
      rw [outN_snoc, if_pos hv, ih us (by omega) (fun j hj hj2 => ?_) (fun hj => ?_)]
      · have := h1 j (by omega) (by omega)
        rw [List.getElem_append_left hj] at this
        exact this
      · have := h2 (by omega)
        have e : (us ++ [v]).length - 1 - (t + 1) = us.length - 1 - t := by omega
        simp only [e] at this
        rw [List.getElem_append_left (by omega)] at this
        exact this

def posK (L : List Kp) (bed kind : Int) : Int := match L.findIdx? (isK bed kind) with
  | some i => (i : Int)
  | none => -1

theorem posK_hit {L : List Kp} {bed kind : Int} {i : Nat} (hi : i < L.length) (h : isK bed kind L[i] = true) (hno : ∀ j, (hj : j < L.length) → j < i → isK bed kind L[j] = false) : posK L bed kind = i ∧ findK L bed kind = some L[i] := by
  refine ⟨?_, ?_⟩
  · unfold posK
    have : L.findIdx? (isK bed kind) = some i := by
      rw [List.findIdx?_eq_some_iff_getElem]
      exact ⟨hi, h, fun j hj => by rw [hno j (by omega) hj]; simp⟩
    rw [this]
  · unfold findK
    rw [List.find?_eq_some_iff_getElem]
    exact ⟨h, i, hi, rfl, fun j hj => by rw [hno j (by omega) hj]; rfl⟩

theorem posK_miss {L : List Kp} {bed kind : Int} (h : ∀ j, (hj : j < L.length) → isK bed kind L[j] = false) : posK L bed kind = -1 ∧ findK L bed kind = none := by
  have h' : ∀ x ∈ L, isK bed kind x = false := fun x hx => by
    obtain ⟨j, hj, rfl⟩ := List.getElem_of_mem hx
    exact h j hj
  refine ⟨?_, ?_⟩
  · unfold posK
    have : L.findIdx? (isK bed kind) = none := by
      rw [List.findIdx?_eq_none_iff]
      exact fun x hx => by rw [h' x hx]
    rw [this]
  · unfold findK
    rw [List.find?_eq_none]
    intro x hx
    rw [h' x hx]
    simp

theorem posK_ways (L : List Kp) (bed kind : Int) : (posK L bed kind = -1 ∧ findK L bed kind = none) ∨ ∃ i, ∃ hi : i < L.length, posK L bed kind = i ∧ findK L bed kind = some L[i] ∧ isK bed kind L[i] = true := by
  cases q : L.findIdx? (isK bed kind) with
  | none =>
    left
    have := List.findIdx?_eq_none_iff.1 q
    exact posK_miss fun j hj => this _ (List.getElem_mem hj)
  | some i =>
    right
    obtain ⟨hi, h, hno⟩ := List.findIdx?_eq_some_iff_getElem.1 q
    obtain ⟨a, b⟩ := posK_hit (bed := bed) (kind := kind) hi h (fun j hj hji => by have := hno j hji; simpa using this)
    exact ⟨i, hi, a, b, h⟩

/-- With no two of a key, one place alone is turned. -/
theorem map_place {L : List Kp} (h : (L.map keyK).Nodup) {i : Nat} (hi : i < L.length) {bed kind : Int} (hk : isK bed kind L[i] = true) (f : Kp → Kp) : L.map (fun x => if isK bed kind x = true then f x else x) = L.set i (f L[i]) := by
  refine List.ext_getElem (by simp) fun j h1 h2 => ?_
  have hj : j < L.length := by simpa using h1
  rw [List.getElem_map, List.getElem_set]
  by_cases e : i = j
  · subst e
    rw [if_pos hk, if_pos rfl]
  · rw [if_neg e, if_neg]
    intro hk2
    have a := isK_iff.1 hk
    have b := isK_iff.1 hk2
    have q : (L.map keyK)[i]'(by simpa using hi) = (L.map keyK)[j]'(by simpa using hj) := by
      simp [keyK, a.1, a.2, b.1, b.2]
    have hp := List.pairwise_iff_getElem.1 h
    rcases Nat.lt_or_gt_of_ne e with r | r
    · exact hp i j (by simpa using hi) (by simpa using hj) r q
    · exact hp j i (by simpa using hj) (by simpa using hi) r q.symm

/-- Set of one that is there, See of one that is there: at its place. -/
theorem setT_place {L : List Kp} {m : Nat} (ok : OkT L m) {l : Lm} (hm : mayL l = true) {i : Nat} (hi : i < L.length) (hk : isK l.bed l.kind L[i] = true) (hf : findK L l.bed l.kind = some L[i]) : setE L l = 0 ∧ setT L l = L.set i ⟨l, 0⟩ := by
  obtain ⟨e1, e2⟩ := setT_there hm hf
  refine ⟨e1, ?_⟩
  rw [e2]
  exact map_place ok.uniq hi hk (fun _ => ⟨l, 0⟩)

theorem seeT_place {L : List Kp} {m : Nat} (ok : OkT L m) {bed kind : Int} (v : Int) {i : Nat} (hi : i < L.length) (hk : isK bed kind L[i] = true) : seeT L bed kind v = L.set i (stepK L[i] v) := map_place ok.uniq hi hk (fun x => stepK x v)

end Go.Proofs.Ytcloneccfbcclaa.Bt
