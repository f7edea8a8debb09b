/- Plain: beds that are watched; no program is named here. -/
import Derived.Test.YtngfgahdiobcmaaPure
namespace Go.Proofs.Ytngfgahdiobcmaa.Bt

/-- Where the first that a test takes is; -1. -/
def posP {α : Type} (p : α → Bool) (L : List α) : Int := match L.findIdx? p with
  | some i => (i : Int)
  | none => -1

theorem posP_hit {α : Type} {p : α → Bool} {L : List α} {i : Nat} (hi : i < L.length) (h : p L[i] = true) (hno : ∀ j, (hj : j < L.length) → j < i → p L[j] = false) : posP p L = i ∧ L.find? p = some L[i] := by
  refine ⟨?_, ?_⟩
  · unfold posP
    have : L.findIdx? p = some i := by
      rw [List.findIdx?_eq_some_iff_getElem]
      exact ⟨hi, h, fun j hj => by rw [hno j (by omega) hj]; simp⟩
    rw [this]
  · rw [List.find?_eq_some_iff_getElem]
    exact ⟨h, i, hi, rfl, fun j hj => by rw [hno j (by omega) hj]; rfl⟩

theorem posP_miss {α : Type} {p : α → Bool} {L : List α} (h : ∀ j, (hj : j < L.length) → p L[j] = false) : posP p L = -1 ∧ L.find? p = none := by
  have h' : ∀ x ∈ L, p x = false := fun x hx => by
    obtain ⟨j, hj, rfl⟩ := List.getElem_of_mem hx
    exact h j hj
  refine ⟨?_, ?_⟩
  · unfold posP
    have : L.findIdx? p = none := by
      rw [List.findIdx?_eq_none_iff]
      exact fun x hx => by rw [h' x hx]
    rw [this]
  · rw [List.find?_eq_none]
    intro x hx
    rw [h' x hx]
    simp

theorem posP_ways {α : Type} (p : α → Bool) (L : List α) : (posP p L = -1 ∧ L.find? p = none ∧ ∀ x ∈ L, p x = false) ∨ ∃ i, ∃ hi : i < L.length, posP p L = i ∧ L.find? p = some L[i] ∧ p L[i] = true := by
  cases q : L.findIdx? p with
  | none =>
    left
    have := List.findIdx?_eq_none_iff.1 q
    obtain ⟨a, b⟩ := posP_miss (p := p) (L := L) fun j hj => this _ (List.getElem_mem hj)
    exact ⟨a, b, this⟩
  | some i =>
    right
    obtain ⟨hi, h, hno⟩ := List.findIdx?_eq_some_iff_getElem.1 q
    obtain ⟨a, b⟩ := posP_hit (p := p) hi h (fun j hj hji => by have := hno j hji; simpa using this)
    exact ⟨i, hi, a, b, h⟩

/-- A bed that is watched: how long it may be silent, when it was heard, is it lost? -/
structure Wb where
  bed : Int
  most : Int
  last : Int
  lost : Bool
  deriving DecidableEq

def isWb (bed : Int) (x : Wb) : Bool := decide (x.bed = bed)

theorem isWb_iff {bed : Int} {x : Wb} : isWb bed x = true ↔ x.bed = bed := by simp [isWb]

def mostWb (m : Int) : Bool := decide (1 ≤ m) && decide (m ≤ 1000)

def lostWb (L : List Wb) (bed : Int) : Bool := match L.find? (isWb bed) with
  | some x => x.lost
  | none => false

def addWe (L : List Wb) (bed most : Int) : Int := if mostWb most = true then (if (L.find? (isWb bed)).isSome then 9 else if 8 ≤ L.length then 7 else 0) else 1

def addWt (L : List Wb) (bed most now : Int) : List Wb := if addWe L bed most = 0 then L ++ [⟨bed, most, now, false⟩] else L

def remWe (L : List Wb) (bed : Int) : Int := if (L.find? (isWb bed)).isSome then 0 else 8

def remWt (L : List Wb) (bed : Int) : List Wb := L.filter fun x => !isWb bed x

def heardWt (L : List Wb) (bed now : Int) : List Wb := L.map fun x => if isWb bed x = true then { x with last := now, lost := false } else x

/-- Is it lost by a look at a time? -/
def dueWb (now : Int) (x : Wb) : Bool := !x.lost && decide (x.last + x.most < now)

def lookOne (now : Int) (x : Wb) : Wb := if dueWb now x = true then { x with lost := true } else x

def lookWt (L : List Wb) (now : Int) : List Wb := L.map (lookOne now)

def lookWl (L : List Wb) (now : Int) : List Int := (L.filter (dueWb now)).map Wb.bed

def bedsWb (L : List Wb) : List Int := L.map Wb.bed

/-- A time that may be. -/
def timeWb (t : Int) : Prop := 0 ≤ t ∧ t ≤ 1099511627776

structure OkWb (L : List Wb) : Prop where
  few : L.length ≤ 8
  once : (L.map Wb.bed).Nodup
  most : ∀ x ∈ L, 1 ≤ x.most ∧ x.most ≤ 1000
  last : ∀ x ∈ L, timeWb x.last

theorem okWb_nil : OkWb [] := ⟨by simp, by simp, fun x hx => (by cases hx), fun x hx => (by cases hx)⟩

theorem mostWb_true {m : Int} (h : mostWb m = true) : 1 ≤ m ∧ m ≤ 1000 := by simpa [mostWb] using h

theorem mostWb_false {m : Int} (h : mostWb m = false) : m < 1 ∨ 1000 < m := by
  simp [mostWb] at h
  omega

/-- One place alone is turned. -/
theorem map_placeW {L : List Wb} (h : (L.map Wb.bed).Nodup) {i : Nat} (hi : i < L.length) {bed : Int} (hk : isWb bed L[i] = true) (f : Wb → Wb) : L.map (fun x => if isWb bed x = true then f x else x) = L.set i (f L[i]) := by
  refine List.ext_getElem (by simp) fun j h1 h2 => ?_
  have hj : j < L.length := by simpa using h1
  rw [List.getElem_map, List.getElem_set]
  by_cases e : i = j
  · subst e
    rw [if_pos hk, if_pos rfl]
  · rw [if_neg e, if_neg]
    intro hk2
    have a := isWb_iff.1 hk
    have b := isWb_iff.1 hk2
    have q : (L.map Wb.bed)[i]'(by simpa using hi) = (L.map Wb.bed)[j]'(by simpa using hj) := by
      simp [a, b]
    have hp := List.pairwise_iff_getElem.1 h
    rcases Nat.lt_or_gt_of_ne e with r | r
    · exact hp i j (by simpa using hi) (by simpa using hj) r q
    · exact hp j i (by simpa using hj) (by simpa using hi) r q.symm

theorem rem_place {L : List Wb} (h : (L.map Wb.bed).Nodup) {i : Nat} (hi : i < L.length) {bed : Int} (hk : isWb bed L[i] = true) : remWt L bed = L.take i ++ L.drop (i + 1) := by
  have hp := List.pairwise_iff_getElem.1 h
  have other : ∀ j, (hj : j < L.length) → j ≠ i → isWb bed L[j] = false := fun j hj e => by
    cases r : isWb bed L[j] with
    | false => rfl
    | true =>
      have a := isWb_iff.1 hk
      have b := isWb_iff.1 r
      have q : (L.map Wb.bed)[i]'(by simpa using hi) = (L.map Wb.bed)[j]'(by simpa using hj) := by simp [a, b]
      rcases Nat.lt_or_gt_of_ne e with r | r
      · exact absurd q.symm (hp j i (by simpa using hj) (by simpa using hi) r)
      · exact absurd q (hp i j (by simpa using hi) (by simpa using hj) r)
  have e : L = L.take i ++ L[i] :: L.drop (i + 1) := by
    rw [List.getElem_cons_drop, List.take_append_drop]
  unfold remWt
  conv => lhs; rw [e]
  rw [List.filter_append, List.filter_cons, if_neg (by rw [hk]; simp)]
  congr 1
  · rw [List.filter_eq_self]
    intro x hx
    obtain ⟨j, hj, rfl⟩ := List.getElem_of_mem hx
    have hj' : j < L.length := by rw [List.length_take] at hj; omega
    rw [List.getElem_take, other j hj' (by rw [List.length_take] at hj; omega)]
    rfl
  · rw [List.filter_eq_self]
    intro x hx
    obtain ⟨j, hj, rfl⟩ := List.getElem_of_mem hx
    rw [List.length_drop] at hj
    rw [List.getElem_drop, other (i + 1 + j) (by omega) (by omega)]
    rfl

theorem rem_none {L : List Wb} {bed : Int} (h : ∀ x ∈ L, isWb bed x = false) : remWt L bed = L := by
  unfold remWt
  rw [List.filter_eq_self]
  intro x hx
  rw [h x hx]
  rfl

theorem heard_none {L : List Wb} {bed : Int} (now : Int) (h : ∀ x ∈ L, isWb bed x = false) : heardWt L bed now = L := by
  unfold heardWt
  conv => rhs; rw [← List.map_id L]
  refine List.map_congr_left fun x hx => ?_
  rw [h x hx]
  rfl

theorem addWt_ok {L : List Wb} (ok : OkWb L) (bed most now : Int) (ht : timeWb now) : OkWb (addWt L bed most now) := by
  unfold addWt
  split
  · rename_i h
    unfold addWe at h
    split at h
    · rename_i hm
      split at h
      · cases h
      · rename_i hf
        split at h
        · cases h
        · rename_i hl
          have hn : ∀ x ∈ L, x.bed ≠ bed := fun x hx e => by
            have : (L.find? (isWb bed)).isSome = true := by
              rw [List.find?_isSome]
              exact ⟨x, hx, isWb_iff.2 e⟩
            exact hf this
          refine ⟨by simp; omega, ?_, fun x hx => ?_, fun x hx => ?_⟩
          · rw [List.map_append, List.nodup_append]
            refine ⟨ok.once, by simp, fun a ha c hc e => ?_⟩
            obtain ⟨y, hy, rfl⟩ := List.mem_map.1 ha
            simp at hc
            subst hc
            exact hn y hy e
          · rcases List.mem_append.1 hx with hx | hx
            · exact ok.most x hx
            · obtain rfl := List.mem_singleton.1 hx
              exact mostWb_true hm
          · rcases List.mem_append.1 hx with hx | hx
            · exact ok.last x hx
            · obtain rfl := List.mem_singleton.1 hx
              exact ht
    · cases h
  · exact ok

theorem remWt_ok {L : List Wb} (ok : OkWb L) (bed : Int) : OkWb (remWt L bed) := by
  have hs : (remWt L bed).Sublist L := List.filter_sublist
  exact ⟨Nat.le_trans hs.length_le ok.few, ok.once.sublist (hs.map _), fun x hx => ok.most x (hs.subset hx), fun x hx => ok.last x (hs.subset hx)⟩

theorem map_okW {L : List Wb} (ok : OkWb L) (f : Wb → Wb) (hb : ∀ x, (f x).bed = x.bed) (hm : ∀ x, (f x).most = x.most) (hl : ∀ x ∈ L, timeWb (f x).last) : OkWb (L.map f) := by
  refine ⟨by simpa using ok.few, ?_, fun x hx => ?_, fun x hx => ?_⟩
  · rw [List.map_map, show (Wb.bed ∘ f) = Wb.bed from funext hb]
    exact ok.once
  · obtain ⟨y, hy, rfl⟩ := List.mem_map.1 hx
    rw [hm]
    exact ok.most y hy
  · obtain ⟨y, hy, rfl⟩ := List.mem_map.1 hx
    exact hl y hy

theorem heardWt_ok {L : List Wb} (ok : OkWb L) (bed now : Int) (ht : timeWb now) : OkWb (heardWt L bed now) :=
  map_okW ok _ (fun x => by split <;> rfl) (fun x => by split <;> rfl) (fun x hx => by
    split
    · exact ht
    · exact ok.last x hx)

theorem lookWt_ok {L : List Wb} (ok : OkWb L) (now : Int) : OkWb (lookWt L now) :=
  map_okW ok _ (fun x => by unfold lookOne; split <;> rfl) (fun x => by unfold lookOne; split <;> rfl) (fun x hx => by
    unfold lookOne
    split
    · exact ok.last x hx
    · exact ok.last x hx)

/-- A look under way. -/
def lookAt (L : List Wb) (now : Int) (t : Nat) : List Wb := (L.take t).map (lookOne now) ++ L.drop t

theorem lookAt_len (L : List Wb) (now : Int) (t : Nat) : (lookAt L now t).length = L.length := by
  simp [lookAt]
  omega

theorem lookAt_zero (L : List Wb) (now : Int) : lookAt L now 0 = L := by simp [lookAt]

theorem lookAt_end (L : List Wb) (now : Int) : lookAt L now L.length = lookWt L now := by simp [lookAt, lookWt]

theorem lookAt_here {L : List Wb} (now : Int) {t : Nat} (ht : t < L.length) : (lookAt L now t)[t]'(by rw [lookAt_len]; exact ht) = L[t] := by
  unfold lookAt
  rw [List.getElem_append_right (by simp; omega)]
  simp
  congr 1
  omega

theorem lookAt_next {L : List Wb} (now : Int) {t : Nat} (ht : t < L.length) : (lookAt L now t).set t (lookOne now L[t]) = lookAt L now (t + 1) := by
  unfold lookAt
  have hl : ((L.take t).map (lookOne now)).length = t := by simp; omega
  rw [List.set_append_right _ _ (by omega), hl, Nat.sub_self, List.take_succ_eq_append_getElem ht, List.map_append, List.drop_eq_getElem_cons ht]
  simp only [List.set_cons_zero, List.map_cons, List.map_nil, List.append_assoc, List.singleton_append]

theorem lookAt_same {L : List Wb} (now : Int) {t : Nat} (ht : t < L.length) (h : dueWb now L[t] = false) : lookAt L now t = lookAt L now (t + 1) := by
  rw [← lookAt_next now ht]
  have e : lookOne now L[t] = L[t] := by unfold lookOne; rw [if_neg (by rw [h]; simp)]
  rw [e]
  have := lookAt_here now ht
  conv => rhs; rw [← this]
  rw [List.set_getElem_self]

theorem lookWl_next {L : List Wb} (now : Int) {t : Nat} (ht : t < L.length) : lookWl (L.take (t + 1)) now = lookWl (L.take t) now ++ (if dueWb now L[t] = true then [L[t].bed] else []) := by
  unfold lookWl
  rw [List.take_succ_eq_append_getElem ht, List.filter_append, List.map_append]
  congr 1
  simp only [List.filter_cons, List.filter_nil]
  split <;> rfl

end Go.Proofs.Ytngfgahdiobcmaa.Bt
