/- Plain: beds that stand in an order, each with a level; what a tick turns; no program is named here. -/
import Derived.Test.YthfmgdhhjnngaaaPure
namespace Go.Proofs.Ythfmgdhhjnngaaa.Bt

/-- A bed that stands in the order. -/
structure Sd where
  bed : Int
  prio : Int
  lv : Nat
  deriving DecidableEq

/-- A controller. -/
structure Ctl where
  waits : Nat
  calm : Nat
  beds : List Sd
  deriving DecidableEq

def isBedS (b : Int) (s : Sd) : Bool := decide (s.bed = b)
def lessS (p : Int) (s : Sd) : Bool := decide (s.prio < p)

/-- Where the first is of whom something holds; -1: none. -/
def posS (p : Sd → Bool) (l : List Sd) : Int := match l.findIdx? p with
  | some i => (i : Int)
  | none => -1

theorem posS_hit {p : Sd → Bool} {l : List Sd} {i : Nat} (hi : i < l.length) (h : p l[i] = true) (hn : ∀ j, (hj : j < i) → p (l[j]'(Nat.lt_trans hj hi)) = false) : posS p l = (i : Int) := by
  have e : l.findIdx? p = some i := by
    rw [List.findIdx?_eq_some_iff_getElem]
    exact ⟨hi, h, fun j hj => by simp [hn j hj]⟩
  unfold posS
  rw [e]

theorem posS_miss {p : Sd → Bool} {l : List Sd} (hn : ∀ j, (hj : j < l.length) → p l[j] = false) : posS p l = -1 := by
  have e : l.findIdx? p = none := by
    rw [List.findIdx?_eq_none_iff]
    intro s hs
    obtain ⟨j, hj, rfl⟩ := List.getElem_of_mem hs
    exact hn j hj
  unfold posS
  rw [e]

theorem posS_all (p : Sd → Bool) (l : List Sd) : (posS p l = -1 ∧ l.any p = false ∧ l.findIdx p = l.length) ∨ ∃ i : Nat, ∃ hi : i < l.length, posS p l = (i : Int) ∧ p l[i] = true ∧ l.any p = true ∧ l.findIdx p = i ∧ ∀ j, (hj : j < i) → p (l[j]'(Nat.lt_trans hj hi)) = false := by
  unfold posS
  cases q : l.findIdx? p with
  | none =>
    rw [List.findIdx?_eq_none_iff] at q
    exact .inl ⟨rfl, by rw [List.any_eq_false]; intro x hx; rw [q x hx]; simp, List.findIdx_eq_length.2 q⟩
  | some i =>
    have e := List.findIdx?_eq_some_iff_findIdx_eq.1 q
    rw [List.findIdx?_eq_some_iff_getElem] at q
    obtain ⟨hi, h1, h2⟩ := q
    exact .inr ⟨i, hi, rfl, h1, by rw [List.any_eq_true]; exact ⟨l[i], List.getElem_mem hi, h1⟩, e.2, fun j hj => by have := h2 j hj; simpa using this⟩

/-- Where a bed of a priority comes to stand. -/
def atS (p : Int) (l : List Sd) : Nat := l.findIdx (lessS p)

theorem atS_le (p : Int) (l : List Sd) : atS p l ≤ l.length := List.findIdx_le_length

def insS (l : List Sd) (s : Sd) : List Sd := l.insertIdx (atS s.prio l) s

def addE (x : Ctl) (b : Int) : Int := if x.beds.any (isBedS b) = true then 9 else if 8 ≤ x.beds.length then 7 else 0
def addC (x : Ctl) (b p : Int) : Ctl := if addE x b = 0 then { x with beds := insS x.beds ⟨b, p, 0⟩ } else x
def remE (x : Ctl) (b : Int) : Int := if x.beds.any (isBedS b) = true then 0 else 8
def remC (x : Ctl) (b : Int) : Ctl := { x with beds := x.beds.eraseIdx (x.beds.findIdx (isBedS b)) }

/-- The last one that isn't Off. -/
def upS : List Sd → Option Nat
  | [] => none
  | s :: l => match upS l with
    | some i => some (i + 1)
    | none => if s.lv = 3 then none else some 0

theorem upS_none {l : List Sd} (h : ∀ s ∈ l, s.lv = 3) : upS l = none := by
  induction l with
  | nil => rfl
  | cons s l ih => rw [upS, ih (fun t ht => h t (List.mem_cons_of_mem _ ht))]; simp [h s (List.mem_cons_self)]

theorem upS_some {l : List Sd} {i : Nat} (hi : i < l.length) (h : l[i].lv ≠ 3) (hn : ∀ j, (hj : j < l.length) → i < j → l[j].lv = 3) : upS l = some i := by
  induction l generalizing i with
  | nil => simp at hi
  | cons s l ih =>
    cases i with
    | zero =>
      rw [upS, upS_none]
      · simp at h; simp [h]
      · intro t ht
        obtain ⟨j, hj, rfl⟩ := List.getElem_of_mem ht
        exact hn (j + 1) (by simp; omega) (by omega)
    | succ i =>
      rw [upS, ih (i := i) (by simpa using hi) (by simpa using h) (fun j hj hij => hn (j + 1) (by simp; omega) (by omega))]

theorem upS_none_all {l : List Sd} (h : upS l = none) : ∀ s ∈ l, s.lv = 3 := by
  induction l with
  | nil => intro s hs; cases hs
  | cons t l ih =>
    rw [upS] at h
    split at h
    · cases h
    · rename_i q
      intro s hs
      rcases List.mem_cons.1 hs with rfl | hs
      · by_cases e : s.lv = 3
        · exact e
        · rw [if_neg e] at h; cases h
      · exact ih q s hs

theorem upS_at {l : List Sd} {i : Nat} (h : upS l = some i) : ∃ hi : i < l.length, l[i].lv ≠ 3 ∧ ∀ j, (hj : j < l.length) → i < j → l[j].lv = 3 := by
  induction l generalizing i with
  | nil => cases h
  | cons t l ih =>
    rw [upS] at h
    split at h
    · rename_i k q
      cases h
      obtain ⟨hk, h1, h2⟩ := ih q
      refine ⟨by simp; omega, by simpa using h1, fun j hj hij => ?_⟩
      obtain ⟨j', rfl⟩ : ∃ j', j = j' + 1 := ⟨j - 1, by omega⟩
      simpa using h2 j' (by simpa using hj) (by omega)
    · rename_i q
      have al := upS_none_all q
      by_cases e : t.lv = 3
      · rw [if_pos e] at h; cases h
      · rw [if_neg e] at h
        cases h
        refine ⟨by simp, by simpa using e, fun j hj hij => ?_⟩
        obtain ⟨j', rfl⟩ : ∃ j', j = j' + 1 := ⟨j - 1, by omega⟩
        simp only [List.getElem_cons_succ]
        exact al _ (List.getElem_mem _)

def oneS (s : Sd) : Sd := { s with lv := s.lv + 1 }
def zeroS (s : Sd) : Sd := { s with lv := 0 }

def shedL (l : List Sd) : List Sd := match upS l with
  | some i => l.modify i oneS
  | none => l

def shedD (l : List Sd) : Int := match upS l with
  | some i => (l.map Sd.bed).getD i (-1)
  | none => -1

def tickD (x : Ctl) (o : Bool) : Int := if o = true then shedD x.beds else -1
def tickC (x : Ctl) (o : Bool) : Ctl := if o = true then { x with calm := 0, beds := shedL x.beds } else if x.calm + 1 = x.waits then { x with calm := 0, beds := x.beds.map zeroS } else { x with calm := x.calm + 1 }
def levS (x : Ctl) (b : Int) : Nat := match x.beds.find? (isBedS b) with
  | some s => s.lv
  | none => 3
def ordS (x : Ctl) : List Int := x.beds.map Sd.bed

structure Ctl.Ok (x : Ctl) : Prop where
  few : x.beds.length ≤ 8
  lev : ∀ s ∈ x.beds, s.lv ≤ 3
  once : (x.beds.map Sd.bed).Nodup
  w1 : 1 ≤ x.waits
  w2 : x.waits ≤ 1000
  cw : x.calm < x.waits

/-- Is a point looked at? -/
def lookS (v p : Int) : Bool := if p < 0 then false else if v = 0 then true else if v = 1 then decide (p % 2 = 0) else if v = 2 then decide (p % 4 = 0) else false

theorem shedL_hit {l : List Sd} {i : Nat} (h : upS l = some i) : shedL l = l.modify i oneS := by unfold shedL; rw [h]
theorem shedL_miss {l : List Sd} (h : upS l = none) : shedL l = l := by unfold shedL; rw [h]
theorem shedD_hit {l : List Sd} {i : Nat} (hi : i < l.length) (h : upS l = some i) : shedD l = l[i].bed := by unfold shedD; rw [h]; simp [hi]
theorem shedD_miss {l : List Sd} (h : upS l = none) : shedD l = -1 := by unfold shedD; rw [h]

theorem bed_modify (l : List Sd) (i : Nat) : (l.modify i oneS).map Sd.bed = l.map Sd.bed := by
  apply List.ext_getElem?
  intro j
  simp only [List.getElem?_map, List.getElem?_modify]
  split
  · cases l[j]? <;> rfl
  · cases l[j]? <;> rfl

theorem prio_modify (l : List Sd) (i : Nat) : (l.modify i oneS).map Sd.prio = l.map Sd.prio := by
  apply List.ext_getElem?
  intro j
  simp only [List.getElem?_map, List.getElem?_modify]
  split
  · cases l[j]? <;> rfl
  · cases l[j]? <;> rfl

theorem shedL_bed (l : List Sd) : (shedL l).map Sd.bed = l.map Sd.bed := by
  unfold shedL
  split
  · exact bed_modify l _
  · rfl

theorem shedL_length (l : List Sd) : (shedL l).length = l.length := by
  have := congrArg List.length (shedL_bed l)
  simpa using this

theorem zero_bed (l : List Sd) : (l.map zeroS).map Sd.bed = l.map Sd.bed := by
  rw [List.map_map]; rfl

theorem tickC_bed (x : Ctl) (o : Bool) : (tickC x o).beds.map Sd.bed = x.beds.map Sd.bed := by
  unfold tickC
  split
  · exact shedL_bed _
  · split
    · exact zero_bed _
    · rfl

theorem tickC_waits (x : Ctl) (o : Bool) : (tickC x o).waits = x.waits := by
  unfold tickC
  split
  · rfl
  · split <;> rfl

theorem ok_tick {x : Ctl} (h : x.Ok) (o : Bool) : (tickC x o).Ok := by
  have hb := tickC_bed x o
  have hl : (tickC x o).beds.length = x.beds.length := by simpa using congrArg List.length hb
  refine ⟨by rw [hl]; exact h.few, ?_, by rw [hb]; exact h.once, by rw [tickC_waits]; exact h.w1, by rw [tickC_waits]; exact h.w2, ?_⟩
  · unfold tickC
    split
    · show ∀ s ∈ shedL x.beds, s.lv ≤ 3
      intro s hs
      cases q : upS x.beds with
      | none => rw [shedL_miss q] at hs; exact h.lev s hs
      | some i =>
        obtain ⟨hi, h1, _⟩ := upS_at q
        rw [shedL_hit q] at hs
        obtain ⟨j, hj, rfl⟩ := List.getElem_of_mem hs
        rw [List.getElem_modify]
        have hj' : j < x.beds.length := by simpa using hj
        have := h.lev x.beds[j] (List.getElem_mem hj')
        split
        · rename_i e
          subst e
          show x.beds[i].lv + 1 ≤ 3
          omega
        · exact this
    · split
      · intro s hs
        obtain ⟨t, _, rfl⟩ := List.mem_map.1 hs
        exact Nat.zero_le _
      · exact h.lev
  · rw [tickC_waits]
    have := h.w1
    have := h.cw
    unfold tickC
    split
    · show 0 < x.waits; omega
    · split
      · show 0 < x.waits; omega
      · show x.calm + 1 < x.waits; omega

theorem ins_mem {l : List Sd} {s t : Sd} (h : t ∈ insS l s) : t = s ∨ t ∈ l := by
  unfold insS at h
  exact (List.mem_insertIdx (atS_le _ _)).1 h

theorem ins_length (l : List Sd) (s : Sd) : (insS l s).length = l.length + 1 := by
  unfold insS
  rw [List.length_insertIdx_of_le_length (atS_le _ _)]

theorem map_insertIdx {α β : Type} (f : α → β) (l : List α) (i : Nat) (a : α) : (l.insertIdx i a).map f = (l.map f).insertIdx i (f a) := by
  induction l generalizing i with
  | nil => cases i <;> rfl
  | cons b l ih =>
    cases i with
    | zero => rfl
    | succ i => simp [List.insertIdx_succ_cons, ih]

theorem map_eraseIdx {α β : Type} (f : α → β) (l : List α) (i : Nat) : (l.eraseIdx i).map f = (l.map f).eraseIdx i := by
  induction l generalizing i with
  | nil => rfl
  | cons b l ih =>
    cases i with
    | zero => rfl
    | succ i => simp [ih]

theorem map_modify {α β : Type} (f : α → β) (g : α → α) (g' : β → β) (hg : ∀ a, f (g a) = g' (f a)) (l : List α) (i : Nat) : (l.modify i g).map f = (l.map f).modify i g' := by
  apply List.ext_getElem?
  intro j
  simp only [List.getElem?_map, List.getElem?_modify]
  split
  · cases l[j]? with
    | none => rfl
    | some a => simp [hg]
  · cases l[j]? <;> rfl

theorem nodup_insertIdx {α : Type} {l : List α} {i : Nat} {a : α} (h : l.Nodup) (ha : a ∉ l) : (l.insertIdx i a).Nodup := by
  induction l generalizing i with
  | nil =>
    cases i with
    | zero => simp
    | succ i => simp
  | cons b l ih =>
    cases i with
    | zero => simpa using ⟨by simpa using ha, by simpa using h⟩
    | succ i =>
      rw [List.insertIdx_succ_cons, List.nodup_cons]
      simp only [List.nodup_cons, List.mem_cons, not_or] at h ha
      refine ⟨fun q => ?_, ih h.2 ha.2⟩
      by_cases hi : i ≤ l.length
      · rcases (List.mem_insertIdx hi).1 q with e | e
        · exact ha.1 e.symm
        · exact h.1 e
      · rw [List.insertIdx_of_length_lt (by omega)] at q
        exact h.1 q

theorem bed_not_mem {l : List Sd} {b : Int} (h : l.any (isBedS b) = false) : b ∉ l.map Sd.bed := by
  intro q
  obtain ⟨s, hs, e⟩ := List.mem_map.1 q
  rw [List.any_eq_false] at h
  exact h s hs (by simp [isBedS, e])

theorem addE_zero {x : Ctl} {b : Int} (h : addE x b = 0) : x.beds.any (isBedS b) = false ∧ x.beds.length < 8 := by
  unfold addE at h
  split at h
  · cases h
  · rename_i q
    split at h
    · cases h
    · exact ⟨by simpa using q, by omega⟩

theorem ok_add {x : Ctl} (h : x.Ok) (b p : Int) : (addC x b p).Ok := by
  unfold addC
  split
  · rename_i e
    obtain ⟨e1, e2⟩ := addE_zero e
    refine ⟨by show (insS _ _).length ≤ 8; rw [ins_length]; omega, fun s hs => ?_, ?_, h.w1, h.w2, h.cw⟩
    · rcases ins_mem hs with rfl | q
      · exact Nat.zero_le _
      · exact h.lev s q
    · show ((insS x.beds ⟨b, p, 0⟩).map Sd.bed).Nodup
      unfold insS
      rw [map_insertIdx]
      exact nodup_insertIdx h.once (bed_not_mem e1)
  · exact h

theorem ok_rem {x : Ctl} (h : x.Ok) (b : Int) : (remC x b).Ok := by
  refine ⟨Nat.le_trans (List.length_eraseIdx_le _ _) h.few, fun s hs => h.lev s (List.mem_of_mem_eraseIdx hs), ?_, h.w1, h.w2, h.cw⟩
  show ((x.beds.eraseIdx _).map Sd.bed).Nodup
  rw [map_eraseIdx]
  exact h.once.sublist (List.eraseIdx_sublist _ _)

theorem levS_at {x : Ctl} (h : (x.beds.map Sd.bed).Nodup) {i : Nat} (hi : i < x.beds.length) : levS x x.beds[i].bed = x.beds[i].lv := by
  unfold levS
  have e : x.beds.find? (isBedS x.beds[i].bed) = some x.beds[i] := by
    rw [List.find?_eq_some_iff_getElem]
    refine ⟨by simp [isBedS], i, hi, rfl, fun j hj => ?_⟩
    have : x.beds[j].bed ≠ x.beds[i].bed := fun q => by
      have hh := List.pairwise_iff_getElem.1 h j i (by simp; omega) (by simpa using hi) hj
      exact hh (by simpa using q)
    simp [isBedS, this]
  rw [e]

theorem levS_pos (x : Ctl) (b : Int) : (posS (isBedS b) x.beds = -1 ∧ levS x b = 3) ∨ ∃ i : Nat, ∃ hi : i < x.beds.length, posS (isBedS b) x.beds = (i : Int) ∧ levS x b = x.beds[i].lv := by
  rcases posS_all (isBedS b) x.beds with ⟨h1, h2, _⟩ | ⟨i, hi, h1, h2, _, _, h3⟩
  · refine .inl ⟨h1, ?_⟩
    unfold levS
    rw [List.find?_eq_none.2 (fun s hs => by rw [List.any_eq_false] at h2; exact h2 s hs)]
  · refine .inr ⟨i, hi, h1, ?_⟩
    unfold levS
    have e : x.beds.find? (isBedS b) = some x.beds[i] := by
      rw [List.find?_eq_some_iff_getElem]
      exact ⟨h2, i, hi, rfl, fun j hj => by simp [h3 j hj]⟩
    rw [e]

end Go.Proofs.Ythfmgdhhjnngaaa.Bt
