/- Plain: limits, and how many values came beyond each; no program is named here. -/
import Derived.Test.YtcloneccfbcclaaPure
namespace Go.Proofs.Ytcloneccfbcclaa.Bt

/-- A limit. -/
structure Lm where
  bed : Int
  kind : Int
  lo : Int
  hi : Int
  cnt : Int
  deriving DecidableEq

/-- A limit, and how many values beyond it came one behind the other. -/
structure Kp where
  lm : Lm
  n : Nat
  deriving DecidableEq

def inL (n f t : Int) : Bool := decide (f ≤ n) && decide (n ≤ t)

def rightL (k t v : Int) : Bool := decide ((1 ≤ k ∧ k ≤ 5) ∧ (0 ≤ t ∧ t ≤ 255) ∧ (0 ≤ v ∧ v ≤ 999) ∧ (k = 5 → v ≤ 255))

/-- May a limit of a kind end there? -/
def endL (k v : Int) : Bool := inL k 1 4 && inL v 0 999

theorem endL_eq (k v : Int) : (rightL k 0 v && decide (k ≠ 5)) = endL k v := by
  rw [Bool.eq_iff_iff]
  simp only [rightL, endL, inL, Bool.and_eq_true, decide_eq_true_eq]
  omega

/-- May a limit be? -/
def mayL (l : Lm) : Bool := inL l.bed 0 99 && (endL l.kind l.lo && (endL l.kind l.hi && (decide (l.lo ≤ l.hi) && inL l.cnt 1 100)))

theorem mayL_true {l : Lm} (h : mayL l = true) : 0 ≤ l.bed ∧ l.bed ≤ 99 ∧ 1 ≤ l.kind ∧ l.kind ≤ 4 ∧ 0 ≤ l.lo ∧ l.lo ≤ l.hi ∧ l.hi ≤ 999 ∧ 1 ≤ l.cnt ∧ l.cnt ≤ 100 := by
  simp only [mayL, endL, inL, Bool.and_eq_true, decide_eq_true_eq] at h
  omega

def isK (bed kind : Int) (x : Kp) : Bool := decide (x.lm.bed = bed) && decide (x.lm.kind = kind)

theorem isK_iff {bed kind : Int} {x : Kp} : isK bed kind x = true ↔ x.lm.bed = bed ∧ x.lm.kind = kind := by simp [isK]

theorem isK_self (x : Kp) : isK x.lm.bed x.lm.kind x = true := isK_iff.2 ⟨rfl, rfl⟩

def keyK (x : Kp) : Int × Int := (x.lm.bed, x.lm.kind)

def findK (L : List Kp) (bed kind : Int) : Option Kp := L.find? (isK bed kind)

theorem findK_mem {L : List Kp} {bed kind : Int} {x : Kp} (h : findK L bed kind = some x) : x ∈ L ∧ x.lm.bed = bed ∧ x.lm.kind = kind :=
  ⟨List.mem_of_find?_eq_some h, isK_iff.1 (List.find?_some h)⟩

theorem findK_none {L : List Kp} {bed kind : Int} (h : findK L bed kind = none) : ∀ x ∈ L, isK bed kind x = false := fun x hx => by
  have := List.find?_eq_none.1 h x hx
  simpa using this

theorem findK_map {L : List Kp} {f : Kp → Kp} (hf : ∀ x, (f x).lm.bed = x.lm.bed ∧ (f x).lm.kind = x.lm.kind) (bed kind : Int) : findK (L.map f) bed kind = (findK L bed kind).map f := by
  unfold findK
  rw [List.find?_map]
  congr 2
  funext x
  simp [isK, (hf x).1, (hf x).2]

def alarmK (x : Kp) : Bool := decide (x.lm.cnt ≤ (x.n : Int))

def onK (L : List Kp) (bed kind : Int) : Bool := match findK L bed kind with
  | some x => alarmK x
  | none => false

def beyK (L : List Kp) (bed kind : Int) : Nat := match findK L bed kind with
  | some x => x.n
  | none => 0

def outK (l : Lm) (v : Int) : Bool := decide (v < l.lo) || decide (l.hi < v)

def stepK (x : Kp) (v : Int) : Kp := ⟨x.lm, if outK x.lm v = true then x.n + 1 else 0⟩

def seeT (L : List Kp) (bed kind v : Int) : List Kp := L.map fun x => if isK bed kind x = true then stepK x v else x

def setE (L : List Kp) (l : Lm) : Int := if mayL l = true then (if (findK L l.bed l.kind).isNone && decide (40 ≤ L.length) then 7 else 0) else 1

def setT (L : List Kp) (l : Lm) : List Kp := if setE L l = 0 then (if (findK L l.bed l.kind).isSome then L.map (fun x => if isK l.bed l.kind x = true then ⟨l, 0⟩ else x) else L ++ [⟨l, 0⟩]) else L

def dropT (L : List Kp) (bed : Int) : List Kp := L.filter fun x => !decide (x.lm.bed = bed)

def dropN (L : List Kp) (bed : Int) : Nat := L.length - (dropT L bed).length

def listT (L : List Kp) : List Lm := L.map Kp.lm

/-- What holds of a table all along; m: at most so many values came. -/
structure OkT (L : List Kp) (m : Nat) : Prop where
  few : L.length ≤ 40
  may : ∀ x ∈ L, mayL x.lm = true
  uniq : (L.map keyK).Nodup
  bnd : ∀ x ∈ L, x.n ≤ m

theorem OkT.more {L : List Kp} {m k : Nat} (h : OkT L m) (hk : m ≤ k) : OkT L k := ⟨h.few, h.may, h.uniq, fun x hx => Nat.le_trans (h.bnd x hx) hk⟩

theorem okT_nil (m : Nat) : OkT [] m := ⟨by simp, fun x hx => (by cases hx), by simp, fun x hx => (by cases hx)⟩

theorem stepK_le (x : Kp) (v : Int) (m : Nat) (h : x.n ≤ m) : (stepK x v).n ≤ m + 1 := by
  unfold stepK
  simp only
  split <;> omega

theorem keyK_see (bed kind v : Int) (x : Kp) : keyK (if isK bed kind x = true then stepK x v else x) = keyK x := by
  split <;> rfl

theorem seeT_ok {L : List Kp} {m : Nat} (h : OkT L m) (bed kind v : Int) : OkT (seeT L bed kind v) (m + 1) := by
  refine ⟨by simpa [seeT] using h.few, fun x hx => ?_, ?_, fun x hx => ?_⟩
  · obtain ⟨y, hy, rfl⟩ := List.mem_map.1 hx
    have := h.may y hy
    split
    · exact this
    · exact this
  · unfold seeT
    rw [List.map_map, show (keyK ∘ fun x => if isK bed kind x = true then stepK x v else x) = keyK from funext (keyK_see bed kind v)]
    exact h.uniq
  · obtain ⟨y, hy, rfl⟩ := List.mem_map.1 hx
    have := h.bnd y hy
    split
    · exact stepK_le y v m this
    · omega

theorem seeT_keys (L : List Kp) (bed kind v : Int) : (seeT L bed kind v).map keyK = L.map keyK := by
  unfold seeT
  rw [List.map_map, show (keyK ∘ fun x => if isK bed kind x = true then stepK x v else x) = keyK from funext (keyK_see bed kind v)]

theorem seeT_find (L : List Kp) (bed kind v b k : Int) : findK (seeT L bed kind v) b k = if (b, k) = (bed, kind) then (findK L b k).map (fun x => stepK x v) else findK L b k := by
  unfold seeT
  rw [findK_map (fun x => by split <;> exact ⟨rfl, rfl⟩)]
  cases q : findK L b k with
  | none => simp
  | some x =>
    obtain ⟨_, e1, e2⟩ := findK_mem q
    by_cases h : (b, k) = (bed, kind)
    · rw [if_pos h]
      have hh : isK bed kind x = true := by
        cases h
        exact isK_iff.2 ⟨e1, e2⟩
      simp [hh]
    · rw [if_neg h]
      have hh : isK bed kind x = false := by
        cases r : isK bed kind x with
        | false => rfl
        | true =>
          have := isK_iff.1 r
          exact absurd (by rw [← e1, ← e2, this.1, this.2]) h
      simp [hh]

theorem seeT_none {L : List Kp} {bed kind : Int} (v : Int) (h : findK L bed kind = none) : seeT L bed kind v = L := by
  unfold seeT
  conv => rhs; rw [← List.map_id L]
  refine List.map_congr_left fun x hx => ?_
  rw [findK_none h x hx]
  rfl

/-- Set of one that is there. -/
theorem setT_there {L : List Kp} {l : Lm} (hm : mayL l = true) {x : Kp} (hf : findK L l.bed l.kind = some x) : setE L l = 0 ∧ setT L l = L.map (fun x => if isK l.bed l.kind x = true then ⟨l, 0⟩ else x) := by
  have e : setE L l = 0 := by simp [setE, hm, hf]
  exact ⟨e, by simp [setT, e, hf]⟩

theorem setT_new {L : List Kp} {l : Lm} (hm : mayL l = true) (hf : findK L l.bed l.kind = none) (hl : L.length < 40) : setE L l = 0 ∧ setT L l = L ++ [⟨l, 0⟩] := by
  have e : setE L l = 0 := by simp [setE, hm, hf]; omega
  exact ⟨e, by simp [setT, e, hf]⟩

theorem setT_full {L : List Kp} {l : Lm} (hm : mayL l = true) (hf : findK L l.bed l.kind = none) (hl : 40 ≤ L.length) : setE L l = 7 ∧ setT L l = L := by
  have e : setE L l = 7 := by simp [setE, hm, hf]; omega
  exact ⟨e, by simp [setT, e]⟩

theorem setT_not {L : List Kp} {l : Lm} (hm : mayL l = false) : setE L l = 1 ∧ setT L l = L := by
  have e : setE L l = 1 := by simp [setE, hm]
  exact ⟨e, by simp [setT, e]⟩

theorem set_keys (L : List Kp) (l : Lm) : (L.map (fun x => if isK l.bed l.kind x = true then (⟨l, 0⟩ : Kp) else x)).map keyK = L.map keyK := by
  rw [List.map_map]
  refine List.map_congr_left fun x _ => ?_
  simp only [Function.comp]
  split
  · rename_i h
    have := isK_iff.1 h
    simp [keyK, this.1, this.2]
  · rfl

theorem set_find (L : List Kp) (l : Lm) {x : Kp} (hf : findK L l.bed l.kind = some x) (b k : Int) : findK (L.map (fun x => if isK l.bed l.kind x = true then (⟨l, 0⟩ : Kp) else x)) b k = if (b, k) = (l.bed, l.kind) then some ⟨l, 0⟩ else findK L b k := by
  rw [findK_map (fun y => by
    split
    · rename_i h
      have := isK_iff.1 h
      exact ⟨this.1.symm, this.2.symm⟩
    · exact ⟨rfl, rfl⟩)]
  by_cases h : (b, k) = (l.bed, l.kind)
  · rw [if_pos h]
    cases h
    rw [hf]
    obtain ⟨_, e1, e2⟩ := findK_mem hf
    simp [isK_iff.2 ⟨e1, e2⟩]
  · rw [if_neg h]
    cases q : findK L b k with
    | none => rfl
    | some y =>
      obtain ⟨_, e1, e2⟩ := findK_mem q
      have hh : isK l.bed l.kind y = false := by
        cases r : isK l.bed l.kind y with
        | false => rfl
        | true =>
          have := isK_iff.1 r
          exact absurd (by rw [← e1, ← e2, this.1, this.2]) h
      simp [hh]

theorem new_find (L : List Kp) (l : Lm) (hf : findK L l.bed l.kind = none) (b k : Int) : findK (L ++ [⟨l, 0⟩]) b k = if (b, k) = (l.bed, l.kind) then some ⟨l, 0⟩ else findK L b k := by
  unfold findK at hf ⊢
  rw [List.find?_append]
  by_cases h : (b, k) = (l.bed, l.kind)
  · rw [if_pos h]
    cases h
    rw [hf]
    simp [isK]
  · rw [if_neg h]
    have hh : isK b k ⟨l, 0⟩ = false := by
      cases r : isK b k ⟨l, 0⟩ with
      | false => rfl
      | true =>
        have := isK_iff.1 r
        exact absurd (by rw [← this.1, ← this.2]) h
    simp [hh]

theorem set_ok {L : List Kp} {m : Nat} (h : OkT L m) {l : Lm} (hm : mayL l = true) : OkT (L.map (fun x => if isK l.bed l.kind x = true then (⟨l, 0⟩ : Kp) else x)) m := by
  refine ⟨by simpa using h.few, fun x hx => ?_, by rw [set_keys]; exact h.uniq, fun x hx => ?_⟩
  · obtain ⟨y, hy, rfl⟩ := List.mem_map.1 hx
    split
    · exact hm
    · exact h.may y hy
  · obtain ⟨y, hy, rfl⟩ := List.mem_map.1 hx
    split
    · exact Nat.zero_le _
    · exact h.bnd y hy

theorem new_ok {L : List Kp} {m : Nat} (h : OkT L m) {l : Lm} (hm : mayL l = true) (hf : findK L l.bed l.kind = none) (hl : L.length < 40) : OkT (L ++ [⟨l, 0⟩]) m := by
  refine ⟨by simp; omega, fun x hx => ?_, ?_, fun x hx => ?_⟩
  · rcases List.mem_append.1 hx with hx | hx
    · exact h.may x hx
    · obtain rfl := List.mem_singleton.1 hx
      exact hm
  · rw [List.map_append, List.nodup_append]
    refine ⟨h.uniq, by simp, fun a ha c hc e => ?_⟩
    obtain ⟨y, hy, rfl⟩ := List.mem_map.1 ha
    simp at hc
    subst hc
    have := findK_none hf y hy
    have e2 : y.lm.bed = l.bed ∧ y.lm.kind = l.kind := by simpa [keyK] using e
    rw [isK_iff.2 e2] at this
    cases this
  · rcases List.mem_append.1 hx with hx | hx
    · exact h.bnd x hx
    · obtain rfl := List.mem_singleton.1 hx
      exact Nat.zero_le _

theorem setT_ok {L : List Kp} {m : Nat} (h : OkT L m) (l : Lm) : OkT (setT L l) m := by
  cases hm : mayL l with
  | false => rw [(setT_not hm).2]; exact h
  | true =>
    cases hf : findK L l.bed l.kind with
    | some x => rw [(setT_there hm hf).2]; exact set_ok h hm
    | none =>
      by_cases hl : L.length < 40
      · rw [(setT_new hm hf hl).2]; exact new_ok h hm hf hl
      · rw [(setT_full hm hf (by omega)).2]; exact h

theorem dropT_ok {L : List Kp} {m : Nat} (h : OkT L m) (bed : Int) : OkT (dropT L bed) m := by
  have hs : (dropT L bed).Sublist L := List.filter_sublist
  exact ⟨Nat.le_trans hs.length_le h.few, fun x hx => h.may x (hs.subset hx), h.uniq.sublist (hs.map _), fun x hx => h.bnd x (hs.subset hx)⟩

theorem dropT_find (L : List Kp) (bed b k : Int) : findK (dropT L bed) b k = if b = bed then none else findK L b k := by
  unfold findK dropT
  rw [List.find?_filter]
  by_cases h : b = bed
  · rw [if_pos h, List.find?_eq_none]
    intro x _
    subst h
    simp [isK]
    intro a b
    exact absurd b a
  · rw [if_neg h]
    congr 1
    funext x
    rw [Bool.eq_iff_iff]
    simp [isK]
    intro e1 _ e3
    exact h (e1 ▸ e3)

theorem dropT_keys (L : List Kp) (bed : Int) : (dropT L bed).map keyK = (L.map keyK).filter (fun o => !decide (o.1 = bed)) := by
  unfold dropT
  rw [List.filter_map]
  rfl

theorem drop_len (L : List Kp) (bed : Int) : dropN L bed + (dropT L bed).length = L.length := by
  have := (List.filter_sublist (p := fun x : Kp => !decide (x.lm.bed = bed)) (l := L)).length_le
  unfold dropN dropT
  omega

/-- With no two of a key, the one that is found is the one at its place. -/
theorem find_at {L : List Kp} (h : (L.map keyK).Nodup) {i : Nat} (hi : i < L.length) : findK L L[i].lm.bed L[i].lm.kind = some L[i] := by
  unfold findK
  rw [List.find?_eq_some_iff_getElem]
  refine ⟨isK_self _, i, hi, rfl, fun j hj => ?_⟩
  have hp := List.pairwise_iff_getElem.1 h j i (by simp; omega) (by simpa using hi) hj
  simp only [List.getElem_map] at hp
  cases r : isK L[i].lm.bed L[i].lm.kind L[j] with
  | false => rfl
  | true =>
    have := isK_iff.1 r
    exact absurd (by simp [keyK, this.1, this.2]) hp

end Go.Proofs.Ytcloneccfbcclaa.Bt
