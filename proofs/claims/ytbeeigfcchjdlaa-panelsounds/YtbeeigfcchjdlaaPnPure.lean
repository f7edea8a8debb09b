/- Plain: alarms that are shown, and their order; no program is named here. -/
import Derived.Test.YtbeeigfcchjdlaaPure
namespace Go.Proofs.Ytbeeigfcchjdlaa.Pn

/-- Where the first that a test takes is; -1. -/
def posA {α : Type} (p : α → Bool) (L : List α) : Int := match L.findIdx? p with
  | some i => (i : Int)
  | none => -1

theorem posA_hit {α : Type} {p : α → Bool} {L : List α} {i : Nat} (hi : i < L.length) (h : p L[i] = true) (hno : ∀ j, (hj : j < L.length) → j < i → p L[j] = false) : posA p L = i := by
  unfold posA
  have : L.findIdx? p = some i := by
    rw [List.findIdx?_eq_some_iff_getElem]
    exact ⟨hi, h, fun j hj => by rw [hno j (by omega) hj]; simp⟩
  rw [this]

theorem posA_miss {α : Type} {p : α → Bool} {L : List α} (h : ∀ j, (hj : j < L.length) → p L[j] = false) : posA p L = -1 := by
  have h' : ∀ x ∈ L, p x = false := fun x hx => by
    obtain ⟨j, hj, rfl⟩ := List.getElem_of_mem hx
    exact h j hj
  unfold posA
  have : L.findIdx? p = none := by
    rw [List.findIdx?_eq_none_iff]
    exact fun x hx => by rw [h' x hx]
  rw [this]

theorem posA_ways {α : Type} (p : α → Bool) (L : List α) : (posA p L = -1 ∧ L.find? p = none ∧ ∀ x ∈ L, p x = false) ∨ ∃ i, ∃ hi : i < L.length, posA p L = i ∧ L.find? p = some L[i] ∧ p L[i] = true ∧ ∀ a ∈ L.take i, p a = false := by
  cases q : L.findIdx? p with
  | none =>
    left
    have := List.findIdx?_eq_none_iff.1 q
    refine ⟨posA_miss fun j hj => this _ (List.getElem_mem hj), ?_, this⟩
    rw [List.find?_eq_none]
    intro x hx
    rw [this x hx]
    simp
  | some i =>
    right
    obtain ⟨hi, h, hno⟩ := List.findIdx?_eq_some_iff_getElem.1 q
    have hn : ∀ j, (hj : j < L.length) → j < i → p L[j] = false := fun j hj hji => by have := hno j hji; simpa using this
    refine ⟨i, hi, posA_hit hi h hn, ?_, h, fun a ha => ?_⟩
    · rw [List.find?_eq_some_iff_getElem]
      exact ⟨h, i, hi, rfl, fun j hj => by rw [hn j (by omega) hj]; rfl⟩
    · obtain ⟨j, hj, rfl⟩ := List.getElem_of_mem ha
      rw [List.length_take] at hj
      rw [List.getElem_take]
      exact hn j (by omega) (by omega)

/-- An alarm. -/
structure Al where
  bed : Int
  kind : Int
  since : Int
  on : Bool
  acked : Bool
  deriving DecidableEq, Inhabited

def isA (bed kind : Int) (x : Al) : Bool := decide (x.bed = bed) && decide (x.kind = kind)

theorem isA_iff {bed kind : Int} {x : Al} : isA bed kind x = true ↔ x.bed = bed ∧ x.kind = kind := by simp [isA]

def keyA (x : Al) : Int × Int := (x.bed, x.kind)

def kindA (k : Int) : Bool := decide (0 ≤ k) && decide (k ≤ 4)

/-- One that isn't on and is acknowledged. -/
def overA (x : Al) : Bool := !x.on && x.acked

def tidyA (L : List Al) : List Al := L.filter fun x => !overA x

def turnA (f : Al → Al) (bed kind : Int) (L : List Al) : List Al := L.map fun x => if isA bed kind x = true then f x else x

def raiseB (L : List Al) (bed kind : Int) : Bool := kindA kind && (match L.find? (isA bed kind) with
  | some x => !x.on
  | none => decide (L.length < 40))

def raiseL (L : List Al) (bed kind now : Int) : List Al := if raiseB L bed kind = true then (match L.find? (isA bed kind) with
  | some _ => turnA (fun _ => ⟨bed, kind, now, true, false⟩) bed kind L
  | none => L ++ [⟨bed, kind, now, true, false⟩]) else L

def clearB (L : List Al) (bed kind : Int) : Bool := match L.find? (isA bed kind) with
  | some x => x.on
  | none => false

def clearL (L : List Al) (bed kind : Int) : List Al := if clearB L bed kind = true then tidyA (turnA (fun x => { x with on := false }) bed kind L) else L

def ackB (L : List Al) (bed kind : Int) : Bool := match L.find? (isA bed kind) with
  | some x => !x.acked
  | none => false

def ackL (L : List Al) (bed kind : Int) : List Al := if ackB L bed kind = true then tidyA (turnA (fun x => { x with acked := true }) bed kind L) else L

def dropA (L : List Al) (bed : Int) : List Al := L.filter fun x => !decide (x.bed = bed)

def soundA (L : List Al) (u now : Int) : Bool := decide (u ≤ now) && L.any fun x => !x.acked

structure OkA (L : List Al) : Prop where
  few : L.length ≤ 40
  once : (L.map keyA).Nodup
  live : ∀ x ∈ L, overA x = false
  kind : ∀ x ∈ L, 0 ≤ x.kind ∧ x.kind ≤ 4

theorem okA_nil : OkA [] := ⟨by simp, by simp, fun x hx => (by cases hx), fun x hx => (by cases hx)⟩

theorem kindA_iff {k : Int} : kindA k = true ↔ 0 ≤ k ∧ k ≤ 4 := by simp [kindA]

/-- One place alone is turned. -/
theorem turn_place {L : List Al} (h : (L.map keyA).Nodup) {i : Nat} (hi : i < L.length) {bed kind : Int} (hk : isA bed kind L[i] = true) (f : Al → Al) : turnA f bed kind L = L.set i (f L[i]) := by
  unfold turnA
  refine List.ext_getElem (by simp) fun j h1 h2 => ?_
  have hj : j < L.length := by simpa using h1
  rw [List.getElem_map, List.getElem_set]
  by_cases e : i = j
  · subst e
    rw [if_pos hk, if_pos rfl]
  · rw [if_neg e, if_neg]
    intro hk2
    have a := isA_iff.1 hk
    have b := isA_iff.1 hk2
    have q : (L.map keyA)[i]'(by simpa using hi) = (L.map keyA)[j]'(by simpa using hj) := by
      simp [keyA, a, b]
    have hp := List.pairwise_iff_getElem.1 h
    rcases Nat.lt_or_gt_of_ne e with r | r
    · exact hp i j (by simpa using hi) (by simpa using hj) r q
    · exact hp j i (by simpa using hj) (by simpa using hi) r q.symm

theorem turn_keys {L : List Al} {f : Al → Al} {bed kind : Int} (hf : ∀ x, isA bed kind x = true → keyA (f x) = keyA x) : (turnA f bed kind L).map keyA = L.map keyA := by
  unfold turnA
  rw [List.map_map]
  refine List.map_congr_left fun x _ => ?_
  show keyA (if isA bed kind x = true then f x else x) = keyA x
  split
  · exact hf x (by assumption)
  · rfl

theorem tidy_ok {L : List Al} (h1 : L.length ≤ 40) (h2 : (L.map keyA).Nodup) (h3 : ∀ x ∈ L, 0 ≤ x.kind ∧ x.kind ≤ 4) : OkA (tidyA L) := by
  have hs : (tidyA L).Sublist L := List.filter_sublist
  refine ⟨Nat.le_trans hs.length_le h1, h2.sublist (hs.map _), fun x hx => ?_, fun x hx => h3 x (hs.subset hx)⟩
  have := (List.mem_filter.1 hx).2
  simpa using this

theorem turn_kind {L : List Al} (ok : OkA L) {f : Al → Al} {bed kind : Int} (hf : ∀ x, isA bed kind x = true → keyA (f x) = keyA x) : ∀ x ∈ turnA f bed kind L, 0 ≤ x.kind ∧ x.kind ≤ 4 := by
  intro x hx
  obtain ⟨y, hy, rfl⟩ := List.mem_map.1 hx
  have k := ok.kind y hy
  show 0 ≤ (if isA bed kind y = true then f y else y).kind ∧ _
  split
  · have e := congrArg Prod.snd (hf y (by assumption))
    change (f y).kind = y.kind at e
    omega
  · exact k

theorem raise_ok {L : List Al} (ok : OkA L) (bed kind now : Int) : OkA (raiseL L bed kind now) := by
  unfold raiseL
  split
  · rename_i h
    unfold raiseB at h
    rw [Bool.and_eq_true] at h
    obtain ⟨hk, h⟩ := h
    rw [kindA_iff] at hk
    rcases posA_ways (isA bed kind) L with ⟨_, p2, p3⟩ | ⟨i, hi, _, p2, p3, _⟩
    · rw [p2] at h ⊢
      simp only [decide_eq_true_eq] at h
      refine ⟨by simp; omega, ?_, fun x hx => ?_, fun x hx => ?_⟩
      · rw [List.map_append, List.nodup_append]
        refine ⟨ok.once, by simp, fun a ha c hc e => ?_⟩
        obtain ⟨y, hy, rfl⟩ := List.mem_map.1 ha
        simp [keyA] at hc
        subst hc
        have : isA bed kind y = true := isA_iff.2 (by simpa [keyA] using e)
        rw [p3 y hy] at this
        cases this
      · rcases List.mem_append.1 hx with hx | hx
        · exact ok.live x hx
        · obtain rfl := List.mem_singleton.1 hx
          rfl
      · rcases List.mem_append.1 hx with hx | hx
        · exact ok.kind x hx
        · obtain rfl := List.mem_singleton.1 hx
          exact hk
    · rw [p2]
      have hf : ∀ x, isA bed kind x = true → keyA ((fun _ => (⟨bed, kind, now, true, false⟩ : Al)) x) = keyA x := fun x hx => by
        have := isA_iff.1 hx
        simp [keyA, this]
      refine ⟨by simpa [turnA] using ok.few, ?_, fun x hx => ?_, turn_kind ok hf⟩
      · rw [turn_keys hf]
        exact ok.once
      · obtain ⟨y, hy, rfl⟩ := List.mem_map.1 hx
        show overA (if isA bed kind y = true then _ else y) = false
        split
        · rfl
        · exact ok.live y hy
  · exact ok

theorem clear_ok {L : List Al} (ok : OkA L) (bed kind : Int) : OkA (clearL L bed kind) := by
  unfold clearL
  split
  · have hf : ∀ x, isA bed kind x = true → keyA ((fun x : Al => { x with on := false }) x) = keyA x := fun _ _ => rfl
    exact tidy_ok (by simpa [turnA] using ok.few) (by rw [turn_keys hf]; exact ok.once) (turn_kind ok hf)
  · exact ok

theorem ack_ok {L : List Al} (ok : OkA L) (bed kind : Int) : OkA (ackL L bed kind) := by
  unfold ackL
  split
  · have hf : ∀ x, isA bed kind x = true → keyA ((fun x : Al => { x with acked := true }) x) = keyA x := fun _ _ => rfl
    exact tidy_ok (by simpa [turnA] using ok.few) (by rw [turn_keys hf]; exact ok.once) (turn_kind ok hf)
  · exact ok

theorem drop_ok {L : List Al} (ok : OkA L) (bed : Int) : OkA (dropA L bed) := by
  have hs : (dropA L bed).Sublist L := List.filter_sublist
  exact ⟨Nat.le_trans hs.length_le ok.few, ok.once.sublist (hs.map _), fun x hx => ok.live x (hs.subset hx), fun x hx => ok.kind x (hs.subset hx)⟩

/-- Does one come ahead of another one? -/
def ltA (a b : Al) : Bool := if a.acked ≠ b.acked then b.acked else if a.kind ≠ b.kind then decide (a.kind < b.kind) else if a.since ≠ b.since then decide (a.since < b.since) else decide (a.bed < b.bed)

def cmpI (x y : Int) : Int := if x < y then -1 else if y < x then 1 else 0

def cmpA (a b : Al) : Int := if a.acked ≠ b.acked then (if b.acked = true then -1 else 1) else if cmpI a.kind b.kind ≠ 0 then cmpI a.kind b.kind else if cmpI a.since b.since ≠ 0 then cmpI a.since b.since else cmpI a.bed b.bed

theorem cmpI_zero {x y : Int} : cmpI x y = 0 ↔ x = y := by
  unfold cmpI
  split
  · constructor <;> intro h <;> omega
  · split <;> constructor <;> intro h <;> omega

theorem cmpI_neg {x y : Int} : cmpI x y < 0 ↔ x < y := by
  unfold cmpI
  split
  · constructor <;> intro h <;> omega
  · split <;> constructor <;> intro h <;> omega

theorem cmpA_lt (a b : Al) : decide (cmpA a b < 0) = ltA a b := by
  unfold cmpA ltA
  by_cases h1 : a.acked ≠ b.acked
  · rw [if_pos h1, if_pos h1]
    cases b.acked <;> rfl
  · rw [if_neg h1, if_neg h1]
    by_cases h2 : a.kind ≠ b.kind
    · rw [if_pos (fun q => h2 (cmpI_zero.1 q)), if_pos h2]
      exact decide_eq_decide.2 cmpI_neg
    · rw [if_neg (fun q => q (cmpI_zero.2 (Decidable.not_not.1 h2))), if_neg h2]
      by_cases h3 : a.since ≠ b.since
      · rw [if_pos (fun q => h3 (cmpI_zero.1 q)), if_pos h3]
        exact decide_eq_decide.2 cmpI_neg
      · rw [if_neg (fun q => q (cmpI_zero.2 (Decidable.not_not.1 h3))), if_neg h3]
        exact decide_eq_decide.2 cmpI_neg

/-- The order as a proposition over numbers: 0 for one that isn't acknowledged. -/
def ackN (a : Al) : Int := if a.acked = true then 1 else 0

theorem ltA_iff (a b : Al) : ltA a b = true ↔ ackN a < ackN b ∨ (ackN a = ackN b ∧ (a.kind < b.kind ∨ (a.kind = b.kind ∧ (a.since < b.since ∨ (a.since = b.since ∧ a.bed < b.bed))))) := by
  unfold ltA ackN
  cases a.acked <;> cases b.acked <;> simp
  all_goals
    split
    · split
      · omega
      · omega
    · omega

theorem ltA_irrefl (a : Al) : ltA a a = false := by
  cases h : ltA a a with
  | false => rfl
  | true => rw [ltA_iff] at h; omega

theorem ltA_trans {a b c : Al} (h1 : ltA a b = true) (h2 : ltA b c = true) : ltA a c = true := by
  rw [ltA_iff] at *
  omega

theorem ltA_ntrans {a b c : Al} (h1 : ltA a b = false) (h2 : ltA b c = false) : ltA a c = false := by
  rw [← Bool.not_eq_true, ltA_iff] at *
  omega

theorem ltA_key {a b : Al} (h1 : ltA a b = false) (h2 : ltA b a = false) : keyA a = keyA b := by
  rw [← Bool.not_eq_true, ltA_iff] at *
  unfold keyA
  rw [Prod.mk.injEq]
  omega

/-- In order: none comes ahead of one that stands ahead of it. -/
def Sorted (L : List Al) : Prop := L.Pairwise fun x y => ltA y x = false

theorem sorted_only {L M : List Al} (hp : L.Perm M) (hn : (L.map keyA).Nodup) (h1 : Sorted L) (h2 : Sorted M) : L = M := by
  induction L generalizing M with
  | nil => exact (List.nil_perm.1 hp).symm
  | cons x L ih =>
    cases M with
    | nil => exact absurd (List.perm_nil.1 hp) (by simp)
    | cons y M =>
      have e : x = y := by
        have hx : x ∈ y :: M := hp.mem_iff.1 (by simp)
        have hy : y ∈ x :: L := hp.mem_iff.2 (by simp)
        rcases List.mem_cons.1 hx with q | q
        · exact q
        · rcases List.mem_cons.1 hy with r | r
          · exact r.symm
          · have a := List.rel_of_pairwise_cons h1 r
            have b := List.rel_of_pairwise_cons h2 q
            have k := ltA_key a b
            rw [List.map_cons, List.nodup_cons] at hn
            exact absurd (List.mem_map.2 ⟨y, r, k⟩) hn.1
      subst e
      rw [List.map_cons, List.nodup_cons] at hn
      rw [ih (List.perm_cons x |>.1 hp) hn.2 (List.Pairwise.of_cons h1) (List.Pairwise.of_cons h2)]

/-- How many of a row's last ones one comes ahead of. -/
def backA (x : Al) : List Al → Nat
  | [] => 0
  | y :: r => if ltA x y = true then backA x r + 1 else 0

/-- Where it is put: ahead of those of the last ones ahead of which it comes. -/
def placeA (x : Al) (l : List Al) : Nat := l.length - backA x l.reverse

theorem backA_le (x : Al) (l : List Al) : backA x l ≤ l.length := by
  induction l with
  | nil => exact Nat.le_refl _
  | cons y r ih =>
    unfold backA
    split
    · simp; exact ih
    · simp

def insA (l : List Al) (x : Al) : List Al := l.take (placeA x l) ++ x :: l.drop (placeA x l)

def sortA (L : List Al) : List Al := L.foldl insA []

theorem insA_perm (l : List Al) (x : Al) : (insA l x).Perm (x :: l) := by
  unfold insA
  refine List.perm_middle.trans ?_
  rw [List.take_append_drop]

theorem backA_split (x : Al) (l : List Al) : (∀ y ∈ l.take (backA x l), ltA x y = true) ∧ ((hb : backA x l < l.length) → ltA x l[backA x l] = false) := by
  induction l with
  | nil => exact ⟨fun y hy => (by cases hy), fun h => absurd h (by simp)⟩
  | cons y r ih =>
    by_cases h : ltA x y = true
    · have e : backA x (y :: r) = backA x r + 1 := by simp [backA, h]
      constructor
      · intro z hz
        rw [e, List.take_succ_cons] at hz
        rcases List.mem_cons.1 hz with q | q
        · rw [q]; exact h
        · exact ih.1 z q
      · intro hb
        simp only [e, List.getElem_cons_succ]
        exact ih.2 (by rw [e] at hb; simpa using hb)
    · have e : backA x (y :: r) = 0 := by simp [backA, h]
      refine ⟨fun z hz => ?_, fun hb => ?_⟩
      · rw [e] at hz
        cases hz
      · simp only [e, List.getElem_cons_zero]
        simpa using h

theorem insA_sorted {l : List Al} (h : Sorted l) (x : Al) : Sorted (insA l x) := by
  have hle := backA_le x l.reverse
  rw [List.length_reverse] at hle
  obtain ⟨s1, s2⟩ := backA_split x l.reverse
  have hb : ∀ y ∈ l.drop (placeA x l), ltA x y = true := fun y hy => by
    refine s1 y ?_
    rw [List.take_reverse, List.mem_reverse]
    exact hy
  have ha : ∀ y ∈ l.take (placeA x l), ltA x y = false := fun y hy => by
    by_cases q : backA x l.reverse < l.reverse.length
    · have s := s2 q
      rw [List.getElem_reverse] at s
      rw [List.length_reverse] at q
      obtain ⟨j, hj, rfl⟩ := List.getElem_of_mem hy
      rw [List.length_take] at hj
      rw [List.getElem_take]
      unfold placeA at hj
      by_cases e : j = l.length - 1 - backA x l.reverse
      · subst e
        exact s
      · have hp := List.pairwise_iff_getElem.1 h j (l.length - 1 - backA x l.reverse) (by omega) (by omega) (by omega)
        cases r : ltA x l[j] with
        | false => rfl
        | true => exact absurd (ltA_ntrans s hp) (by rw [r]; simp)
    · rw [List.length_reverse] at q
      unfold placeA at hy
      rw [show l.length - backA x l.reverse = 0 by omega] at hy
      cases hy
  unfold insA Sorted
  rw [List.pairwise_append]
  refine ⟨h.sublist (List.take_sublist _ _), List.pairwise_cons.2 ⟨fun y hy => ?_, h.sublist (List.drop_sublist _ _)⟩, fun y hy z hz => ?_⟩
  · cases r : ltA y x with
    | false => rfl
    | true =>
      have := ltA_trans (hb y hy) r
      rw [ltA_irrefl] at this
      cases this
  · rcases List.mem_cons.1 hz with rfl | hz
    · exact ha y hy
    · have h' := h
      unfold Sorted at h'
      rw [← List.take_append_drop (placeA x l) l, List.pairwise_append] at h'
      exact h'.2.2 y hy z hz

theorem foldl_ins (L : List Al) : ∀ l : List Al, Sorted l → Sorted (L.foldl insA l) ∧ (L.foldl insA l).Perm (l ++ L) := by
  induction L with
  | nil => intro l h; exact ⟨h, by simp⟩
  | cons x L ih =>
    intro l h
    obtain ⟨a, b⟩ := ih (insA l x) (insA_sorted h x)
    refine ⟨a, b.trans ?_⟩
    refine ((insA_perm l x).append_right L).trans ?_
    exact List.perm_middle.symm

theorem sortA_sorted (L : List Al) : Sorted (sortA L) := (foldl_ins L [] List.Pairwise.nil).1

theorem sortA_perm (L : List Al) : (sortA L).Perm L := (foldl_ins L [] List.Pairwise.nil).2

theorem sortA_length (L : List Al) : (sortA L).length = L.length := (sortA_perm L).length_eq

theorem sortA_mem {L : List Al} {x : Al} : x ∈ sortA L ↔ x ∈ L := (sortA_perm L).mem_iff

/-- Whatever is in order and holds the same is it. -/
theorem sortA_only {L M : List Al} (hn : (L.map keyA).Nodup) (hp : M.Perm L) (hs : Sorted M) : M = sortA L :=
  sorted_only (hp.trans (sortA_perm L).symm) ((hp.map keyA).nodup_iff.2 hn) hs (sortA_sorted L)

theorem sortA_once {L : List Al} (hn : (L.map keyA).Nodup) : ((sortA L).map keyA).Nodup := ((sortA_perm L).map keyA).nodup_iff.2 hn

theorem sortA_filter {L : List Al} (hn : (L.map keyA).Nodup) (p : Al → Bool) : (sortA L).filter p = sortA (L.filter p) :=
  sortA_only (hn.sublist ((List.filter_sublist (p := p)).map _)) ((sortA_perm L).filter p) ((sortA_sorted L).sublist List.filter_sublist)

theorem sortA_next {L : List Al} {t : Nat} (ht : t < L.length) : sortA (L.take (t + 1)) = insA (sortA (L.take t)) L[t] := by
  unfold sortA
  rw [List.take_succ_eq_append_getElem ht, List.foldl_append]
  rfl

theorem sortA_nil : sortA [] = [] := rfl

theorem sortA_one (x : Al) : sortA [x] = [x] := rfl

end Go.Proofs.Ytbeeigfcchjdlaa.Pn
