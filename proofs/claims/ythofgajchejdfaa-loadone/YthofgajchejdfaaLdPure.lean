/- Plain: beds, their loads, which fit; no program is named here. -/
import Derived.Test.YthofgajchejdfaaPure
namespace Go.Proofs.Ythofgajchejdfaa.Bt

/-- A bed. -/
structure Bdd where
  bid : Int
  tx : Int
  period : Int
  cost : Int
  watch : Int
  prio : Int
  deriving DecidableEq

/-- May it be? -/
def mayB (b : Bdd) : Bool := decide ((1 ≤ b.period ∧ b.period ≤ 60 ∧ 60 % b.period = 0) ∧ (0 ≤ b.bid ∧ b.bid ≤ 99) ∧ (0 ≤ b.tx ∧ b.tx ≤ 255) ∧ (1 ≤ b.cost ∧ b.cost ≤ 100) ∧ (1 ≤ b.watch ∧ b.watch ≤ 1000) ∧ (0 ≤ b.prio ∧ b.prio ≤ 9))

theorem mayB_true {b : Bdd} (h : mayB b = true) : (1 ≤ b.period ∧ b.period ≤ 60 ∧ 60 % b.period = 0) ∧ (0 ≤ b.bid ∧ b.bid ≤ 99) ∧ (0 ≤ b.tx ∧ b.tx ≤ 255) ∧ (1 ≤ b.cost ∧ b.cost ≤ 100) ∧ (1 ≤ b.watch ∧ b.watch ≤ 1000) ∧ (0 ≤ b.prio ∧ b.prio ≤ 9) := of_decide_eq_true h

/-- Its load. -/
def ofB (b : Bdd) : Int := if mayB b = true then b.cost * 60 / b.period else 0

def sumB : List Bdd → Int
  | [] => 0
  | b :: l => ofB b + sumB l

theorem sumB_append (a b : List Bdd) : sumB (a ++ b) = sumB a + sumB b := by
  induction a with
  | nil => simp [sumB]
  | cons x a ih => simp only [List.cons_append, sumB, ih]; omega

theorem sumB_one (b : Bdd) : sumB [b] = ofB b := by simp [sumB]

/-- Periods. -/
theorem periods {p : Int} (h1 : 1 ≤ p) (h2 : p ≤ 60) (h3 : 60 % p = 0) : p = 1 ∨ p = 2 ∨ p = 3 ∨ p = 4 ∨ p = 5 ∨ p = 6 ∨ p = 10 ∨ p = 12 ∨ p = 15 ∨ p = 20 ∨ p = 30 ∨ p = 60 := by
  obtain ⟨P, rfl⟩ := Int.eq_ofNat_of_zero_le (show 0 ≤ p by omega)
  have hP : P < 61 := by omega
  have h3' : 60 % P = 0 := by
    have q : ((60 % P : Nat) : Int) = 0 := by simpa using h3
    omega
  have key : ∀ Q, Q < 61 → 60 % Q = 0 → Q = 0 ∨ Q = 1 ∨ Q = 2 ∨ Q = 3 ∨ Q = 4 ∨ Q = 5 ∨ Q = 6 ∨ Q = 10 ∨ Q = 12 ∨ Q = 15 ∨ Q = 20 ∨ Q = 30 ∨ Q = 60 := by decide
  have := key P hP h3'
  omega

theorem ofB_bounds (b : Bdd) : 0 ≤ ofB b ∧ ofB b ≤ 6000 := by
  unfold ofB
  split
  · rename_i h
    obtain ⟨⟨p1, p2, p3⟩, _, _, ⟨c1, c2⟩, _⟩ := mayB_true h
    rcases periods p1 p2 p3 with e | e | e | e | e | e | e | e | e | e | e | e <;> rw [e] <;> omega
  · omega

theorem ofB_pos {b : Bdd} (h : mayB b = true) : 0 < ofB b := by
  unfold ofB
  rw [if_pos h]
  obtain ⟨⟨p1, p2, p3⟩, _, _, ⟨c1, c2⟩, _⟩ := mayB_true h
  rcases periods p1 p2 p3 with e | e | e | e | e | e | e | e | e | e | e | e <;> rw [e] <;> omega

theorem sumB_bounds (l : List Bdd) : 0 ≤ sumB l ∧ sumB l ≤ 6000 * l.length := by
  induction l with
  | nil => simp [sumB]
  | cons b l ih =>
    have := ofB_bounds b
    simp only [sumB, List.length_cons]
    omega

theorem sumB_reverse (l : List Bdd) : sumB l.reverse = sumB l := by
  induction l with
  | nil => rfl
  | cons b l ih => rw [List.reverse_cons, sumB_append, ih, sumB_one]; simp only [sumB]; omega

/-- Where the first is whose number is so; -1: none. -/
def placeB (f : Bdd → Int) (l : List Bdd) (x : Int) : Int := match l.findIdx? (fun b => decide (f b = x)) with
  | some i => (i : Int)
  | none => -1

theorem placeB_hit {f : Bdd → Int} {l : List Bdd} {x : Int} {i : Nat} (hi : i < l.length) (h : f l[i] = x) (hn : ∀ j, (hj : j < i) → f (l[j]'(Nat.lt_trans hj hi)) ≠ x) : placeB f l x = (i : Int) := by
  have e : l.findIdx? (fun b => decide (f b = x)) = some i := by
    rw [List.findIdx?_eq_some_iff_getElem]
    exact ⟨hi, by simpa using h, fun j hj => by simpa using hn j hj⟩
  unfold placeB
  rw [e]

theorem placeB_miss {f : Bdd → Int} {l : List Bdd} {x : Int} (hn : ∀ j, (hj : j < l.length) → f l[j] ≠ x) : placeB f l x = -1 := by
  have e : l.findIdx? (fun b => decide (f b = x)) = none := by
    rw [List.findIdx?_eq_none_iff]
    intro s hs
    obtain ⟨j, hj, rfl⟩ := List.getElem_of_mem hs
    simpa using hn j hj
  unfold placeB
  rw [e]

theorem placeB_cases (f : Bdd → Int) (l : List Bdd) (x : Int) : (placeB f l x = -1 ∧ ∀ b ∈ l, f b ≠ x) ∨ ∃ i, ∃ hi : i < l.length, placeB f l x = (i : Int) ∧ f l[i] = x ∧ ∀ j, (hj : j < i) → f (l[j]'(Nat.lt_trans hj hi)) ≠ x := by
  unfold placeB
  cases e : l.findIdx? (fun b => decide (f b = x)) with
  | none =>
    left
    rw [List.findIdx?_eq_none_iff] at e
    exact ⟨rfl, fun b hb => by simpa using e b hb⟩
  | some i =>
    right
    rw [List.findIdx?_eq_some_iff_getElem] at e
    obtain ⟨hi, h1, h2⟩ := e
    exact ⟨i, hi, rfl, by simpa using h1, fun j hj => by simpa using h2 j hj⟩

theorem placeB_lt (f : Bdd → Int) (l : List Bdd) (x : Int) : -1 ≤ placeB f l x ∧ placeB f l x < (l.length : Int) := by
  rcases placeB_cases f l x with ⟨e, _⟩ | ⟨i, hi, e, _⟩ <;> rw [e] <;> omega

/-- Do beds fit? -/
def fitsB (l : List Bdd) (cap : Int) : Bool := decide (l.length ≤ 8 ∧ (∀ b ∈ l, mayB b = true) ∧ (l.map (·.bid)).Nodup ∧ (l.map (·.tx)).Nodup ∧ sumB l ≤ cap * 60)

theorem fitsB_iff {l : List Bdd} {cap : Int} : fitsB l cap = true ↔ (l.length ≤ 8 ∧ (∀ b ∈ l, mayB b = true) ∧ (l.map (·.bid)).Nodup ∧ (l.map (·.tx)).Nodup ∧ sumB l ≤ cap * 60) := decide_eq_true_iff

/-- What Admit answers. -/
def admitE (l : List Bdd) (b : Bdd) (cap : Int) : Int :=
  if mayB b = true then
    (if 0 ≤ placeB (·.bid) l b.bid ∨ 0 ≤ placeB (·.tx) l b.tx then 9
     else if 8 ≤ l.length then 7
     else if cap * 60 < sumB l + ofB b then 10 else 0)
  else 1

def admitL (l : List Bdd) (b : Bdd) (cap : Int) : List Bdd := if admitE l b cap = 0 then l ++ [b] else []

/-- What Discharge answers. -/
def dischE (l : List Bdd) (x : Int) : Int := if 0 ≤ placeB (·.bid) l x then 0 else 8

def dischL (l : List Bdd) (x : Int) : List Bdd := if 0 ≤ placeB (·.bid) l x then l.eraseIdx (placeB (·.bid) l x).toNat else []

theorem admitE_zero {l : List Bdd} {b : Bdd} {cap : Int} (h : admitE l b cap = 0) : mayB b = true ∧ placeB (·.bid) l b.bid = -1 ∧ placeB (·.tx) l b.tx = -1 ∧ l.length < 8 ∧ sumB l + ofB b ≤ cap * 60 := by
  unfold admitE at h
  split at h
  · rename_i h1
    split at h
    · exact absurd h (by decide)
    · rename_i h2
      split at h
      · exact absurd h (by decide)
      · rename_i h3
        split at h
        · exact absurd h (by decide)
        · rename_i h4
          have a := placeB_lt (·.bid) l b.bid
          have c := placeB_lt (·.tx) l b.tx
          exact ⟨h1, by omega, by omega, by omega, by omega⟩
  · exact absurd h (by decide)

theorem admitE_ok {l : List Bdd} {b : Bdd} {cap : Int} (h1 : mayB b = true) (h2 : placeB (·.bid) l b.bid = -1) (h3 : placeB (·.tx) l b.tx = -1) (h4 : l.length < 8) (h5 : sumB l + ofB b ≤ cap * 60) : admitE l b cap = 0 := by
  unfold admitE
  rw [if_pos h1, if_neg (by rw [h2, h3]; omega), if_neg (by omega), if_neg (by omega)]

theorem placeB_none {f : Bdd → Int} {l : List Bdd} {x : Int} : placeB f l x = -1 ↔ x ∉ l.map f := by
  constructor
  · intro h hm
    obtain ⟨b, hb, e⟩ := List.mem_map.1 hm
    rcases placeB_cases f l x with ⟨_, q⟩ | ⟨i, hi, q, _⟩
    · exact q b hb e
    · rw [h] at q; omega
  · intro h
    exact placeB_miss (fun j hj e => h (List.mem_map.2 ⟨l[j], List.getElem_mem hj, e⟩))

theorem nodup_snoc {l : List Int} {x : Int} : (l ++ [x]).Nodup ↔ l.Nodup ∧ x ∉ l := by
  rw [List.nodup_append]
  constructor
  · rintro ⟨h1, _, h3⟩
    exact ⟨h1, fun hx => h3 x hx x (by simp) rfl⟩
  · rintro ⟨h1, h2⟩
    refine ⟨h1, by simp, fun a ha b hb e => h2 ?_⟩
    have : b = x := by simpa using hb
    rw [← this, ← e]; exact ha

/-- A bed is admitted beside beds that fit just if all of them fit. -/
theorem admit_exact {l : List Bdd} {b : Bdd} {cap : Int} (h : fitsB l cap = true) : (admitE l b cap = 0) ↔ fitsB (l ++ [b]) cap = true := by
  obtain ⟨f1, f2, f3, f4, f5⟩ := fitsB_iff.1 h
  rw [fitsB_iff]
  constructor
  · intro e
    obtain ⟨a1, a2, a3, a4, a5⟩ := admitE_zero e
    refine ⟨by simp; omega, fun c hc => ?_, ?_, ?_, by rw [sumB_append, sumB_one]; exact a5⟩
    · rcases List.mem_append.1 hc with q | q
      · exact f2 c q
      · have : c = b := by simpa using q
        rw [this]; exact a1
    · rw [List.map_append]; exact nodup_snoc.2 ⟨f3, placeB_none.1 a2⟩
    · rw [List.map_append]; exact nodup_snoc.2 ⟨f4, placeB_none.1 a3⟩
  · rintro ⟨g1, g2, g3, g4, g5⟩
    rw [List.map_append] at g3 g4
    rw [sumB_append, sumB_one] at g5
    exact admitE_ok (g2 b (by simp)) (placeB_none.2 (nodup_snoc.1 g3).2) (placeB_none.2 (nodup_snoc.1 g4).2) (by simp at g1; omega) g5

theorem sumB_erase {l : List Bdd} {i : Nat} (hi : i < l.length) : sumB (l.eraseIdx i) + ofB l[i] = sumB l := by
  induction l generalizing i with
  | nil => exact absurd hi (by simp)
  | cons b l ih =>
    cases i with
    | zero => simp only [List.eraseIdx_zero, List.tail_cons, List.getElem_cons_zero, sumB]; omega
    | succ i =>
      have := ih (i := i) (by simpa using hi)
      simp only [List.eraseIdx_cons_succ, List.getElem_cons_succ, sumB]
      omega

/-- Beds that fit less one fit. -/
theorem fits_less {l : List Bdd} {cap : Int} (h : fitsB l cap = true) {i : Nat} (hi : i < l.length) : fitsB (l.eraseIdx i) cap = true := by
  obtain ⟨f1, f2, f3, f4, f5⟩ := fitsB_iff.1 h
  rw [fitsB_iff]
  have hs := sumB_erase hi
  have hp := ofB_bounds l[i]
  have hsub : (l.eraseIdx i).Sublist l := List.eraseIdx_sublist l i
  refine ⟨Nat.le_trans hsub.length_le f1, fun b hb => f2 b (hsub.subset hb), (hsub.map _).nodup f3, (hsub.map _).nodup f4, by omega⟩

/-- Whose Id it is, of beds that fit. -/
theorem place_own {l : List Bdd} {f : Bdd → Int} (h : (l.map f).Nodup) {i : Nat} (hi : i < l.length) : placeB f l (f l[i]) = (i : Int) := by
  refine placeB_hit hi rfl (fun j hj e => ?_)
  have hj' : j < l.length := Nat.lt_trans hj hi
  have q := (List.pairwise_iff_getElem.1 h) j i (by simpa using hj') (by simpa using hi) hj
  rw [List.getElem_map, List.getElem_map] at q
  exact q e

theorem disch_own {l : List Bdd} {cap : Int} (h : fitsB l cap = true) {i : Nat} (hi : i < l.length) : dischE l l[i].bid = 0 ∧ dischL l l[i].bid = l.eraseIdx i := by
  have e := place_own (f := (·.bid)) (fitsB_iff.1 h).2.2.1 hi
  unfold dischE dischL
  rw [e]
  exact ⟨if_pos (by omega), by rw [if_pos (by omega)]; simp⟩

theorem nodup_rev (l : List Int) : l.reverse.Nodup ↔ l.Nodup := by
  unfold List.Nodup
  rw [List.pairwise_reverse]
  constructor <;> exact fun h => h.imp (fun q => q.symm)

/-- The order doesn't matter. -/
theorem fits_reverse (l : List Bdd) (cap : Int) : fitsB l.reverse cap = fitsB l cap := by
  rw [Bool.eq_iff_iff, fitsB_iff, fitsB_iff, sumB_reverse, List.length_reverse, List.map_reverse, List.map_reverse, nodup_rev, nodup_rev]
  simp only [List.mem_reverse]

theorem fits_more {l : List Bdd} {cap more : Int} (h : fitsB l cap = true) (hm : 0 ≤ more) : fitsB l (cap + more) = true := by
  obtain ⟨f1, f2, f3, f4, f5⟩ := fitsB_iff.1 h
  exact fitsB_iff.2 ⟨f1, f2, f3, f4, by omega⟩

/-- A bed that was admitted and is discharged. -/
theorem admit_back {l : List Bdd} {b : Bdd} {cap : Int} (h : admitE l b cap = 0) : dischE (l ++ [b]) b.bid = 0 ∧ dischL (l ++ [b]) b.bid = l ∧ placeB (·.bid) (l ++ [b]) b.bid = (l.length : Int) ∧ placeB (·.tx) (l ++ [b]) b.tx = (l.length : Int) := by
  obtain ⟨a1, a2, a3, a4, a5⟩ := admitE_zero h
  have key : ∀ (f : Bdd → Int), placeB f l (f b) = -1 → placeB f (l ++ [b]) (f b) = (l.length : Int) := fun f hf => by
    have hn := placeB_none.1 hf
    refine placeB_hit (i := l.length) (by simp) (by simp) (fun j hj e => hn ?_)
    rw [List.getElem_append_left hj] at e
    exact List.mem_map.2 ⟨l[j], List.getElem_mem hj, e⟩
  have k1 := key (·.bid) a2
  refine ⟨by unfold dischE; rw [k1]; exact if_pos (by omega), ?_, k1, key (·.tx) a3⟩
  unfold dischL
  rw [k1, if_pos (by omega), Int.toNat_natCast, List.eraseIdx_append_of_length_le (Nat.le_refl _)]
  simp

/-- A bed alone. -/
theorem admit_one {b : Bdd} {cap : Int} (h : mayB b = true) : admitE [] b cap = if b.cost ≤ cap * b.period then 0 else 10 := by
  obtain ⟨⟨p1, p2, p3⟩, _, _, ⟨c1, c2⟩, _⟩ := mayB_true h
  have e : (cap * 60 < sumB [] + ofB b) ↔ ¬ b.cost ≤ cap * b.period := by
    unfold ofB
    rw [if_pos h]
    simp only [sumB]
    rcases periods p1 p2 p3 with e | e | e | e | e | e | e | e | e | e | e | e <;> rw [e] <;> omega
  unfold admitE
  rw [if_pos h, if_neg (by simp [placeB]), if_neg (by simp)]
  by_cases q : b.cost ≤ cap * b.period
  · rw [if_neg (fun r => (e.1 r) q), if_pos q]
  · rw [if_pos (e.2 q), if_neg q]

/-- Twice the period, twice the cost. -/
theorem of_twice {b c : Bdd} (hb : mayB b = true) (hc : mayB c = true) (h1 : c.period = 2 * b.period) (h2 : c.cost = 2 * b.cost) : ofB c = ofB b := by
  obtain ⟨⟨p1, p2, p3⟩, _⟩ := mayB_true hb
  unfold ofB
  rw [if_pos hb, if_pos hc, h1, h2]
  rcases periods p1 p2 p3 with e | e | e | e | e | e | e | e | e | e | e | e <;> rw [e] <;> omega

/-- The fits of the document's own words: each is the first of its Id and of its Tx. -/
theorem fits_places {l : List Bdd} {cap : Int} (hc : 0 ≤ cap) : fitsB l cap = decide (¬ (8 < l.length ∨ (0 < l.length ∧ cap * 60 < sumB l)) ∧ ∀ i, (hi : i < l.length) → mayB l[i] = true ∧ placeB (·.bid) l l[i].bid = (i : Int) ∧ placeB (·.tx) l l[i].tx = (i : Int)) := by
  rw [Bool.eq_iff_iff, fitsB_iff, decide_eq_true_iff]
  constructor
  · rintro ⟨f1, f2, f3, f4, f5⟩
    exact ⟨by omega, fun i hi => ⟨f2 _ (List.getElem_mem hi), place_own (f := (·.bid)) f3 hi, place_own (f := (·.tx)) f4 hi⟩⟩
  · rintro ⟨g1, g2⟩
    have nd : ∀ f : Bdd → Int, (∀ i, (hi : i < l.length) → placeB f l (f l[i]) = (i : Int)) → (l.map f).Nodup := fun f hf => by
      refine List.pairwise_iff_getElem.2 ?_
      intro i j hi hj hij e
      have hj' : j < l.length := by simpa using hj
      have hi' : i < l.length := by omega
      rw [List.getElem_map, List.getElem_map] at e
      have a := hf i hi'
      have b := hf j hj'
      rw [e] at a
      omega
    refine ⟨by omega, fun b hb => ?_, nd (·.bid) (fun i hi => (g2 i hi).2.1), nd (·.tx) (fun i hi => (g2 i hi).2.2), ?_⟩
    · obtain ⟨i, hi, rfl⟩ := List.getElem_of_mem hb
      exact (g2 i hi).1
    · by_cases q : 0 < l.length
      · omega
      · have : l = [] := List.eq_nil_of_length_eq_zero (by omega)
        subst this
        simp only [sumB]
        omega

end Go.Proofs.Ythofgajchejdfaa.Bt
