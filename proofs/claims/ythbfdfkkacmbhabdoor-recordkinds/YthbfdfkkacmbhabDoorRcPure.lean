/- Plain: samples, their bytes, texts of samples; no program is named here. -/
import Derived.Test.YthbfdfkkacmbhabDoorCrcPure
import Derived.Test.YthbfdfkkacmbhabDoorRsAns
namespace Go.Proofs.YthbfdfkkacmbhabDoor.Bt

/-- A sample. -/
structure Smp where
  kind : Int
  tick : Int
  value : Int
  deriving DecidableEq

/-- Is it right? -/
def rightM (s : Smp) : Bool := decide ((1 ≤ s.kind ∧ s.kind ≤ 5) ∧ (0 ≤ s.tick ∧ s.tick ≤ 255) ∧ (0 ≤ s.value ∧ s.value ≤ 999) ∧ (s.kind = 5 → s.value ≤ 255))

def numericM (s : Smp) : Bool := rightM s && decide (s.kind ≠ 5)

theorem rightM_true {s : Smp} (h : rightM s = true) : (1 ≤ s.kind ∧ s.kind ≤ 5) ∧ (0 ≤ s.tick ∧ s.tick ≤ 255) ∧ (0 ≤ s.value ∧ s.value ≤ 999) ∧ (s.kind = 5 → s.value ≤ 255) := of_decide_eq_true h

/-- Its number, of 24 bits. -/
def smN (s : Smp) : Nat := (((s.kind * 256 + s.tick) * 1024 + s.value) * 8).toNat

/-- Its bytes. -/
def smB (s : Smp) : List Nat := numB (smN s) 3

/-- The sample of a number. -/
def smOf (n : Nat) : Smp := ⟨((n / 2097152 : Nat) : Int), ((n / 8192 % 256 : Nat) : Int), ((n / 8 % 1024 : Nat) : Int)⟩

theorem smN_lt {s : Smp} (h : rightM s = true) : smN s < 16777216 := by
  obtain ⟨h1, h2, h3, _⟩ := rightM_true h
  unfold smN
  omega

theorem smN_mod {s : Smp} (h : rightM s = true) : smN s % 8 = 0 := by
  obtain ⟨h1, h2, h3, _⟩ := rightM_true h
  unfold smN
  omega

theorem smOf_smN {s : Smp} (h : rightM s = true) : smOf (smN s) = s := by
  obtain ⟨h1, h2, h3, _⟩ := rightM_true h
  obtain ⟨k, t, v⟩ := s
  unfold smOf smN
  simp only at h1 h2 h3 ⊢
  simp only [Smp.mk.injEq]
  omega

theorem smN_smOf {n : Nat} (h : n < 16777216) (h8 : n % 8 = 0) : smN (smOf n) = n := by
  unfold smN smOf
  simp only
  omega

theorem smB_length (s : Smp) : (smB s).length = 3 := numB_length _ _

/-- A text. -/
def textM (l : List Smp) : List Nat := l.length :: l.flatMap smB

theorem flat_length (l : List Smp) : (l.flatMap smB).length = 3 * l.length := by
  induction l with
  | nil => rfl
  | cons s l ih => rw [List.flatMap_cons, List.length_append, ih, smB_length, List.length_cons]; omega

theorem textM_length (l : List Smp) : (textM l).length = 1 + 3 * l.length := by
  unfold textM
  rw [List.length_cons, flat_length]; omega

theorem flat_at (l : List Smp) (i : Nat) (hi : i < l.length) (rest : List Nat) : ((l.flatMap smB ++ rest).drop (3 * i)).take 3 = smB l[i] := by
  induction l generalizing i with
  | nil => exact absurd hi (by simp)
  | cons s l ih =>
    rw [List.flatMap_cons, List.append_assoc]
    cases i with
    | zero =>
      simp only [Nat.mul_zero, List.drop_zero, List.getElem_cons_zero]
      rw [List.take_append_of_le_length (by rw [smB_length]; omega), List.take_of_length_le (by rw [smB_length]; omega)]
    | succ i =>
      have e : 3 * (i + 1) = (smB s).length + 3 * i := by rw [smB_length]; omega
      rw [e, List.drop_append, List.drop_eq_nil_of_le (by omega), List.nil_append, Nat.add_sub_cancel_left]
      simp only [List.getElem_cons_succ]
      exact ih i (by simpa using hi)

/-- What Fits answers. -/
def fitsM (k n s : Int) : Int := if mayC k n s = true then (k * s - 1) / 3 else 0

def allR (l : List Smp) : Bool := l.all rightM

/-- What Pack answers. -/
def packE (k n s : Int) (l : List Smp) : Int := if mayC k n s = true ∧ allR l = true then (if 1 + 3 * (l.length : Int) ≤ k * s then 0 else 4) else 1

def packT (k n s : Int) (l : List Smp) : List Nat := if packE k n s l = 0 then padB k n s (textM l) else []

theorem packE_zero {k n s : Int} {l : List Smp} (h : packE k n s l = 0) : mayC k n s = true ∧ allR l = true ∧ 1 + 3 * (l.length : Int) ≤ k * s := by
  unfold packE at h
  split at h
  · rename_i q
    split at h
    · rename_i r
      exact ⟨q.1, q.2, r⟩
    · exact absurd h (by decide)
  · exact absurd h (by decide)

theorem packE_ok {k n s : Int} {l : List Smp} (h1 : mayC k n s = true) (h2 : allR l = true) (h3 : 1 + 3 * (l.length : Int) ≤ k * s) : packE k n s l = 0 := by
  unfold packE
  rw [if_pos ⟨h1, h2⟩, if_pos h3]

/-- The number of a sample's bytes, at its place. -/
def smAt (bs : List Nat) (i : Nat) : Nat := readB ((bs.drop (1 + 3 * i)).take 3)

def smOk (bs : List Nat) (i : Nat) : Bool := decide (smAt bs i % 8 = 0) && rightM (smOf (smAt bs i))

/-- How many there are to be. -/
def cntM (bs : List Nat) : Nat := bs.getD 0 0

/-- Are bytes a text of samples? -/
def parseB (bs : List Nat) : Bool := decide (0 < bs.length ∧ 1 + 3 * cntM bs ≤ bs.length ∧ (∀ i, i < cntM bs → smOk bs i = true) ∧ ∀ j, j < bs.length → 1 + 3 * cntM bs ≤ j → bs.getD j 0 = 0)

def parseE (bs : List Nat) : Int := if parseB bs = true then 0 else 6

def parseL (bs : List Nat) : List Smp := if parseB bs = true then (List.range (cntM bs)).map (fun i => smOf (smAt bs i)) else []

theorem parseE_zero {bs : List Nat} : parseE bs = 0 ↔ parseB bs = true := by
  unfold parseE
  constructor
  · intro h
    cases q : parseB bs with
    | true => rfl
    | false => rw [q] at h; exact absurd h (by decide)
  · intro h
    rw [if_pos h]

theorem packT_eq {k n s : Int} {l : List Smp} (h : packE k n s l = 0) : packT k n s l = textM l ++ List.replicate ((k * s).toNat - (textM l).length) 0 := by
  obtain ⟨h1, h2, h3⟩ := packE_zero h
  unfold packT
  rw [if_pos h]
  unfold padB
  rw [if_pos ⟨h1, by rw [textM_length]; push_cast; exact h3⟩]

theorem packT_length {k n s : Int} {l : List Smp} (h : packE k n s l = 0) : ((packT k n s l).length : Int) = k * s := by
  obtain ⟨h1, h2, h3⟩ := packE_zero h
  rw [packT_eq h, List.length_append, List.length_replicate, textM_length]
  omega

theorem packT_cnt {k n s : Int} {l : List Smp} (h : packE k n s l = 0) : cntM (packT k n s l) = l.length := by
  rw [packT_eq h]
  unfold cntM textM
  rfl

theorem packT_at {k n s : Int} {l : List Smp} (h : packE k n s l = 0) {i : Nat} (hi : i < l.length) : smAt (packT k n s l) i = smN l[i] := by
  obtain ⟨h1, h2, h3⟩ := packE_zero h
  have hr : rightM l[i] = true := List.all_eq_true.1 h2 _ (List.getElem_mem hi)
  have hlt := smN_lt hr
  rw [packT_eq h]
  unfold smAt textM
  rw [show 1 + 3 * i = 3 * i + 1 by omega, List.cons_append, List.drop_succ_cons, flat_at l i hi]
  unfold smB
  rw [readB_numB]
  exact Nat.mod_eq_of_lt hlt

theorem packT_parse {k n s : Int} {l : List Smp} (h : packE k n s l = 0) : parseB (packT k n s l) = true ∧ parseL (packT k n s l) = l := by
  obtain ⟨h1, h2, h3⟩ := packE_zero h
  have hc := packT_cnt h
  have hl := packT_length h
  have hB : parseB (packT k n s l) = true := by
    unfold parseB
    rw [decide_eq_true_iff, hc]
    refine ⟨by omega, by omega, fun i hi => ?_, fun j hj hq => ?_⟩
    · have hr : rightM l[i] = true := List.all_eq_true.1 h2 _ (List.getElem_mem hi)
      unfold smOk
      rw [packT_at h hi, smOf_smN hr, hr, decide_eq_true (smN_mod hr)]
      rfl
    · rw [packT_eq h, List.getD_eq_getElem?_getD, List.getElem?_append_right (by rw [textM_length]; omega), List.getElem?_replicate]
      split <;> rfl
  refine ⟨hB, ?_⟩
  unfold parseL
  rw [if_pos hB, hc]
  apply List.ext_getElem
  · simp
  · intro i q1 q2
    simp only [List.getElem_map, List.getElem_range]
    rw [packT_at h q2]
    exact smOf_smN (List.all_eq_true.1 h2 _ (List.getElem_mem q2))

/-- Three bytes, read as a number and put again. -/
theorem numB_readB {a b c : Nat} (ha : a < 256) (hb : b < 256) (hc : c < 256) : numB (readB [a, b, c]) 3 = [a, b, c] := by
  have e : readB [a, b, c] = (a * 256 + b) * 256 + c := by simp [readB]
  rw [e, numB_succ, numB_succ, numB_succ]
  simp only [numB, List.range_zero, List.map_nil, List.nil_append, List.cons_append, List.cons.injEq, and_true]
  omega

theorem take3 (bs : List Nat) {i : Nat} (h : i + 3 ≤ bs.length) : (bs.drop i).take 3 = [bs.getD i 0, bs.getD (i + 1) 0, bs.getD (i + 2) 0] := by
  apply List.ext_getElem
  · simp; omega
  · intro j q1 q2
    have hj : j < 3 := by simpa using q2
    simp only [List.getElem_take, List.getElem_drop]
    have e : ∀ m, (hm : m < bs.length) → bs.getD m 0 = bs[m] := fun m hm => by simp [hm]
    match j, hj with
    | 0, _ => exact (e i (by omega)).symm
    | 1, _ => exact (e (i + 1) (by omega)).symm
    | 2, _ => exact (e (i + 2) (by omega)).symm

theorem parse_length {bs : List Nat} (h : parseB bs = true) : (parseL bs).length = cntM bs := by
  unfold parseL
  rw [if_pos h]
  simp

theorem parse_right {bs : List Nat} (h : parseB bs = true) : allR (parseL bs) = true := by
  have hB := h
  unfold parseB at hB
  rw [decide_eq_true_iff] at hB
  unfold parseL allR
  rw [if_pos h, List.all_eq_true]
  intro s hs
  obtain ⟨i, hi, rfl⟩ := List.mem_map.1 hs
  have := hB.2.2.1 i (List.mem_range.1 hi)
  unfold smOk at this
  exact (Bool.and_eq_true _ _ ▸ this).2

/-- What is parsed, packed again. -/
theorem parse_pack {k n s : Int} {bs : List Nat} (h : parseB bs = true) (hY : ∀ b ∈ bs, b < 256) (hm : mayC k n s = true) (hl : k * s = (bs.length : Int)) : packE k n s (parseL bs) = 0 ∧ packT k n s (parseL bs) = bs := by
  have hB := h
  unfold parseB at hB
  rw [decide_eq_true_iff] at hB
  obtain ⟨b0, b1, b2, b3⟩ := hB
  have hlen := parse_length h
  have hE : packE k n s (parseL bs) = 0 := packE_ok hm (parse_right h) (by rw [hlen]; omega)
  refine ⟨hE, ?_⟩
  have hL := packT_length hE
  have hyb : ∀ j, bs.getD j 0 < 256 := fun j => by
    by_cases q : j < bs.length
    · rw [List.getD_eq_getElem?_getD, List.getElem?_eq_getElem q]
      exact hY _ (List.getElem_mem q)
    · rw [List.getD_eq_getElem?_getD, List.getElem?_eq_none (by omega)]
      decide
  have hsm : ∀ i, i < cntM bs → smB (smOf (smAt bs i)) = [bs.getD (1 + 3 * i) 0, bs.getD (1 + 3 * i + 1) 0, bs.getD (1 + 3 * i + 2) 0] := fun i hi => by
    have q := b2 i hi
    unfold smOk at q
    have q8 : smAt bs i % 8 = 0 := of_decide_eq_true (Bool.and_eq_true _ _ ▸ q).1
    have e : smAt bs i = readB [bs.getD (1 + 3 * i) 0, bs.getD (1 + 3 * i + 1) 0, bs.getD (1 + 3 * i + 2) 0] := by
      unfold smAt
      rw [take3 bs (by omega)]
    have hlt : smAt bs i < 16777216 := by
      rw [e]
      have a1 := hyb (1 + 3 * i)
      have a2 := hyb (1 + 3 * i + 1)
      have a3 := hyb (1 + 3 * i + 2)
      have e2 : readB [bs.getD (1 + 3 * i) 0, bs.getD (1 + 3 * i + 1) 0, bs.getD (1 + 3 * i + 2) 0] = (bs.getD (1 + 3 * i) 0 * 256 + bs.getD (1 + 3 * i + 1) 0) * 256 + bs.getD (1 + 3 * i + 2) 0 := by simp [readB]
      rw [e2]
      omega
    unfold smB
    rw [smN_smOf hlt q8, e]
    exact numB_readB (hyb _) (hyb _) (hyb _)
  -- byte by byte
  have hget : ∀ i j, i < cntM bs → j < 3 → ((parseL bs).flatMap smB).getD (3 * i + j) 0 = bs.getD (1 + 3 * i + j) 0 := fun i j hi hj => by
    have hi' : i < (parseL bs).length := by rw [hlen]; exact hi
    have hf := flat_at (parseL bs) i hi' []
    rw [List.append_nil] at hf
    have hel : (parseL bs)[i] = smOf (smAt bs i) := by
      have : parseL bs = (List.range (cntM bs)).map (fun i => smOf (smAt bs i)) := by unfold parseL; rw [if_pos h]
      simp [this]
    rw [hel, hsm i hi] at hf
    have hfl := flat_length (parseL bs)
    rw [hlen] at hfl
    have e1 : ((parseL bs).flatMap smB).getD (3 * i + j) 0 = ((((parseL bs).flatMap smB).drop (3 * i)).take 3).getD j 0 := by
      rw [List.getD_eq_getElem?_getD, List.getD_eq_getElem?_getD, List.getElem?_take_of_lt hj, List.getElem?_drop]
    rw [e1, hf]
    match j, hj with
    | 0, _ => rfl
    | 1, _ => rfl
    | 2, _ => rfl
  rw [packT_eq hE]
  have hTL := textM_length (parseL bs)
  rw [hlen] at hTL
  apply List.ext_getElem
  · rw [List.length_append, List.length_replicate, hTL]; omega
  · intro j q1 q2
    have ej : bs[j] = bs.getD j 0 := by simp [q2]
    rw [ej]
    by_cases q : j < 1 + 3 * cntM bs
    · rw [List.getElem_append_left (by omega)]
      have e2 : (textM (parseL bs))[j]'(by omega) = (textM (parseL bs)).getD j 0 := by
        rw [List.getD_eq_getElem?_getD, List.getElem?_eq_getElem (by omega)]; rfl
      rw [e2]
      unfold textM
      cases j with
      | zero =>
        rw [hlen]
        rfl
      | succ j =>
        show ((parseL bs).flatMap smB).getD j 0 = _
        have hj3 : j = 3 * (j / 3) + j % 3 := by omega
        have := hget (j / 3) (j % 3) (by omega) (Nat.mod_lt _ (by decide))
        rw [← hj3] at this
        rw [this]
        congr 1
        omega
    · rw [List.getElem_append_right (by omega), List.getElem_replicate, b3 j q2 (by omega)]

/-- The first of samples that fit, fit. -/
theorem pack_take {k n s : Int} {l : List Smp} (h : packE k n s l = 0) (m : Nat) : packE k n s (l.take m) = 0 := by
  obtain ⟨h1, h2, h3⟩ := packE_zero h
  refine packE_ok h1 ?_ ?_
  · unfold allR at h2 ⊢
    rw [List.all_eq_true] at h2 ⊢
    exact fun s hs => h2 s (List.mem_of_mem_take hs)
  · have : (l.take m).length ≤ l.length := List.length_take_le' _ _
    omega

/-- Other bytes are none, or other samples. -/
theorem pack_other {k n s : Int} {l : List Smp} (h : packE k n s l = 0) {bs : List Nat} (hY : ∀ b ∈ bs, b < 256) (hl : bs.length = (packT k n s l).length) (hne : bs ≠ packT k n s l) : parseE bs = 6 ∨ parseL bs ≠ l := by
  cases q : parseB bs with
  | false => left; unfold parseE; rw [q]; rfl
  | true =>
    right
    intro e
    have hL := packT_length h
    obtain ⟨_, r⟩ := parse_pack (k := k) (n := n) (s := s) q hY (packE_zero h).1 (by rw [← hL, hl])
    rw [e] at r
    exact hne r.symm

/-- A text's bytes are bytes. -/
theorem packT_byt {k n s : Int} {l : List Smp} : ∀ b ∈ packT k n s l, b < 256 := by
  by_cases h : packE k n s l = 0
  · obtain ⟨h1, _, h3⟩ := packE_zero h
    have hm := mayC_true h1
    have hks : k * s ≤ 6 * 24 := by
      have a1 : k * s ≤ 6 * s := Int.mul_le_mul_of_nonneg_right hm.2.1 (by omega)
      omega
    rw [packT_eq h]
    intro b hb
    rcases List.mem_append.1 hb with q | q
    · unfold textM at q
      rcases List.mem_cons.1 q with q | q
      · omega
      · obtain ⟨s', _, r⟩ := List.mem_flatMap.1 q
        exact numB_byte _ _ b r
    · rw [(List.mem_replicate.1 q).2]; decide
  · unfold packT
    rw [if_neg h]
    intro b hb
    cases hb

theorem packT_few {k n s : Int} {l : List Smp} : (packT k n s l).length ≤ 144 := by
  by_cases h : packE k n s l = 0
  · obtain ⟨h1, _, h3⟩ := packE_zero h
    have hm := mayC_true h1
    have hl := packT_length h
    have a1 : k * s ≤ 6 * s := Int.mul_le_mul_of_nonneg_right hm.2.1 (by omega)
    omega
  · unfold packT
    rw [if_neg h]
    simp

theorem parseL_few {bs : List Nat} (h : bs.length ≤ 300) : (parseL bs).length ≤ 100 := by
  by_cases q : parseB bs = true
  · rw [parse_length q]
    unfold parseB at q
    rw [decide_eq_true_iff] at q
    omega
  · unfold parseL
    rw [if_neg q]
    simp

end Go.Proofs.YthbfdfkkacmbhabDoor.Bt
