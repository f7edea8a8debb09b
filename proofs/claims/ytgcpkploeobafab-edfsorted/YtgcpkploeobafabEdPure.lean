/- Plain: jobs that wait, those ahead that come ahead; no program is named here. -/
import Derived.Test.YtgcpkploeobafabPure
namespace Go.Proofs.Ytgcpkploeobafab.Bt

/-- A job. -/
structure Jb where
  bed : Int
  kind : Int
  tick : Int
  value : Int
  since : Int
  dl : Int
  left : Int
  deriving DecidableEq

/-- May it be? -/
def mayJ (j : Jb) : Bool := decide ((1 ≤ j.left ∧ j.left ≤ 1000) ∧ (0 ≤ j.since ∧ j.since ≤ 1099511627776) ∧ (0 ≤ j.dl ∧ j.dl ≤ 1099511627776))

theorem mayJ_true {j : Jb} (h : mayJ j = true) : (1 ≤ j.left ∧ j.left ≤ 1000) ∧ (0 ≤ j.since ∧ j.since ≤ 1099511627776) ∧ (0 ≤ j.dl ∧ j.dl ≤ 1099511627776) := of_decide_eq_true h

/-- Does one come ahead of another, wherever they stand? -/
def ahJ (a b : Jb) : Bool := decide (a.dl < b.dl ∨ (a.dl = b.dl ∧ a.bed < b.bed))

theorem ahJ_true {a b : Jb} : ahJ a b = true ↔ (a.dl < b.dl ∨ (a.dl = b.dl ∧ a.bed < b.bed)) := decide_eq_true_iff
theorem ahJ_false {a b : Jb} : ahJ a b = false ↔ ¬ (a.dl < b.dl ∨ (a.dl = b.dl ∧ a.bed < b.bed)) := decide_eq_false_iff_not

/-- In order. -/
def SrtJ (x : List Jb) : Prop := x.Pairwise (fun a b => ahJ b a = false)

/-- One more, behind all that it doesn't come ahead of. -/
def insJ : List Jb → Jb → List Jb
  | [], j => [j]
  | b :: x, j => if ahJ j b = true then j :: b :: x else b :: insJ x j

theorem insJ_length (x : List Jb) (j : Jb) : (insJ x j).length = x.length + 1 := by
  induction x with
  | nil => rfl
  | cons b x ih =>
    unfold insJ
    split
    · rfl
    · rw [List.length_cons, ih, List.length_cons]

theorem insJ_perm (x : List Jb) (j : Jb) : (insJ x j).Perm (j :: x) := by
  induction x with
  | nil => exact List.Perm.refl _
  | cons b x ih =>
    unfold insJ
    split
    · exact List.Perm.refl _
    · exact (ih.cons b).trans (List.Perm.swap j b x)

theorem insJ_mem {x : List Jb} {j a : Jb} : a ∈ insJ x j ↔ a = j ∨ a ∈ x := by
  rw [(insJ_perm x j).mem_iff, List.mem_cons]

theorem insJ_srt {x : List Jb} (h : SrtJ x) (j : Jb) : SrtJ (insJ x j) := by
  induction x with
  | nil => exact List.pairwise_singleton _ _
  | cons b x ih =>
    have h1 := List.pairwise_cons.1 h
    unfold insJ
    split
    · rename_i q
      refine List.pairwise_cons.2 ⟨fun a ha => ?_, h⟩
      rcases List.mem_cons.1 ha with rfl | ha
      · rw [ahJ_true] at q; rw [ahJ_false]; omega
      · have r := h1.1 a ha
        rw [ahJ_true] at q
        rw [ahJ_false] at r ⊢
        omega
    · rename_i q
      refine List.pairwise_cons.2 ⟨fun a ha => ?_, ih h1.2⟩
      rcases insJ_mem.1 ha with rfl | ha
      · simpa using q
      · exact h1.1 a ha

/-- Those that are left out don't matter to where one stands. -/
theorem insJ_filter {x : List Jb} (h : SrtJ x) (j : Jb) (p : Jb → Bool) (hp : p j = true) : (insJ x j).filter p = insJ (x.filter p) j := by
  induction x with
  | nil => simp [insJ, hp]
  | cons b x ih =>
    have h1 := List.pairwise_cons.1 h
    by_cases q : ahJ j b = true
    · have e : insJ (b :: x) j = j :: b :: x := by rw [insJ, if_pos q]
      rw [e, List.filter_cons_of_pos hp]
      -- all behind come behind it
      have hall : ∀ a ∈ (b :: x).filter p, ahJ j a = true := fun a ha => by
        have ha := (List.mem_filter.1 ha).1
        rcases List.mem_cons.1 ha with rfl | ha
        · exact q
        · have r := h1.1 a ha
          rw [ahJ_true] at q ⊢
          rw [ahJ_false] at r
          omega
      cases hy : (b :: x).filter p with
      | nil => rfl
      | cons c y => rw [insJ, if_pos (hall c (by rw [hy]; simp))]
    · have e : insJ (b :: x) j = b :: insJ x j := by rw [insJ, if_neg q]
      rw [e]
      by_cases pb : p b = true
      · rw [List.filter_cons_of_pos pb, List.filter_cons_of_pos pb, ih h1.2, insJ, if_neg q]
      · rw [List.filter_cons_of_neg pb, List.filter_cons_of_neg pb, ih h1.2]

theorem insJ_filter_no (x : List Jb) (j : Jb) (p : Jb → Bool) (hp : p j = false) : (insJ x j).filter p = x.filter p := by
  induction x with
  | nil => simp [insJ, hp]
  | cons b x ih =>
    unfold insJ
    split
    · rw [List.filter_cons_of_neg (by rw [hp]; simp)]
    · by_cases pb : p b = true
      · rw [List.filter_cons_of_pos pb, List.filter_cons_of_pos pb, ih]
      · rw [List.filter_cons_of_neg pb, List.filter_cons_of_neg pb, ih]

/-- What Push answers, and leaves. -/
def pushE' (x : List Jb) (j : Jb) : Int := if mayJ j = true then (if 40 ≤ x.length then 7 else 0) else 1
def pushQ (x : List Jb) (j : Jb) : List Jb := if pushE' x j = 0 then insJ x j else x

/-- What is left of all. -/
def leftQ : List Jb → Int
  | [] => 0
  | j :: x => j.left + leftQ x

def zeroJ (j : Jb) : Jb := { j with left := 0 }

/-- Work, of so many units: what is done, what waits, units left over. -/
def workD : List Jb → Nat → List Jb
  | [], _ => []
  | j :: x, u => if u = 0 then [] else if j.left ≤ (u : Int) then zeroJ j :: workD x (u - j.left.toNat) else []

def workR : List Jb → Nat → List Jb
  | [], _ => []
  | j :: x, u => if u = 0 then j :: x else if j.left ≤ (u : Int) then workR x (u - j.left.toNat) else { j with left := j.left - u } :: x

def workN : List Jb → Nat → Nat
  | [], u => u
  | j :: x, u => if u = 0 then 0 else if j.left ≤ (u : Int) then workN x (u - j.left.toNat) else 0

/-- All that wait may. -/
def AllJ (x : List Jb) : Prop := ∀ j ∈ x, mayJ j = true

/-- A queue that can be: in order, of jobs that may be, no more than there may be. -/
structure QOk (x : List Jb) : Prop where
  srt : SrtJ x
  all : AllJ x
  few : x.length ≤ 40

theorem qok_nil : QOk [] := ⟨List.Pairwise.nil, (fun _ h => by cases h), by simp⟩

theorem pushQ_ok {x : List Jb} (h : QOk x) (j : Jb) : QOk (pushQ x j) := by
  unfold pushQ
  split
  · rename_i q
    have hm : mayJ j = true ∧ x.length < 40 := by
      unfold pushE' at q
      split at q
      · rename_i r
        split at q
        · exact absurd q (by decide)
        · exact ⟨r, by omega⟩
      · exact absurd q (by decide)
    refine ⟨insJ_srt h.srt j, fun a ha => ?_, by rw [insJ_length]; omega⟩
    rcases insJ_mem.1 ha with rfl | ha
    · exact hm.1
    · exact h.all a ha
  · exact h

theorem work_zero (x : List Jb) : workD x 0 = [] ∧ workR x 0 = x ∧ workN x 0 = 0 := by
  cases x with
  | nil => exact ⟨rfl, rfl, rfl⟩
  | cons j x => exact ⟨rfl, rfl, rfl⟩

theorem leftQ_nonneg {x : List Jb} (h : AllJ x) : 0 ≤ leftQ x := by
  induction x with
  | nil => exact Int.le_refl _
  | cons j x ih =>
    have h1 := (mayJ_true (h j (by simp))).1
    have h2 := ih (fun a ha => h a (by simp [ha]))
    simp only [leftQ]
    omega

/-- What is left over, and what goes. -/
theorem work_sum {x : List Jb} (h : AllJ x) (u : Nat) : leftQ x - leftQ (workR x u) = (u : Int) - (workN x u : Int) ∧ (workN x u = 0 ∨ workR x u = []) ∧ workN x u ≤ u := by
  induction x generalizing u with
  | nil => exact ⟨by simp [workR, workN, leftQ], .inr rfl, Nat.le_refl _⟩
  | cons j x ih =>
    have hj := (mayJ_true (h j (by simp))).1
    have hx : AllJ x := fun a ha => h a (by simp [ha])
    unfold workR workN
    by_cases u0 : u = 0
    · rw [if_pos u0, if_pos u0]; exact ⟨by omega, .inl rfl, Nat.zero_le _⟩
    · rw [if_neg u0, if_neg u0]
      by_cases q : j.left ≤ (u : Int)
      · rw [if_pos q, if_pos q]
        obtain ⟨a, b, c⟩ := ih hx (u - j.left.toNat)
        refine ⟨?_, b, by omega⟩
        simp only [leftQ]
        omega
      · rw [if_neg q, if_neg q]
        exact ⟨by simp only [leftQ]; omega, .inl rfl, Nat.zero_le _⟩

/-- What waits stands as it stood. -/
theorem workR_ok {x : List Jb} (h : QOk x) (u : Nat) : QOk (workR x u) := by
  induction x generalizing u with
  | nil => exact h
  | cons j x ih =>
    have h1 := List.pairwise_cons.1 h.srt
    have hx : QOk x := ⟨h1.2, fun a ha => h.all a (by simp [ha]), by have := h.few; simp at this; omega⟩
    have hj := mayJ_true (h.all j (by simp))
    unfold workR
    split
    · exact h
    · rename_i u0
      split
      · exact ih hx _
      · rename_i q
        refine ⟨List.pairwise_cons.2 ⟨fun a ha => h1.1 a ha, h1.2⟩, fun a ha => ?_, h.few⟩
        rcases List.mem_cons.1 ha with rfl | ha
        · refine decide_eq_true ⟨⟨?_, ?_⟩, hj.2⟩ <;> simp only <;> omega
        · exact h.all a (by simp [ha])

theorem workD_mem {x : List Jb} {u : Nat} {a : Jb} (h : a ∈ workD x u) : ∃ j ∈ x, a = zeroJ j := by
  induction x generalizing u with
  | nil => cases h
  | cons j x ih =>
    unfold workD at h
    split at h
    · cases h
    · split at h
      · rcases List.mem_cons.1 h with rfl | h
        · exact ⟨j, by simp, rfl⟩
        · obtain ⟨b, hb, e⟩ := ih h
          exact ⟨b, by simp [hb], e⟩
      · cases h

theorem workR_mem {x : List Jb} {u : Nat} {a : Jb} (h : a ∈ workR x u) : ∃ j ∈ x, a.dl = j.dl ∧ a.bed = j.bed := by
  induction x generalizing u with
  | nil => cases h
  | cons j x ih =>
    unfold workR at h
    split at h
    · exact ⟨a, h, rfl, rfl⟩
    · split at h
      · obtain ⟨b, hb, e⟩ := ih h
        exact ⟨b, by simp [hb], e⟩
      · rcases List.mem_cons.1 h with rfl | h
        · exact ⟨j, by simp, rfl, rfl⟩
        · exact ⟨a, by simp [h], rfl, rfl⟩

/-- Nothing is done ahead of what comes ahead of it. -/
theorem work_order {x : List Jb} (h : SrtJ x) (u : Nat) : (workD x u).Pairwise (fun a b => a.dl ≤ b.dl) ∧ ∀ a ∈ workD x u, ∀ b ∈ workR x u, a.dl ≤ b.dl := by
  induction x generalizing u with
  | nil => exact ⟨List.Pairwise.nil, fun _ h => by cases h⟩
  | cons j x ih =>
    have h1 := List.pairwise_cons.1 h
    have hle : ∀ a ∈ x, j.dl ≤ a.dl := fun a ha => by have r := h1.1 a ha; rw [ahJ_false] at r; omega
    unfold workD workR
    by_cases u0 : u = 0
    · rw [if_pos u0, if_pos u0]; exact ⟨List.Pairwise.nil, fun _ h => by cases h⟩
    · rw [if_neg u0, if_neg u0]
      by_cases q : j.left ≤ (u : Int)
      · rw [if_pos q, if_pos q]
        obtain ⟨a1, a2⟩ := ih h1.2 (u - j.left.toNat)
        refine ⟨List.pairwise_cons.2 ⟨fun a ha => ?_, a1⟩, fun a ha b hb => ?_⟩
        · obtain ⟨c, hc, rfl⟩ := workD_mem ha
          exact hle c hc
        · rcases List.mem_cons.1 ha with rfl | ha
          · obtain ⟨c, hc, e, _⟩ := workR_mem hb
            rw [e]
            exact hle c hc
          · exact a2 a ha b hb
      · rw [if_neg q, if_neg q]; exact ⟨List.Pairwise.nil, fun _ h => by cases h⟩

/-- Units one behind the other. -/
theorem work_add {x : List Jb} (h : AllJ x) (u v : Nat) : workD x (u + v) = workD x u ++ workD (workR x u) v ∧ workR x (u + v) = workR (workR x u) v := by
  induction x generalizing u with
  | nil => exact ⟨rfl, rfl⟩
  | cons j x ih =>
    have hj := (mayJ_true (h j (by simp))).1
    have hx : AllJ x := fun a ha => h a (by simp [ha])
    by_cases u0 : u = 0
    · subst u0
      rw [Nat.zero_add, (work_zero (j :: x)).1, (work_zero (j :: x)).2.1]
      exact ⟨rfl, rfl⟩
    · by_cases q : j.left ≤ (u : Int)
      · have e1 : workD (j :: x) u = zeroJ j :: workD x (u - j.left.toNat) := by rw [workD, if_neg u0, if_pos q]
        have e2 : workR (j :: x) u = workR x (u - j.left.toNat) := by rw [workR, if_neg u0, if_pos q]
        have e3 : workD (j :: x) (u + v) = zeroJ j :: workD x (u + v - j.left.toNat) := by rw [workD, if_neg (by omega), if_pos (by omega)]
        have e4 : workR (j :: x) (u + v) = workR x (u + v - j.left.toNat) := by rw [workR, if_neg (by omega), if_pos (by omega)]
        obtain ⟨a1, a2⟩ := ih hx (u - j.left.toNat)
        have e5 : u + v - j.left.toNat = u - j.left.toNat + v := by omega
        rw [e1, e2, e3, e4, e5, a1, a2]
        exact ⟨rfl, rfl⟩
      · have e1 : workD (j :: x) u = [] := by rw [workD, if_neg u0, if_neg q]
        have e2 : workR (j :: x) u = { j with left := j.left - u } :: x := by rw [workR, if_neg u0, if_neg q]
        rw [e1, e2]
        by_cases v0 : v = 0
        · subst v0
          rw [Nat.add_zero, e1, e2]
          exact ⟨by rw [(work_zero _).1]; rfl, by rw [(work_zero _).2.1]⟩
        · by_cases r : j.left ≤ ((u + v : Nat) : Int)
          · have e3 : workD (j :: x) (u + v) = zeroJ j :: workD x (u + v - j.left.toNat) := by rw [workD, if_neg (by omega), if_pos r]
            have e4 : workR (j :: x) (u + v) = workR x (u + v - j.left.toNat) := by rw [workR, if_neg (by omega), if_pos r]
            have e5 : v - (j.left - (u : Int)).toNat = u + v - j.left.toNat := by omega
            rw [e3, e4, workD, workR, if_neg v0, if_neg v0, if_pos (by simp only; omega), if_pos (by simp only; omega)]
            simp only [e5]
            exact ⟨rfl, trivial⟩
          · have e3 : workD (j :: x) (u + v) = [] := by rw [workD, if_neg (by omega), if_neg r]
            have e4 : workR (j :: x) (u + v) = { j with left := j.left - ((u + v : Nat) : Int) } :: x := by rw [workR, if_neg (by omega), if_neg r]
            rw [e3, e4, workD, workR, if_neg v0, if_neg v0, if_neg (by simp only; omega), if_neg (by simp only; omega)]
            refine ⟨rfl, ?_⟩
            congr 2
            simp only
            omega

/-- All of it is done in order. -/
theorem work_all {x : List Jb} (h : AllJ x) : workD x (leftQ x).toNat = x.map zeroJ ∧ workR x (leftQ x).toNat = [] ∧ workN x (leftQ x).toNat = 0 := by
  induction x with
  | nil => exact ⟨rfl, rfl, rfl⟩
  | cons j x ih =>
    have hj := (mayJ_true (h j (by simp))).1
    have hx : AllJ x := fun a ha => h a (by simp [ha])
    have hn := leftQ_nonneg hx
    obtain ⟨a1, a2, a3⟩ := ih hx
    have e : (leftQ (j :: x)).toNat - j.left.toNat = (leftQ x).toNat := by simp only [leftQ]; omega
    have z : ¬ (leftQ (j :: x)).toNat = 0 := by simp only [leftQ]; omega
    have q : j.left ≤ ((leftQ (j :: x)).toNat : Int) := by simp only [leftQ]; omega
    refine ⟨?_, ?_, ?_⟩
    · rw [workD, if_neg z, if_pos q, e, a1]; rfl
    · rw [workR, if_neg z, if_pos q, e, a2]
    · rw [workN, if_neg z, if_pos q, e, a3]

theorem filter_ok {x : List Jb} (h : QOk x) (p : Jb → Bool) : QOk (x.filter p) :=
  ⟨h.srt.filter p, fun a ha => h.all a (List.mem_filter.1 ha).1, Nat.le_trans (List.length_filter_le _ _) h.few⟩

/-- How many go, and stay. -/
theorem filter_parts (x : List Jb) (p : Jb → Bool) : (x.filter p).length + (x.filter (fun a => !p a)).length = x.length := by
  induction x with
  | nil => rfl
  | cons a x ih =>
    cases q : p a with
    | true => rw [List.filter_cons_of_pos q, List.filter_cons_of_neg (by simp [q])]; simp only [List.length_cons]; omega
    | false => rw [List.filter_cons_of_neg (by simp [q]), List.filter_cons_of_pos (by simp [q])]; simp only [List.length_cons]; omega

theorem insJ_count (x : List Jb) (j : Jb) (p : Jb → Bool) : ((insJ x j).filter p).length = (x.filter p).length + (if p j = true then 1 else 0) := by
  rw [((insJ_perm x j).filter p).length_eq]
  cases q : p j with
  | true => rw [List.filter_cons_of_pos q]; rfl
  | false => rw [List.filter_cons_of_neg (by simp [q])]; rfl

theorem leftQ_append (a b : List Jb) : leftQ (a ++ b) = leftQ a + leftQ b := by
  induction a with
  | nil => simp [leftQ]
  | cons j a ih => simp only [List.cons_append, leftQ, ih]; omega

theorem leftQ_ins (x : List Jb) (j : Jb) : leftQ (insJ x j) = leftQ x + j.left := by
  induction x with
  | nil => simp [insJ, leftQ]
  | cons b x ih =>
    unfold insJ
    split
    · simp only [leftQ]; omega
    · simp only [leftQ, ih]; omega

/-- Who is late, and who isn't; whose bed is told, and the others. -/
def lateD (x : List Jb) (now : Int) : List Jb := x.filter (fun j => decide (j.dl ≤ now))
def lateR (x : List Jb) (now : Int) : List Jb := x.filter (fun j => !decide (j.dl ≤ now))
def dropR (x : List Jb) (bed : Int) : List Jb := x.filter (fun j => !decide (j.bed = bed))
def dropN (x : List Jb) (bed : Int) : Nat := (x.filter (fun j => decide (j.bed = bed))).length

theorem lateR_ok {x : List Jb} (h : QOk x) (now : Int) : QOk (lateR x now) := filter_ok h _
theorem dropR_ok {x : List Jb} (h : QOk x) (bed : Int) : QOk (dropR x bed) := filter_ok h _

theorem late_len (x : List Jb) (now : Int) : (lateD x now).length + (lateR x now).length = x.length := filter_parts x _
theorem drop_len (x : List Jb) (bed : Int) : dropN x bed + (dropR x bed).length = x.length := filter_parts x _

/-- Behind it none is late. -/
theorem late_again (x : List Jb) (now : Int) : lateD (lateR x now) now = [] ∧ lateR (lateR x now) now = lateR x now := by
  unfold lateD lateR
  rw [List.filter_filter, List.filter_filter]
  constructor
  · rw [List.filter_eq_nil_iff]
    intro a _
    cases decide (a.dl ≤ now) <;> simp
  · congr 1
    funext a
    cases decide (a.dl ≤ now) <;> rfl

theorem lateR_above {x : List Jb} {now : Int} {a : Jb} (h : a ∈ lateR x now) : ¬ a.dl ≤ now := by
  have := (List.mem_filter.1 h).2
  simpa using this

theorem leftQ_bound {x : List Jb} (h : AllJ x) : leftQ x ≤ 1000 * x.length := by
  induction x with
  | nil => simp [leftQ]
  | cons j x ih =>
    have h1 := (mayJ_true (h j (by simp))).1
    have h2 := ih (fun a ha => h a (by simp [ha]))
    simp only [leftQ, List.length_cons]
    omega

end Go.Proofs.Ytgcpkploeobafab.Bt
