/- Plain: what waits, in whatever order it lies, and the queue that it is. -/
import Derived.Test.YtgcpkploeobafaaEdPure
import Derived.Test.YtgcpkploeobafaaHpPure
namespace Go.Proofs.Ytgcpkploeobafaa.Bt

/-- A job that waits, with its number: the lesser came first. -/
structure It where
  job : Jb
  num : Nat
  deriving DecidableEq

/-- Does one come ahead of another? -/
def ltI (a b : It) : Bool := decide (a.job.dl < b.job.dl ∨ (a.job.dl = b.job.dl ∧ (a.job.bed < b.job.bed ∨ (a.job.bed = b.job.bed ∧ a.num < b.num))))

theorem ltI_true {a b : It} : ltI a b = true ↔ (a.job.dl < b.job.dl ∨ (a.job.dl = b.job.dl ∧ (a.job.bed < b.job.bed ∨ (a.job.bed = b.job.bed ∧ a.num < b.num)))) := decide_eq_true_iff
theorem ltI_false {a b : It} : ltI a b = false ↔ ¬ (a.job.dl < b.job.dl ∨ (a.job.dl = b.job.dl ∧ (a.job.bed < b.job.bed ∨ (a.job.bed = b.job.bed ∧ a.num < b.num)))) := decide_eq_false_iff_not

theorem ltI_tr : ∀ a b c, ltI b a = false → ltI c b = false → ltI c a = false := by
  intro a b c h1 h2
  rw [ltI_false] at *
  omega

theorem ltI_as : ∀ a b, ltI a b = true → ltI b a = false := by
  intro a b h
  rw [ltI_true] at h
  rw [ltI_false]
  omega

theorem ltI_rf : ∀ a, ltI a a = false := by
  intro a
  rw [ltI_false]
  omega

/-- Those that lie there are the queue x. -/
def Rep (hs : List It) (x : List Jb) : Prop := ∃ s : List It, s.Perm hs ∧ s.Pairwise (fun a b => ltI a b = true) ∧ s.map (·.job) = x

theorem rep_nil : Rep [] [] := ⟨[], List.Perm.refl _, List.Pairwise.nil, rfl⟩

theorem Rep.perm {hs gs : List It} {x : List Jb} (h : Rep hs x) (p : hs.Perm gs) : Rep gs x := by
  obtain ⟨s, a, b, c⟩ := h
  exact ⟨s, a.trans p, b, c⟩

theorem Rep.len {hs : List It} {x : List Jb} (h : Rep hs x) : hs.length = x.length := by
  obtain ⟨s, a, _, c⟩ := h
  rw [← a.length_eq, ← c, List.length_map]

/-- The insertion of one whose number is above all others'. -/
def insI : List It → It → List It
  | [], j => [j]
  | b :: x, j => if ahJ j.job b.job = true then j :: b :: x else b :: insI x j

theorem insI_map (s : List It) (j : It) : (insI s j).map (·.job) = insJ (s.map (·.job)) j.job := by
  induction s with
  | nil => rfl
  | cons b s ih =>
    unfold insI
    simp only [List.map_cons, insJ]
    split
    · rfl
    · rw [List.map_cons, ih]

theorem insI_perm (s : List It) (j : It) : (insI s j).Perm (s ++ [j]) := by
  induction s with
  | nil => exact List.Perm.refl _
  | cons b s ih =>
    unfold insI
    split
    · exact (List.perm_append_singleton j (b :: s)).symm
    · exact ih.cons b

theorem insI_srt {s : List It} (h : s.Pairwise (fun a b => ltI a b = true)) (j : It) (hn : ∀ a ∈ s, a.num < j.num) : (insI s j).Pairwise (fun a b => ltI a b = true) := by
  induction s with
  | nil => exact List.pairwise_singleton _ _
  | cons b s ih =>
    have h1 := List.pairwise_cons.1 h
    unfold insI
    split
    · rename_i q
      refine List.pairwise_cons.2 ⟨fun a ha => ?_, h⟩
      rw [ahJ_true] at q
      rcases List.mem_cons.1 ha with rfl | ha
      · rw [ltI_true]; omega
      · have r := h1.1 a ha
        rw [ltI_true] at r ⊢
        omega
    · rename_i q
      refine List.pairwise_cons.2 ⟨fun a ha => ?_, ih h1.2 (fun a ha => hn a (by simp [ha]))⟩
      have ha := (insI_perm s j).mem_iff.1 ha
      rcases List.mem_append.1 ha with ha | ha
      · exact h1.1 a ha
      · obtain rfl : a = j := by simpa using ha
        have q' : ahJ a.job b.job = false := by simpa using q
        rw [ahJ_false] at q'
        have := hn b (by simp)
        rw [ltI_true]
        omega

theorem Rep.push {hs : List It} {x : List Jb} (h : Rep hs x) (j : It) (hn : ∀ a ∈ hs, a.num < j.num) : Rep (hs ++ [j]) (insJ x j.job) := by
  obtain ⟨s, a, b, c⟩ := h
  refine ⟨insI s j, (insI_perm s j).trans (a.append_right _), insI_srt b j (fun z hz => hn z (a.mem_iff.1 hz)), ?_⟩
  rw [insI_map, c]

/-- The one that no other comes ahead of is the queue's first. -/
theorem Rep.first {hs : List It} {x : List Jb} (h : Rep hs x) {r : It} (hr : r ∈ hs) (hmin : ∀ a ∈ hs, ltI a r = false) : ∃ x', x = r.job :: x' ∧ ∀ gs, hs.Perm (r :: gs) → Rep gs x' := by
  obtain ⟨s, a, b, c⟩ := h
  have hrs := a.mem_iff.2 hr
  cases s with
  | nil => cases hrs
  | cons t s =>
    have b1 := List.pairwise_cons.1 b
    have e : t = r := by
      rcases List.mem_cons.1 hrs with q | q
      · exact q.symm
      · have q1 := b1.1 r q
        have q2 := hmin t (a.mem_iff.1 (by simp))
        rw [q1] at q2
        cases q2
    subst e
    refine ⟨s.map (·.job), by rw [← c]; rfl, fun gs hp => ⟨s, ?_, b1.2, rfl⟩⟩
    exact (List.Perm.cons_inv (a.trans hp))

/-- The first one, worked on: it stays the first. -/
theorem Rep.worked {gs : List It} {x' : List Jb} {r r' : It} (h : Rep (r :: gs) (r.job :: x')) (hmin : ∀ a ∈ gs, ltI r a = true) (h1 : r'.job.dl = r.job.dl) (h2 : r'.job.bed = r.job.bed) (h3 : r'.num = r.num) : Rep (r' :: gs) (r'.job :: x') := by
  obtain ⟨y, e, hg⟩ := h.first (r := r) (by simp) (fun a ha => by
    rcases List.mem_cons.1 ha with rfl | ha
    · exact ltI_rf _
    · exact ltI_as _ _ (hmin a ha))
  cases e
  obtain ⟨s, a, b, c⟩ := hg gs (List.Perm.refl _)
  refine ⟨r' :: s, a.cons r', List.pairwise_cons.2 ⟨fun z hz => ?_, b⟩, by rw [List.map_cons, c]⟩
  have q := hmin z (a.mem_iff.1 hz)
  rw [ltI_true] at q ⊢
  omega

theorem Rep.filter {hs : List It} {x : List Jb} (h : Rep hs x) (p : Jb → Bool) : Rep (hs.filter (fun a => p a.job)) (x.filter p) := by
  obtain ⟨s, a, b, c⟩ := h
  refine ⟨s.filter (fun a => p a.job), a.filter _, b.filter _, ?_⟩
  rw [← c, List.filter_map]
  rfl

theorem Rep.left {hs : List It} {x : List Jb} (h : Rep hs x) : leftQ (hs.map (·.job)) = leftQ x := by
  obtain ⟨s, a, _, c⟩ := h
  rw [← c]
  have key : ∀ {l m : List Jb}, l.Perm m → leftQ l = leftQ m := fun p => by
    induction p with
    | nil => rfl
    | cons z _ ih => simp only [leftQ, ih]
    | swap y z _ => simp only [leftQ]; omega
    | trans _ _ i1 i2 => exact i1.trans i2
  exact (key (a.map _)).symm

end Go.Proofs.Ytgcpkploeobafaa.Bt
