/- Plain: a bed in a watch among others, and in one of its own. -/
import Derived.Test.YtngfgahdiobcmaaWtPure
namespace Go.Proofs.Ytngfgahdiobcmaa.Bt

theorem nodup_le {l : List Int} (h : l.Nodup) : ∀ m : List Int, (∀ x ∈ l, x ∈ m) → l.length ≤ m.length := by
  induction l with
  | nil => intro m _; simp
  | cons a l ih =>
    intro m hm
    rw [List.nodup_cons] at h
    have ha : a ∈ m := hm a (by simp)
    have hl := ih h.2 (m.erase a) (fun x hx => by
      have hne : x ≠ a := fun e => h.1 (e ▸ hx)
      exact (List.mem_erase_of_ne hne).2 (hm x (by simp [hx])))
    rw [List.length_erase_of_mem ha] at hl
    have := List.length_pos_of_mem ha
    simp only [List.length_cons]
    omega

/-- There is room for a bed from 0 to 7 that isn't there. -/
theorem room7 {A : List Wb} (ok : OkWb A) (few : ∀ x ∈ A, 0 ≤ x.bed ∧ x.bed ≤ 7) {b : Int} (hb : 0 ≤ b ∧ b ≤ 7) (hn : ∀ x ∈ A, isWb b x = false) : A.length ≤ 7 := by
  have q := nodup_le (l := b :: A.map Wb.bed) (by
    rw [List.nodup_cons]
    refine ⟨fun h => ?_, ok.once⟩
    obtain ⟨x, hx, e⟩ := List.mem_map.1 h
    have := hn x hx
    rw [isWb_iff.2 e] at this
    cases this) [0, 1, 2, 3, 4, 5, 6, 7] (fun x hx => by
    have r : 0 ≤ x ∧ x ≤ 7 := by
      rcases List.mem_cons.1 hx with e | e
      · rw [e]; exact hb
      · obtain ⟨y, hy, rfl⟩ := List.mem_map.1 e
        exact few y hy
    have : x = 0 ∨ x = 1 ∨ x = 2 ∨ x = 3 ∨ x = 4 ∨ x = 5 ∨ x = 6 ∨ x = 7 := by omega
    rcases this with e | e | e | e | e | e | e | e <;> subst e <;> simp)
  simp only [List.length_cons, List.length_map, List.length_nil] at q
  omega

structure AP (bed : Int) (A C : List Wb) : Prop where
  same : A.find? (isWb bed) = C.find? (isWb bed)
  only : ∀ x ∈ C, x.bed = bed
  few : ∀ x ∈ A, 0 ≤ x.bed ∧ x.bed ≤ 7

variable {bed : Int} {A C : List Wb}

theorem ap_nil (bed : Int) : AP bed [] [] := ⟨rfl, (fun x hx => by cases hx), (fun x hx => by cases hx)⟩

theorem AP.lost (h : AP bed A C) : lostWb A bed = lostWb C bed := by unfold lostWb; rw [h.same]

theorem add_few {b most now : Int} (h : ∀ x ∈ A, 0 ≤ x.bed ∧ x.bed ≤ 7) (hb : 0 ≤ b ∧ b ≤ 7) : ∀ x ∈ addWt A b most now, 0 ≤ x.bed ∧ x.bed ≤ 7 := by
  unfold addWt
  split
  · intro x hx
    rcases List.mem_append.1 hx with q | q
    · exact h x q
    · obtain rfl := List.mem_singleton.1 q
      exact hb
  · exact h

theorem AP.addOwn (h : AP bed A C) (okA : OkWb A) (hb : 0 ≤ bed ∧ bed ≤ 7) (most now : Int) : AP bed (addWt A bed most now) (addWt C bed most now) := by
  cases hm : mostWb most with
  | false =>
    have e : ∀ L : List Wb, addWt L bed most now = L := fun L => by
      have : addWe L bed most = 1 := by simp [addWe, hm]
      unfold addWt
      rw [if_neg (by rw [this]; decide)]
    rw [e, e]
    exact h
  | true =>
    cases hf : A.find? (isWb bed) with
    | some x =>
      have hg : C.find? (isWb bed) = some x := by rw [← h.same, hf]
      have e : ∀ L : List Wb, L.find? (isWb bed) = some x → addWt L bed most now = L := fun L hL => by
        have : addWe L bed most = 9 := by simp [addWe, hm, hL]
        unfold addWt
        rw [if_neg (by rw [this]; decide)]
      rw [e A hf, e C hg]
      exact h
    | none =>
      have hg : C.find? (isWb bed) = none := by rw [← h.same, hf]
      have nA : ∀ x ∈ A, isWb bed x = false := fun x hx => by have := List.find?_eq_none.1 hf x hx; simpa using this
      have nC : C = [] := by
        cases C with
        | nil => rfl
        | cons c cs =>
          have := List.find?_eq_none.1 hg c (by simp)
          rw [isWb_iff.2 (h.only c (by simp))] at this
          exact absurd rfl this
      have lA := room7 okA h.few hb nA
      have e : ∀ L : List Wb, L.find? (isWb bed) = none → L.length ≤ 7 → addWt L bed most now = L ++ [⟨bed, most, now, false⟩] := fun L hL hl => by
        have : addWe L bed most = 0 := by
          unfold addWe
          rw [if_pos hm, hL, if_neg (by simp), if_neg (by omega)]
        unfold addWt
        rw [if_pos this]
      refine ⟨?_, ?_, add_few h.few hb⟩
      · rw [e A hf lA, e C hg (by rw [nC]; simp), List.find?_append, List.find?_append, hf, hg]
      · rw [e C hg (by rw [nC]; simp), nC]
        intro x hx
        obtain rfl := List.mem_singleton.1 hx
        rfl

theorem AP.addOther (h : AP bed A C) {b : Int} (hne : b ≠ bed) (hb : 0 ≤ b ∧ b ≤ 7) (most now : Int) : AP bed (addWt A b most now) C := by
  refine ⟨?_, h.only, add_few h.few hb⟩
  unfold addWt
  split
  · rw [List.find?_append, ← h.same]
    have : [(⟨b, most, now, false⟩ : Wb)].find? (isWb bed) = none := by
      rw [List.find?_eq_none]
      intro x hx
      obtain rfl := List.mem_singleton.1 hx
      simp [isWb, hne]
    rw [this]
    cases A.find? (isWb bed) <;> rfl
  · exact h.same

theorem find_filter_ne {b : Int} (hne : b ≠ bed) (L : List Wb) : (remWt L b).find? (isWb bed) = L.find? (isWb bed) := by
  unfold remWt
  rw [List.find?_filter]
  congr 1
  funext x
  by_cases e : x.bed = bed
  · have : isWb b x = false := by simp [isWb, e]; exact fun q => hne q.symm
    rw [this, isWb_iff.2 e]
    rfl
  · have : isWb bed x = false := by simp [isWb, e]
    simp [this]

theorem find_filter_own (L : List Wb) : (remWt L bed).find? (isWb bed) = none := by
  rw [List.find?_eq_none]
  intro x hx
  have := (List.mem_filter.1 hx).2
  simpa using this

theorem AP.remOwn (h : AP bed A C) : AP bed (remWt A bed) (remWt C bed) :=
  ⟨by rw [find_filter_own, find_filter_own], fun x hx => h.only x (List.mem_filter.1 hx).1, fun x hx => h.few x (List.mem_filter.1 hx).1⟩

theorem AP.remOther (h : AP bed A C) {b : Int} (hne : b ≠ bed) : AP bed (remWt A b) C :=
  ⟨by rw [find_filter_ne hne]; exact h.same, h.only, fun x hx => h.few x (List.mem_filter.1 hx).1⟩

theorem find_mapW (L : List Wb) (f : Wb → Wb) (hf : ∀ x, (f x).bed = x.bed) (b : Int) : (L.map f).find? (isWb b) = (L.find? (isWb b)).map f := by
  rw [List.find?_map]
  congr 2
  funext x
  simp [isWb, hf]

theorem mapW_few {f : Wb → Wb} (hf : ∀ x, (f x).bed = x.bed) {P : Int → Prop} {L : List Wb} (h : ∀ x ∈ L, P x.bed) : ∀ x ∈ L.map f, P x.bed := fun x hx => by
  obtain ⟨y, hy, rfl⟩ := List.mem_map.1 hx
  rw [hf]
  exact h y hy

theorem hf_bed (b now : Int) (x : Wb) : (if isWb b x = true then { x with last := now, lost := false } else x : Wb).bed = x.bed := by split <;> rfl

theorem lf_bed (now : Int) (x : Wb) : (lookOne now x).bed = x.bed := by unfold lookOne; split <;> rfl

theorem AP.heardOwn (h : AP bed A C) (now : Int) : AP bed (heardWt A bed now) (heardWt C bed now) :=
  ⟨by unfold heardWt; rw [find_mapW _ _ (hf_bed bed now), find_mapW _ _ (hf_bed bed now), h.same], mapW_few (P := fun b => b = bed) (hf_bed bed now) h.only, mapW_few (P := fun b => 0 ≤ b ∧ b ≤ 7) (hf_bed bed now) h.few⟩

theorem AP.heardOther (h : AP bed A C) {b : Int} (hne : b ≠ bed) (now : Int) : AP bed (heardWt A b now) C := by
  refine ⟨?_, h.only, mapW_few (P := fun b => 0 ≤ b ∧ b ≤ 7) (hf_bed b now) h.few⟩
  unfold heardWt
  rw [find_mapW _ _ (hf_bed b now), ← h.same]
  cases hf : A.find? (isWb bed) with
  | none => rfl
  | some x =>
    have e := isWb_iff.1 (List.find?_some hf)
    have : isWb b x = false := by simp [isWb, e]; exact fun q => hne q.symm
    simp [this]

theorem AP.look (h : AP bed A C) (now : Int) : AP bed (lookWt A now) (lookWt C now) :=
  ⟨by unfold lookWt; rw [find_mapW _ _ (lf_bed now), find_mapW _ _ (lf_bed now), h.same], mapW_few (P := fun b => b = bed) (lf_bed now) h.only, mapW_few (P := fun b => 0 ≤ b ∧ b ≤ 7) (lf_bed now) h.few⟩

end Go.Proofs.Ytngfgahdiobcmaa.Bt
