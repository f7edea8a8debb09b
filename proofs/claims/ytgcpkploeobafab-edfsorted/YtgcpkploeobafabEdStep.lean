/- Plain: a heap of what waits, worked on at its root, and its root taken out. -/
import Derived.Test.YtgcpkploeobafabEdRep
namespace Go.Proofs.Ytgcpkploeobafab.Bt

/-- The root is another one. -/
def rootI (h : Nat → It) (a : It) : Nat → It := fun k => if k = 0 then a else h k

theorem ltI_key {a a' b b' : It} (h1 : a'.job.dl = a.job.dl) (h2 : a'.job.bed = a.job.bed) (h3 : a'.num = a.num) (g1 : b'.job.dl = b.job.dl) (g2 : b'.job.bed = b.job.bed) (g3 : b'.num = b.num) : ltI a' b' = ltI a b := by
  unfold ltI
  rw [h1, h2, h3, g1, g2, g3]

theorem heapF_root {h : Nat → It} {m : Nat} {a : It} (h1 : a.job.dl = (h 0).job.dl) (h2 : a.job.bed = (h 0).job.bed) (h3 : a.num = (h 0).num) (hH : HeapF ltI 0 h m) : HeapF ltI 0 (rootI h a) m := by
  intro k k0 km kp
  have e := hH k k0 km kp
  rw [← e]
  have key : ∀ j, (rootI h a j).job.dl = (h j).job.dl ∧ (rootI h a j).job.bed = (h j).job.bed ∧ (rootI h a j).num = (h j).num := fun j => by
    unfold rootI
    split
    · rename_i q; subst q; exact ⟨h1, h2, h3⟩
    · exact ⟨rfl, rfl, rfl⟩
  exact ltI_key (key k).1 (key k).2.1 (key k).2.2 (key _).1 (key _).2.1 (key _).2.2

theorem mapr_root (h : Nat → It) (a : It) (m : Nat) : ((List.range m).map h).set 0 a = (List.range m).map (rootI h a) := by
  apply List.ext_getElem
  · simp
  · intro k h1 h2
    simp only [List.getElem_set, List.getElem_map, List.getElem_range, rootI]
    by_cases e : k = 0
    · subst e; simp
    · rw [if_neg (fun q => e q.symm), if_neg e]

theorem root_perm (h : Nat → It) (a : It) (n : Nat) : ((List.range (n + 1)).map (rootI h a)).Perm (a :: (List.range n).map (swp h 0 n)) := by
  have p := swp_perm (rootI h a) (n := n + 1) (i := 0) (j := n) (by omega) (by omega)
  have e1 : (List.range (n + 1)).map (swp (rootI h a) 0 n) = (List.range n).map (swp h 0 n) ++ [a] := by
    rw [List.range_succ, List.map_append]
    congr 1
    · refine List.map_congr_left fun k hk => ?_
      have hk : k < n := List.mem_range.1 hk
      unfold swp rootI
      by_cases e : k = 0
      · rw [if_pos e, if_pos e, if_neg (by omega)]
      · have kn : ¬ k = n := by omega
        simp [e, kn]
    · simp only [List.map_cons, List.map_nil]
      congr 1
      unfold swp rootI
      by_cases e : n = 0
      · subst e; simp
      · rw [if_neg e, if_pos rfl, if_pos rfl]
  rw [e1] at p
  exact p.symm.trans (List.perm_append_singleton a _)

theorem root_self (h : Nat → It) : rootI h (h 0) = h := by
  funext k
  unfold rootI
  split
  · rename_i q; subst q; rfl
  · rfl

/-- The root is the queue's first; what is behind it is what is left when it is taken out; another root of the same rank is the first, too. -/
theorem Rep.root {h : Nat → It} {n : Nat} {y : List Jb} (hR : Rep ((List.range (n + 1)).map h) y) (hH : HeapF ltI 0 h (n + 1)) :
    ∃ y', y = (h 0).job :: y' ∧ (∀ l : List It, l.Perm ((List.range n).map (swp h 0 n)) → Rep l y') ∧ ∀ a : It, a.job.dl = (h 0).job.dl → a.job.bed = (h 0).job.bed → a.num = (h 0).num → Rep ((List.range (n + 1)).map (rootI h a)) (a.job :: y') := by
  have hmin := heap_min ltI_tr ltI_rf hH
  have p0 := root_perm h (h 0) n
  rw [root_self] at p0
  obtain ⟨s, p, srt, e⟩ := hR
  have ps := p.trans p0
  cases s with
  | nil => have := ps.length_eq; simp at this
  | cons t s =>
    have b1 := List.pairwise_cons.1 srt
    have et : t = h 0 := by
      rcases List.mem_cons.1 (ps.mem_iff.2 (List.mem_cons_self)) with q | q
      · exact q.symm
      · have q1 := b1.1 _ q
        have tm : t ∈ (List.range (n + 1)).map h := p.mem_iff.1 (by simp)
        obtain ⟨k, hk, rfl⟩ := List.mem_map.1 tm
        have q2 := hmin k (List.mem_range.1 hk)
        rw [q1] at q2
        cases q2
    subst et
    have pg : s.Perm ((List.range n).map (swp h 0 n)) := List.Perm.cons_inv ps
    refine ⟨s.map (·.job), by rw [← e]; rfl, fun l hl => ⟨s, pg.trans hl.symm, b1.2, rfl⟩, fun a h1 h2 h3 => ?_⟩
    refine ⟨a :: s, (pg.cons a).trans (root_perm h a n).symm, List.pairwise_cons.2 ⟨fun z hz => ?_, b1.2⟩, rfl⟩
    have q := b1.1 z hz
    rw [ltI_true] at q ⊢
    omega

end Go.Proofs.Ytgcpkploeobafab.Bt
