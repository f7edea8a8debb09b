/- Plain: a binary heap, as container/heap moves it: up, down, the least one; no program is named here. -/
import Derived.Test.YtgcpkploeobafabPure
namespace Go.Proofs.Ytgcpkploeobafab.Bt

section
variable {α : Type}

/-- Two places changed with one another. -/
def swp (h : Nat → α) (i j : Nat) : Nat → α := fun k => if k = i then h j else if k = j then h i else h k

def par (k : Nat) : Nat := (k - 1) / 2

variable (lt : α → α → Bool)

/-- Nothing is ahead of what is above it, from a place on. -/
def HeapF (m : Nat) (h : Nat → α) (n : Nat) : Prop := ∀ k, 0 < k → k < n → m ≤ par k → lt (h k) (h (par k)) = false

/-- A heap but for what is above the place j. -/
def UpI (h : Nat → α) (n j : Nat) : Prop := (∀ k, 0 < k → k < n → k ≠ j → lt (h k) (h (par k)) = false) ∧ (0 < j → ∀ c, 0 < c → c < n → par c = j → lt (h c) (h (par j)) = false)

/-- A heap, from a place on, but for what is below the place i. -/
def DnI (m : Nat) (h : Nat → α) (n i : Nat) : Prop := m ≤ i ∧ (∀ k, 0 < k → k < n → m ≤ par k → par k ≠ i → lt (h k) (h (par k)) = false) ∧ (0 < i → m ≤ par i → ∀ c, 0 < c → c < n → par c = i → lt (h c) (h (par i)) = false)

theorem par_lt {k : Nat} (h : 0 < k) : par k < k := by unfold par; omega

variable {lt}

theorem up_end {h : Nat → α} {n j : Nat} (hU : UpI lt h n j) (he : j = 0 ∨ lt (h j) (h (par j)) = false) : HeapF lt 0 h n := by
  intro k hk hn _
  by_cases e : k = j
  · subst e
    rcases he with q | q
    · omega
    · exact q
  · exact hU.1 k hk hn e

/-- One step up. -/
theorem up_step (htr : ∀ a b c, lt b a = false → lt c b = false → lt c a = false) (has : ∀ a b, lt a b = true → lt b a = false) {h : Nat → α} {n j : Nat} (hj : 0 < j) (hjn : j < n) (hU : UpI lt h n j) (hl : lt (h j) (h (par j)) = true) : UpI lt (swp h (par j) j) n (par j) := by
  have hp := par_lt hj
  have sj : swp h (par j) j j = h (par j) := by unfold swp; rw [if_neg (by omega), if_pos rfl]
  have sp : swp h (par j) j (par j) = h j := by unfold swp; rw [if_pos rfl]
  have so : ∀ k, k ≠ j → k ≠ par j → swp h (par j) j k = h k := fun k a b => by unfold swp; rw [if_neg b, if_neg a]
  constructor
  · intro k hk hn hne
    by_cases e : k = j
    · subst e
      rw [sj, sp]
      exact has _ _ hl
    · rw [so k e hne]
      by_cases e2 : par k = j
      · rw [e2, sj]
        exact hU.2 hj k hk hn e2
      · by_cases e3 : par k = par j
        · rw [e3, sp]
          have q := hU.1 k hk hn e
          rw [e3] at q
          exact htr _ _ _ (has _ _ hl) q
        · rw [so _ e2 e3]
          exact hU.1 k hk hn e
  · intro h0 c hc hcn hpc
    have hpp := par_lt h0
    have e1 : par (par j) ≠ j := by omega
    have e2 : par (par j) ≠ par j := by omega
    rw [so _ e1 e2]
    by_cases e : c = j
    · subst e
      rw [sj]
      exact hU.1 _ h0 (by omega) (by omega)
    · have e3 : c ≠ par j := by have := par_lt hc; omega
      rw [so c e e3]
      have q := hU.1 c hc hcn e
      rw [hpc] at q
      exact htr _ _ _ (hU.1 _ h0 (by omega) (by omega)) q

/-- The last one, new. -/
theorem up_start {h : Nat → α} {n : Nat} (hH : HeapF lt 0 h n) : UpI lt h (n + 1) n := by
  constructor
  · intro k hk hn hne
    exact hH k hk (by omega) (Nat.zero_le _)
  · intro _ c hc hcn hpc
    have := par_lt hc
    omega

theorem dn_end {m : Nat} {h : Nat → α} {n i : Nat} (hD : DnI lt m h n i) (he : ∀ c, 0 < c → c < n → par c = i → lt (h c) (h i) = false) : HeapF lt m h n := by
  intro k hk hn hm
  by_cases e : par k = i
  · rw [e]; exact he k hk hn e
  · exact hD.2.1 k hk hn hm e

/-- One step down, to a child that no other child is ahead of. -/
theorem dn_step (has : ∀ a b, lt a b = true → lt b a = false) {m : Nat} {h : Nat → α} {n i j : Nat} (hj : 0 < j) (hjn : j < n) (hp : par j = i) (hD : DnI lt m h n i) (hl : lt (h j) (h i) = true) (hc : ∀ c, 0 < c → c < n → par c = i → lt (h c) (h j) = false) : DnI lt m (swp h i j) n j := by
  have hij : i < j := by rw [← hp]; exact par_lt hj
  have si : swp h i j i = h j := by unfold swp; rw [if_pos rfl]
  have sj : swp h i j j = h i := by unfold swp; rw [if_neg (by omega), if_pos rfl]
  have so : ∀ k, k ≠ i → k ≠ j → swp h i j k = h k := fun k a b => by unfold swp; rw [if_neg a, if_neg b]
  have hmi := hD.1
  refine ⟨by omega, fun k hk hn hm hne => ?_, fun _ _ c hc0 hcn hpc => ?_⟩
  · by_cases e : par k = i
    · rw [e, si]
      by_cases e2 : k = j
      · subst e2
        rw [sj]
        exact has _ _ hl
      · have e3 : k ≠ i := by have := par_lt hk; omega
        rw [so k e3 e2]
        exact hc k hk hn e
    · rw [so (par k) e hne]
      have e2 : k ≠ j := fun q => e (by rw [q]; exact hp)
      by_cases e3 : k = i
      · subst e3
        rw [si]
        exact hD.2.2 hk hm j hj hjn hp
      · rw [so k e3 e2]
        exact hD.2.1 k hk hn hm e
  · rw [hp, si]
    have e1 : c ≠ j := by have := par_lt hc0; omega
    have e2 : c ≠ i := by have := par_lt hc0; omega
    rw [so c e2 e1]
    have q := hD.2.1 c hc0 hcn (by omega) (by omega)
    rw [hpc] at q
    exact q

/-- The root is the least. -/
theorem heap_min (htr : ∀ a b c, lt b a = false → lt c b = false → lt c a = false) (hrf : ∀ a, lt a a = false) {h : Nat → α} {n : Nat} (hH : HeapF lt 0 h n) : ∀ k, k < n → lt (h k) (h 0) = false := by
  intro k
  induction k using Nat.strongRecOn with
  | _ k ih =>
    intro hk
    by_cases e : k = 0
    · subst e; exact hrf _
    · have hp := par_lt (show 0 < k by omega)
      exact htr _ _ _ (ih (par k) hp (by omega)) (hH k (by omega) hk (Nat.zero_le _))

/-- Behind the root was changed with the last: a heap of one less, but for what is below the root. -/
theorem dn_pop {h : Nat → α} {n : Nat} (hH : HeapF lt 0 h (n + 1)) : DnI lt 0 (swp h 0 n) n 0 := by
  refine ⟨Nat.zero_le _, fun k hk hn _ hne => ?_, fun h0 => absurd h0 (by omega)⟩
  have hp := par_lt hk
  have e1 : swp h 0 n k = h k := by unfold swp; rw [if_neg (by omega), if_neg (by omega)]
  have e2 : swp h 0 n (par k) = h (par k) := by unfold swp; rw [if_neg hne, if_neg (by omega)]
  rw [e1, e2]
  exact hH k hk (by omega) (Nat.zero_le _)

/-- A heap from a place on, and the place ahead of it (Init's loop). -/
theorem dn_init {m : Nat} {h : Nat → α} {n : Nat} (hH : HeapF lt (m + 1) h n) : DnI lt m h n m := by
  refine ⟨Nat.le_refl _, fun k hk hn hm hne => hH k hk hn (by omega), fun h0 hm => ?_⟩
  have := par_lt h0
  omega

theorem heap_half {h : Nat → α} {n : Nat} : HeapF lt (n / 2) h n := by
  intro k hk hn hm
  unfold par at hm
  omega

/-- Places changed with one another: the same ones. -/
theorem swp_perm (h : Nat → α) {n i j : Nat} (hi : i < n) (hj : j < n) : ((List.range n).map (swp h i j)).Perm ((List.range n).map h) := by
  have key : (List.range n).map (swp h i j) = ((List.range n).map (fun k => if k = i then j else if k = j then i else k)).map h := by
    rw [List.map_map]
    apply List.map_congr_left
    intro k _
    unfold swp
    simp only [Function.comp]
    split
    · rfl
    · split <;> rfl
  rw [key]
  refine List.Perm.map h ?_
  have nd : ((List.range n).map (fun k => if k = i then j else if k = j then i else k)).Nodup := by
    refine List.pairwise_map.2 (List.Pairwise.imp_of_mem ?_ (List.nodup_range (n := n)))
    intro a b _ _ hab
    repeat' split
    all_goals omega
  refine (List.perm_ext_iff_of_nodup nd List.nodup_range).2 (fun a => ?_)
  simp only [List.mem_map, List.mem_range]
  constructor
  · rintro ⟨k, hk, rfl⟩
    split
    · exact hj
    · split
      · exact hi
      · exact hk
  · intro ha
    refine ⟨if a = i then j else if a = j then i else a, ?_, ?_⟩
    · split
      · exact hj
      · split
        · exact hi
        · exact ha
    · repeat' split
      all_goals omega

end

end Go.Proofs.Ytgcpkploeobafab.Bt
