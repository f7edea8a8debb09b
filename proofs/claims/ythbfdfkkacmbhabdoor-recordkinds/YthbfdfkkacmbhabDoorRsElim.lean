/- Plain: equations over GF(256), solved by elimination: a table's rows are the equations, its last column what is told. No program is named here. -/
import Derived.Test.YthbfdfkkacmbhabDoorRsPure
namespace Go.Proofs.YthbfdfkkacmbhabDoor.Bt

/-- A sum. -/
def fs : Nat → (Nat → Nat) → Nat
  | 0, _ => 0
  | n + 1, F => fs n F ^^^ F n

theorem fs_congr {n : Nat} {F G : Nat → Nat} (h : ∀ k, k < n → F k = G k) : fs n F = fs n G := by
  induction n with
  | zero => rfl
  | succ n ih => rw [fs, fs, ih (fun k hk => h k (by omega)), h n (by omega)]

theorem fs_lt {n : Nat} {F : Nat → Nat} (h : ∀ k, k < n → F k < 256) : fs n F < 256 := by
  induction n with
  | zero => show 0 < 256; decide
  | succ n ih => exact xor_lt8 (ih (fun k hk => h k (by omega))) (h n (by omega))

theorem fs_xor (n : Nat) (F G : Nat → Nat) : fs n (fun k => F k ^^^ G k) = fs n F ^^^ fs n G := by
  induction n with
  | zero => show 0 = 0 ^^^ 0; decide
  | succ n ih => rw [fs, fs, fs, ih, xor4]

theorem fs_scale {v : Nat} (hv : v < 256) (n : Nat) (F : Nat → Nat) : fs n (fun k => gmul v (F k)) = gmul v (fs n F) := by
  induction n with
  | zero => show 0 = gmul v 0; rw [gmul_zero hv]
  | succ n ih => rw [fs, fs, ih, gmul_xor]

theorem fs_zero {n : Nat} {F : Nat → Nat} (h : ∀ k, k < n → F k = 0) : fs n F = 0 := by
  induction n with
  | zero => rfl
  | succ n ih => rw [fs, ih (fun k hk => h k (by omega)), h n (by omega)]; rfl

theorem fs_one {n j : Nat} (hj : j < n) {F : Nat → Nat} (h : ∀ k, k < n → k ≠ j → F k = 0) : fs n F = F j := by
  induction n with
  | zero => omega
  | succ n ih =>
    rw [fs]
    by_cases e : n = j
    · subst e
      rw [fs_zero (fun k hk => h k (by omega) (by omega)), Nat.zero_xor]
    · rw [ih (by omega) (fun k hk hne => h k (by omega) hne), h n (by omega) e, Nat.xor_zero]

/-- A row, held against what is asked for. -/
def dot (n : Nat) (M : Nat → Nat → Nat) (r : Nat) (f : Nat → Nat) : Nat := fs (n + 1) (fun k => gmul (M r k) (f k))

def Bm (M : Nat → Nat → Nat) : Prop := ∀ r k, M r k < 256

def Ker (n : Nat) (M : Nat → Nat → Nat) (f : Nat → Nat) : Prop := ∀ r, r < n → dot n M r f = 0

def swapM (c p : Nat) (M : Nat → Nat → Nat) : Nat → Nat → Nat := fun r k => if r = c then M p k else if r = p then M c k else M r k
def scaleM (c v : Nat) (M : Nat → Nat → Nat) : Nat → Nat → Nat := fun r k => if r = c then gmul (M c k) v else M r k
def elimM (c : Nat) (M : Nat → Nat → Nat) : Nat → Nat → Nat := fun r k => if r = c then M c k else M r k ^^^ gmul (M r c) (M c k)

theorem Bm.swap {M : Nat → Nat → Nat} (h : Bm M) (c p : Nat) : Bm (swapM c p M) := fun r k => by
  unfold swapM; split
  · exact h p k
  · split
    · exact h c k
    · exact h r k

theorem Bm.scale {M : Nat → Nat → Nat} (h : Bm M) (c v : Nat) : Bm (scaleM c v M) := fun r k => by
  unfold scaleM; split
  · exact gmul_lt (h c k) v
  · exact h r k

theorem Bm.elim {M : Nat → Nat → Nat} (h : Bm M) (c : Nat) : Bm (elimM c M) := fun r k => by
  unfold elimM; split
  · exact h c k
  · exact xor_lt8 (h r k) (gmul_lt (h r c) _)

theorem ker_swap {n c p : Nat} (hc : c < n) (hp : p < n) (M : Nat → Nat → Nat) (f : Nat → Nat) : Ker n (swapM c p M) f ↔ Ker n M f := by
  have e : ∀ r, dot n (swapM c p M) r f = if r = c then dot n M p f else if r = p then dot n M c f else dot n M r f := by
    intro r
    unfold dot swapM
    by_cases h1 : r = c
    · simp [h1]
    · by_cases h2 : r = p
      · subst h2; simp [h1]
      · simp [h1, h2]
  constructor
  · intro h r hr
    by_cases h1 : r = p
    · have := h c hc; rw [e, if_pos rfl] at this; rw [h1]; exact this
    · by_cases h2 : r = c
      · have := h p hp
        rw [e] at this
        by_cases h3 : p = c
        · exact absurd (h2.trans h3.symm) h1
        · rw [if_neg h3, if_pos rfl] at this; rw [h2]; exact this
      · have := h r hr; rw [e, if_neg h2, if_neg h1] at this; exact this
  · intro h r hr
    rw [e]
    split
    · exact h p hp
    · split
      · exact h c hc
      · exact h r hr

theorem ker_scale {n c v : Nat} (hv : v < 256) (v0 : v ≠ 0) {M : Nat → Nat → Nat} (hM : Bm M) (f : Nat → Nat) : Ker n (scaleM c v M) f ↔ Ker n M f := by
  have e : ∀ r, dot n (scaleM c v M) r f = if r = c then gmul v (dot n M c f) else dot n M r f := by
    intro r
    unfold dot scaleM
    by_cases h1 : r = c
    · rw [if_pos h1, ← fs_scale hv]
      refine fs_congr (fun k _ => ?_)
      show gmul (if r = c then gmul (M c k) v else M r k) (f k) = _
      rw [if_pos h1, gmul_comm (hM c k) hv, gmul_assoc hv (hM c k)]
    · simp [h1]
  have hd : ∀ r, dot n M r f < 256 := fun r => fs_lt (fun k _ => gmul_lt (hM r k) _)
  constructor
  · intro h r hr
    have := h r hr
    rw [e] at this
    split at this
    · rename_i h1
      rw [h1]
      exact Classical.byContradiction fun hn => gmul_ne hv (hd c) v0 hn this
    · exact this
  · intro h r hr
    rw [e]
    split
    · rename_i h1
      rw [h c (h1 ▸ hr), gmul_zero hv]
    · exact h r hr

theorem ker_elim {n c : Nat} (hc : c < n) {M : Nat → Nat → Nat} (hM : Bm M) (f : Nat → Nat) : Ker n (elimM c M) f ↔ Ker n M f := by
  have e : ∀ r, dot n (elimM c M) r f = if r = c then dot n M c f else dot n M r f ^^^ gmul (M r c) (dot n M c f) := by
    intro r
    unfold dot elimM
    by_cases h1 : r = c
    · simp [h1]
    · rw [if_neg h1, ← fs_scale (hM r c), ← fs_xor]
      refine fs_congr (fun k _ => ?_)
      show gmul (if r = c then M c k else M r k ^^^ gmul (M r c) (M c k)) (f k) = _
      rw [if_neg h1, gmul_xor_left (hM r k) (gmul_lt (hM r c) _), gmul_assoc (hM r c) (hM c k)]
  constructor
  · intro h r hr
    have hcc := h c hc
    rw [e, if_pos rfl] at hcc
    have := h r hr
    rw [e] at this
    split at this
    · rename_i h1; rw [h1]; exact hcc
    · rw [hcc, gmul_zero (hM r c), Nat.xor_zero] at this; exact this
  · intro h r hr
    rw [e]
    split
    · exact h c hc
    · rw [h r hr, h c hc, gmul_zero (hM r c)]; rfl

/-- One column done: row p comes to c's place, is divided, and taken off all others. -/
def stepM (c p : Nat) (M : Nat → Nat → Nat) : Nat → Nat → Nat := elimM c (scaleM c (ginv (M p c)) (swapM c p M))

theorem Bm.step {M : Nat → Nat → Nat} (h : Bm M) (c p : Nat) : Bm (stepM c p M) := ((h.swap c p).scale c _).elim c

theorem ker_step {n c p : Nat} (hc : c < n) (hp : p < n) {M : Nat → Nat → Nat} (hM : Bm M) (h0 : M p c ≠ 0) (f : Nat → Nat) : Ker n (stepM c p M) f ↔ Ker n M f := by
  unfold stepM
  rw [ker_elim hc ((hM.swap c p).scale c _), ker_scale (ginv_lt _) (ginv_ne (hM p c) h0) (hM.swap c p) f, ker_swap hc hp]

/-- The first c columns are done. -/
def Uc (n : Nat) (M : Nat → Nat → Nat) (c : Nat) : Prop := ∀ j, j < c → ∀ r, r < n → M r j = if r = j then 1 else 0

theorem uc_step {n c p : Nat} (hc : c < n) (hcp : c ≤ p) (hp : p < n) {M : Nat → Nat → Nat} (hM : Bm M) (h0 : M p c ≠ 0) (h : Uc n M c) : Uc n (stepM c p M) (c + 1) := by
  intro j hj r hr
  have hi := ginv_lt (M p c)
  -- row c behind the division
  have hrow : ∀ k, scaleM c (ginv (M p c)) (swapM c p M) c k = gmul (M p k) (ginv (M p c)) := by
    intro k; unfold scaleM swapM; simp
  have hoth : ∀ r k, r ≠ c → scaleM c (ginv (M p c)) (swapM c p M) r k = if r = p then M c k else M r k := by
    intro r k hne; unfold scaleM swapM; simp [hne]
  have hone : gmul (M p c) (ginv (M p c)) = 1 := ginv_mul (hM p c) h0
  unfold stepM elimM
  by_cases hrc : r = c
  · rw [if_pos hrc, hrow]
    by_cases hjc : j = c
    · rw [hjc, hone, if_pos hrc]
    · have hpj : M p j = 0 := by
        rw [h j (by omega) p hp, if_neg (by omega)]
      rw [hpj, gmul_zero_left, if_neg (by omega)]
  · rw [if_neg hrc, hrow, hoth r j hrc, hoth r c hrc]
    by_cases hjc : j = c
    · rw [hjc, hone, if_neg hrc]
      have hb : (if r = p then M c c else M r c) < 256 := by split; exact hM c c; exact hM r c
      rw [gmul_one hb, Nat.xor_self]
    · have hpj : M p j = 0 := by
        rw [h j (by omega) p hp, if_neg (by omega)]
      have hb : (if r = p then M c c else M r c) < 256 := by split; exact hM c c; exact hM r c
      rw [hpj, gmul_zero_left, gmul_zero hb, Nat.xor_zero]
      split
      · rename_i hrp
        rw [h j (by omega) c hc, if_neg (by omega), if_neg (by omega)]
      · rw [h j (by omega) r hr]

/-- Where a column has nothing at or below its place, another answer to nought is there. -/
theorem no_pivot {n c : Nat} (hc : c < n) {M : Nat → Nat → Nat} (hM : Bm M) (h : Uc n M c) (h0 : ∀ p, c ≤ p → p < n → M p c = 0) :
    Ker n M (fun k => if k = c then 1 else if k < c then M k c else 0) := by
  intro r hr
  unfold dot
  -- the sum over all columns: those below c, then c itself, then nought
  have hlo : fs c (fun k => gmul (M r k) (if k = c then 1 else if k < c then M k c else 0)) = if r < c then M r c else 0 := by
    have e : fs c (fun k => gmul (M r k) (if k = c then 1 else if k < c then M k c else 0)) = fs c (fun k => if r = k then M k c else 0) := by
      refine fs_congr (fun k hk => ?_)
      show gmul (M r k) (if k = c then 1 else if k < c then M k c else 0) = if r = k then M k c else 0
      rw [if_neg (by omega), if_pos hk, h k hk r hr]
      split
      · rw [gmul_one_left (hM k c)]
      · rw [gmul_zero_left]
    rw [e]
    by_cases hrc : r < c
    · rw [if_pos hrc, fs_one hrc (fun k _ hne => if_neg (fun e => hne e.symm)), if_pos rfl]
    · rw [if_neg hrc]
      exact fs_zero (fun k hk => if_neg (by omega))
  have hup : ∀ m, fs (c + 1 + m) (fun k => gmul (M r k) (if k = c then 1 else if k < c then M k c else 0)) = (if r < c then M r c else 0) ^^^ M r c := by
    intro m
    induction m with
    | zero =>
      rw [Nat.add_zero, fs, hlo]
      show _ ^^^ gmul (M r c) (if c = c then 1 else _) = _
      rw [if_pos rfl, gmul_one (hM r c)]
    | succ m ih =>
      rw [← Nat.add_assoc, fs, ih]
      have e : (if c + 1 + m = c then 1 else if c + 1 + m < c then M (c + 1 + m) c else 0) = 0 := by
        rw [if_neg (by omega), if_neg (by omega)]
      show _ ^^^ gmul (M r (c + 1 + m)) (if c + 1 + m = c then 1 else if c + 1 + m < c then M (c + 1 + m) c else 0) = _
      rw [e, gmul_zero (hM r _), Nat.xor_zero]
  have := hup (n - c)
  rw [show c + 1 + (n - c) = n + 1 from by omega] at this
  rw [this]
  by_cases hrc : r < c
  · rw [if_pos hrc, Nat.xor_self]
  · rw [if_neg hrc, h0 r (by omega) hr]; rfl

/-- When all columns are done, what is asked for stands in the last one. -/
theorem all_done {n : Nat} {M : Nat → Nat → Nat} (hM : Bm M) (h : Uc n M n) {f : Nat → Nat} (hf : ∀ k, f k < 256) (h1 : f n = 1) (hk : Ker n M f) (r : Nat) (hr : r < n) : f r = M r n := by
  have := hk r hr
  unfold dot at this
  rw [fs] at this
  rw [fs_one hr (fun k hk hne => by show gmul (M r k) (f k) = 0; rw [h k hk r hr, if_neg (fun e => hne e.symm), gmul_zero_left]), h r hr r hr, if_pos rfl, gmul_one_left (hf r), h1, gmul_one (hM r n)] at this
  exact xor_self_zero this

end Go.Proofs.YthbfdfkkacmbhabDoor.Bt
