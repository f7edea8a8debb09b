/- Plain: GF(256), bytes as polynomials modulo 11d; no program is named here. -/
import Derived.Test.YthbfdfkkacmbhabDoorPure
namespace Go.Proofs.YthbfdfkkacmbhabDoor.Bt

/-- Times 2. -/
def xt (x : Nat) : Nat := if x < 128 then 2 * x else (2 * x) ^^^ 285

/-- Times 2, n times. -/
def xtn : Nat → Nat → Nat
  | 0, x => x
  | n + 1, x => xt (xtn n x)

/-- What the first n bits of b make of a. -/
def gm : Nat → Nat → Nat → Nat
  | 0, _, _ => 0
  | n + 1, a, b => gm n a b ^^^ (if b / 2 ^ n % 2 = 1 then xtn n a else 0)

/-- The product. -/
def gmul (a b : Nat) : Nat := gm 8 a b

theorem all_lt {p : Nat → Bool} {n : Nat} (h : (List.range n).all p = true) : ∀ x, x < n → p x = true := fun x hx => List.all_eq_true.1 h x (List.mem_range.2 hx)

theorem xt_lt {x : Nat} (h : x < 256) : xt x < 256 := by
  have := all_lt (p := fun x => decide (xt x < 256)) (n := 256) (by decide +kernel) x h
  simpa using this

theorem xt_parts {x : Nat} (h : x < 256) : xt x = (2 * (x % 128)) ^^^ (if x / 128 % 2 = 1 then 29 else 0) := by
  have := all_lt (p := fun x => decide (xt x = (2 * (x % 128)) ^^^ (if x / 128 % 2 = 1 then 29 else 0))) (n := 256) (by decide +kernel) x h
  simpa using this

theorem xor_bit (x y k : Nat) : (x ^^^ y) / 2 ^ k % 2 = (x / 2 ^ k % 2) ^^^ (y / 2 ^ k % 2) := by
  have h := Nat.testBit_xor (x := x) (y := y) (i := k)
  simp only [Nat.testBit_eq_decide_div_mod_eq] at h
  have a : (x ^^^ y) / 2 ^ k % 2 < 2 := Nat.mod_lt _ (by decide)
  have b : x / 2 ^ k % 2 < 2 := Nat.mod_lt _ (by decide)
  have c : y / 2 ^ k % 2 < 2 := Nat.mod_lt _ (by decide)
  generalize (x ^^^ y) / 2 ^ k % 2 = u at h a ⊢
  generalize x / 2 ^ k % 2 = v at h b ⊢
  generalize y / 2 ^ k % 2 = z at h c ⊢
  match u, v, z, a, b, c with
  | 0, 0, 0, _, _, _ => rfl
  | 0, 0, 1, _, _, _ => simp at h
  | 0, 1, 0, _, _, _ => simp at h
  | 0, 1, 1, _, _, _ => rfl
  | 1, 0, 0, _, _, _ => simp at h
  | 1, 0, 1, _, _, _ => rfl
  | 1, 1, 0, _, _, _ => rfl
  | 1, 1, 1, _, _, _ => simp at h

theorem bit_two (x k : Nat) : x / 2 ^ k % 2 = 0 ∨ x / 2 ^ k % 2 = 1 := by
  have : x / 2 ^ k % 2 < 2 := Nat.mod_lt _ (by decide)
  omega

theorem xor_lt8 {x y : Nat} (hx : x < 256) (hy : y < 256) : x ^^^ y < 256 := Nat.xor_lt_two_pow (n := 8) hx hy

theorem xor4 (a b c d : Nat) : (a ^^^ b) ^^^ (c ^^^ d) = (a ^^^ c) ^^^ (b ^^^ d) := by
  rw [Nat.xor_assoc, ← Nat.xor_assoc b c d, Nat.xor_comm b c, Nat.xor_assoc c b d, ← Nat.xor_assoc]

theorem two_xorF (x y : Nat) : 2 * (x ^^^ y) = 2 * x ^^^ 2 * y := by
  have h := Nat.shiftLeft_xor_distrib (a := x) (b := y) (i := 1)
  simp only [Nat.shiftLeft_eq, Nat.pow_one] at h
  rw [Nat.mul_comm, h, Nat.mul_comm x, Nat.mul_comm y]

/-- What hangs on a bit goes over exclusive or. -/
theorem sel_xor (x y k v : Nat) : (if (x ^^^ y) / 2 ^ k % 2 = 1 then v else 0) = (if x / 2 ^ k % 2 = 1 then v else 0) ^^^ (if y / 2 ^ k % 2 = 1 then v else 0) := by
  rw [xor_bit]
  rcases bit_two x k with h | h <;> rcases bit_two y k with g | g <;> rw [h, g] <;> simp

theorem xt_xor {x y : Nat} (hx : x < 256) (hy : y < 256) : xt (x ^^^ y) = xt x ^^^ xt y := by
  rw [xt_parts hx, xt_parts hy, xt_parts (xor_lt8 hx hy), xor4]
  have e1 : (x ^^^ y) % 128 = x % 128 ^^^ y % 128 := Nat.xor_mod_two_pow (n := 7)
  have e2 := sel_xor x y 7 29
  rw [show (2 : Nat) ^ 7 = 128 from rfl] at e2
  rw [e1, e2, two_xorF]

theorem xt_zero : xt 0 = 0 := rfl

theorem xtn_lt {x : Nat} (h : x < 256) (n : Nat) : xtn n x < 256 := by
  induction n with
  | zero => exact h
  | succ n ih => exact xt_lt ih

theorem xtn_zero (n : Nat) : xtn n 0 = 0 := by
  induction n with
  | zero => rfl
  | succ n ih => rw [xtn, ih]; rfl

theorem xtn_xor {x y : Nat} (hx : x < 256) (hy : y < 256) (n : Nat) : xtn n (x ^^^ y) = xtn n x ^^^ xtn n y := by
  induction n with
  | zero => rfl
  | succ n ih => rw [xtn, ih, xt_xor (xtn_lt hx n) (xtn_lt hy n)]; rfl

theorem xtn_add (m n x : Nat) : xtn (m + n) x = xtn m (xtn n x) := by
  induction m with
  | zero => rw [Nat.zero_add]; rfl
  | succ m ih => rw [Nat.succ_add, xtn, ih]; rfl

theorem xtn_xt (n x : Nat) : xtn n (xt x) = xt (xtn n x) := by
  have := xtn_add n 1 x
  rw [xtn] at this
  exact this.symm

theorem gm_lt {a : Nat} (h : a < 256) (n b : Nat) : gm n a b < 256 := by
  induction n with
  | zero => show 0 < 256; decide
  | succ n ih =>
    rw [gm]
    split
    · exact xor_lt8 ih (xtn_lt h n)
    · exact xor_lt8 ih (by decide)

theorem gmul_lt {a : Nat} (h : a < 256) (b : Nat) : gmul a b < 256 := gm_lt h 8 b

theorem gm_xor_left {a c : Nat} (ha : a < 256) (hc : c < 256) (n b : Nat) : gm n (a ^^^ c) b = gm n a b ^^^ gm n c b := by
  induction n with
  | zero => show 0 = 0 ^^^ 0; decide
  | succ n ih =>
    rw [gm, gm, gm, ih, xor4, xtn_xor ha hc]
    split <;> simp

theorem gm_xor_right (n a b c : Nat) : gm n a (b ^^^ c) = gm n a b ^^^ gm n a c := by
  induction n with
  | zero => show 0 = 0 ^^^ 0; decide
  | succ n ih => rw [gm, gm, gm, ih, xor4, sel_xor]

theorem gm_xt {a : Nat} (ha : a < 256) (n b : Nat) : gm n (xt a) b = xt (gm n a b) := by
  induction n with
  | zero => rfl
  | succ n ih =>
    rw [gm, gm, ih, xtn_xt]
    split
    · rw [xt_xor (gm_lt ha n b) (xtn_lt ha n)]
    · rw [xt_xor (gm_lt ha n b) (by decide)]; rfl

theorem gm_xtn {a : Nat} (ha : a < 256) (k n b : Nat) : gm n (xtn k a) b = xtn k (gm n a b) := by
  induction k with
  | zero => rfl
  | succ k ih => rw [xtn, gm_xt (xtn_lt ha k), ih]; rfl

theorem gm_zero (n b : Nat) : gm n 0 b = 0 := by
  induction n with
  | zero => rfl
  | succ n ih => rw [gm, ih, xtn_zero]; split <;> rfl

theorem gmul_zero_left (b : Nat) : gmul 0 b = 0 := gm_zero 8 b

/-- A sum of shifts, multiplied. -/
theorem gm_gm {x : Nat} (hx : x < 256) (n b c : Nat) : gmul (gm n x c) b = gm n (gmul x b) c := by
  induction n with
  | zero => exact gmul_zero_left b
  | succ n ih =>
    rw [gm, gm]
    unfold gmul at ih ⊢
    rw [gm_xor_left (gm_lt hx n c) (by split; exact xtn_lt hx n; decide), ih]
    split
    · rw [gm_xtn hx]
    · rw [gm_zero]

theorem gmul_one_left {b : Nat} (h : b < 256) : gmul 1 b = b := by
  have := all_lt (p := fun b => decide (gmul 1 b = b)) (n := 256) (by decide +kernel) b h
  simpa using this

theorem gmul_comm {a b : Nat} (ha : a < 256) (hb : b < 256) : gmul a b = gmul b a := by
  have h := gm_gm (x := 1) (by decide) 8 b a
  change gmul (gmul 1 a) b = gm 8 (gmul 1 b) a at h
  rw [gmul_one_left ha, gmul_one_left hb] at h
  exact h

theorem gmul_right_comm {a b c : Nat} (ha : a < 256) : gmul (gmul a c) b = gmul (gmul a b) c := gm_gm ha 8 b c

theorem gmul_assoc {a b c : Nat} (ha : a < 256) (hb : b < 256) : gmul (gmul a b) c = gmul a (gmul b c) := by
  rw [gmul_comm ha (gmul_lt hb c), gmul_right_comm hb, gmul_comm hb ha]

theorem gmul_xor (a b c : Nat) : gmul a (b ^^^ c) = gmul a b ^^^ gmul a c := gm_xor_right 8 a b c

theorem gmul_one {a : Nat} (ha : a < 256) : gmul a 1 = a := by rw [gmul_comm ha (by decide), gmul_one_left ha]

theorem gmul_zero {a : Nat} (ha : a < 256) : gmul a 0 = 0 := by rw [gmul_comm ha (by decide), gmul_zero_left]

/-- The powers of 2. -/
def pw (i : Nat) : Nat := xtn i 1

theorem pw_lt (i : Nat) : pw i < 256 := xtn_lt (by decide) i

theorem pw_gmul {b : Nat} (hb : b < 256) (i : Nat) : gmul (pw i) b = xtn i b := by
  unfold pw gmul
  rw [gm_xtn (by decide)]
  congr 1
  exact gmul_one_left hb

theorem pw_add (i j : Nat) : gmul (pw i) (pw j) = pw (i + j) := by
  rw [pw_gmul (pw_lt j)]
  exact (xtn_add i j 1).symm

theorem pw_succ (i : Nat) : pw (i + 1) = xt (pw i) := rfl

/-- The powers one behind the other, reckoned quickly. -/
def pws : Nat → Nat → List Nat
  | 0, _ => []
  | n + 1, p => p :: pws n (xt p)

theorem pws_getD (n p i : Nat) (h : i < n) : (pws n p).getD i 0 = xtn i p := by
  induction n generalizing p i with
  | zero => omega
  | succ n ih =>
    cases i with
    | zero => rfl
    | succ i =>
      rw [pws, List.getD_cons_succ, ih (xt p) i (by omega), xtn_xt]; rfl

theorem pw_255 : pw 255 = 1 := by decide +kernel

theorem pw_mod (i : Nat) : pw i = pw (i % 255) := by
  have key : ∀ k r, pw (255 * k + r) = pw r := by
    intro k r
    induction k with
    | zero => simp
    | succ k ih =>
      rw [show 255 * (k + 1) + r = 255 + (255 * k + r) from by omega, ← pw_add, pw_255, ih, gmul_one_left (pw_lt r)]
  have := key (i / 255) (i % 255)
  rw [Nat.div_add_mod] at this
  exact this

/-- The least power of 2 that a byte is; 255 of 0. -/
def lgo : Nat → Nat → Nat → Nat → Nat
  | 0, _, i, _ => i
  | n + 1, p, i, a => if p = a then i else lgo n (xt p) (i + 1) a

def lg (a : Nat) : Nat := lgo 255 1 0 a

theorem lg_facts : ((List.range 256).all fun a => decide (a = 0) || (decide (lg a < 255) && decide ((pws 255 1).getD (lg a) 0 = a))) = true := by decide +kernel

theorem lg_lt {a : Nat} (h : a < 256) (h0 : a ≠ 0) : lg a < 255 := by
  have := all_lt lg_facts a h
  simp only [Bool.or_eq_true, Bool.and_eq_true, decide_eq_true_eq] at this
  omega

theorem pw_lg {a : Nat} (h : a < 256) (h0 : a ≠ 0) : pw (lg a) = a := by
  have := all_lt lg_facts a h
  simp only [Bool.or_eq_true, Bool.and_eq_true, decide_eq_true_eq] at this
  rcases this with h1 | ⟨h1, h2⟩
  · exact absurd h1 h0
  · rw [pws_getD 255 1 _ h1] at h2; exact h2

theorem lg_pws : ((List.range 255).all fun i => decide (lg ((pws 255 1).getD i 0) = i)) = true := by decide +kernel

theorem lg_pw {i : Nat} (h : i < 255) : lg (pw i) = i := by
  have := all_lt lg_pws i h
  simp only [decide_eq_true_eq] at this
  rwa [pws_getD 255 1 i h] at this

theorem pw_ne (i : Nat) : pw i ≠ 0 := by
  rw [pw_mod]
  have hi : i % 255 < 255 := Nat.mod_lt _ (by decide)
  have := all_lt (p := fun i => decide ((pws 255 1).getD i 0 ≠ 0)) (n := 255) (by decide +kernel) (i % 255) hi
  simp only [decide_eq_true_eq] at this
  rwa [pws_getD 255 1 _ hi] at this

theorem pw_inj {i j : Nat} (hi : i < 255) (hj : j < 255) (h : pw i = pw j) : i = j := by
  rw [← lg_pw hi, h, lg_pw hj]

theorem gmul_lg {a b : Nat} (ha : a < 256) (hb : b < 256) (a0 : a ≠ 0) (b0 : b ≠ 0) : gmul a b = pw (lg a + lg b) := by
  rw [← pw_add, pw_lg ha a0, pw_lg hb b0]

theorem gmul_ne {a b : Nat} (ha : a < 256) (hb : b < 256) (a0 : a ≠ 0) (b0 : b ≠ 0) : gmul a b ≠ 0 := by
  rw [gmul_lg ha hb a0 b0]; exact pw_ne _

theorem lg_gmul {a b : Nat} (ha : a < 256) (hb : b < 256) (a0 : a ≠ 0) (b0 : b ≠ 0) : lg (gmul a b) = (lg a + lg b) % 255 := by
  rw [gmul_lg ha hb a0 b0, pw_mod, lg_pw (Nat.mod_lt _ (by decide))]

/-- The inverse; 0 of 0. -/
def ginv (a : Nat) : Nat := if a = 0 then 0 else pw (255 - lg a)

theorem ginv_lt (a : Nat) : ginv a < 256 := by
  unfold ginv; split
  · decide
  · exact pw_lt _

theorem ginv_mul {a : Nat} (ha : a < 256) (a0 : a ≠ 0) : gmul a (ginv a) = 1 := by
  have h := lg_lt ha a0
  unfold ginv
  rw [if_neg a0]
  conv => lhs; arg 1; rw [← pw_lg ha a0]
  rw [pw_add, show lg a + (255 - lg a) = 255 from by omega, pw_255]

theorem ginv_ne {a : Nat} (ha : a < 256) (a0 : a ≠ 0) : ginv a ≠ 0 := by
  intro h
  have := ginv_mul ha a0
  rw [h, gmul_zero ha] at this
  cases this

theorem gmul_cancel {a b c : Nat} (ha : a < 256) (hb : b < 256) (hc : c < 256) (a0 : a ≠ 0) (h : gmul a b = gmul a c) : b = c := by
  have e : ∀ x, x < 256 → gmul (ginv a) (gmul a x) = x := fun x hx => by
    rw [← gmul_assoc (ginv_lt a) ha, gmul_comm (ginv_lt a) ha, ginv_mul ha a0, gmul_one_left hx]
  rw [← e b hb, h, e c hc]

/-- The inverse is the only one. -/
theorem ginv_only {a b : Nat} (ha : a < 256) (hb : b < 256) (h : gmul a b = 1) : b = ginv a := by
  have a0 : a ≠ 0 := fun e => by rw [e, gmul_zero_left] at h; cases h
  exact gmul_cancel ha hb (ginv_lt a) a0 (h.trans (ginv_mul ha a0).symm)

/-- The product of n times a byte. -/
def gpow (a : Nat) : Nat → Nat
  | 0 => 1
  | n + 1 => gmul (gpow a n) a

theorem gpow_lt {a : Nat} (_ha : a < 256) (n : Nat) : gpow a n < 256 := by
  induction n with
  | zero => show 1 < 256; decide
  | succ n ih => exact gmul_lt ih a

theorem gpow_lg {a : Nat} (ha : a < 256) (a0 : a ≠ 0) (n : Nat) : gpow a n = pw (lg a * n) := by
  induction n with
  | zero => rfl
  | succ n ih =>
    rw [gpow, ih]
    conv => lhs; arg 2; rw [← pw_lg ha a0]
    rw [pw_add]; congr 1

theorem gpow_zero {n : Nat} (h : 0 < n) : gpow 0 n = 0 := by
  cases n with
  | zero => omega
  | succ n => rw [gpow, gmul_zero (gpow_lt (by decide) n)]

theorem gpow_add {a : Nat} (ha : a < 256) (m n : Nat) : gmul (gpow a m) (gpow a n) = gpow a (m + n) := by
  induction n with
  | zero => exact gmul_one (gpow_lt ha m)
  | succ n ih => rw [gpow, ← gmul_assoc (gpow_lt ha m) (gpow_lt ha n), ih]; rfl

theorem gpow_two (n : Nat) : gpow 2 n = pw n := by
  rw [gpow_lg (by decide) (by decide), show lg 2 = 1 from by decide +kernel, Nat.one_mul]

/-- Squares. -/
theorem gsq_xor {a b : Nat} (ha : a < 256) (hb : b < 256) : gmul (a ^^^ b) (a ^^^ b) = gmul a a ^^^ gmul b b := by
  rw [gmul_xor]
  have h1 : gmul (a ^^^ b) a = gmul a a ^^^ gmul b a := gm_xor_left ha hb 8 a
  have h2 : gmul (a ^^^ b) b = gmul a b ^^^ gmul b b := gm_xor_left ha hb 8 b
  rw [h1, h2, gmul_comm hb ha, Nat.xor_assoc, ← Nat.xor_assoc (gmul a b), Nat.xor_self, Nat.zero_xor]

theorem gsq_inj {a b : Nat} (ha : a < 256) (hb : b < 256) (h : gmul a a = gmul b b) : a = b := by
  have e : gmul (a ^^^ b) (a ^^^ b) = 0 := by rw [gsq_xor ha hb, h, Nat.xor_self]
  have hx := xor_lt8 ha hb
  by_cases h0 : a ^^^ b = 0
  · have : a ^^^ (a ^^^ b) = a := by rw [h0, Nat.xor_zero]
    rw [← Nat.xor_assoc, Nat.xor_self, Nat.zero_xor] at this
    exact this.symm
  · exact absurd e (gmul_ne hx hx h0 h0)

/-- The product as a polynomial, not yet modulo 11d. -/
def raw : Nat → Nat → Nat → Nat
  | 0, _, _ => 0
  | n + 1, a, b => raw n a b ^^^ (if b / 2 ^ n % 2 = 1 then a * 2 ^ n else 0)

/-- A step of the division: the bit i goes. -/
def bst (i p : Nat) : Nat := p ^^^ (if p / 2 ^ i % 2 = 1 then 285 * 2 ^ (i - 8) else 0)

/-- The steps from the bit 15 down, n of them. -/
def bred : Nat → Nat → Nat
  | 0, p => p
  | n + 1, p => bst (15 - n) (bred n p)

theorem bst_xor (i p q : Nat) : bst i (p ^^^ q) = bst i p ^^^ bst i q := by
  unfold bst
  rw [sel_xor, xor4]

theorem bred_xor (n p q : Nat) : bred n (p ^^^ q) = bred n p ^^^ bred n q := by
  induction n with
  | zero => rfl
  | succ n ih => rw [bred, ih, bst_xor]; rfl

theorem bred_zero (n : Nat) : bred n 0 = 0 := by
  induction n with
  | zero => rfl
  | succ n ih => rw [bred, ih]; unfold bst; simp

theorem bred_shift {a : Nat} (h : a < 256) (n : Nat) (hn : n < 8) : bred 8 (a * 2 ^ n) = xtn n a := by
  have h1 := all_lt (p := fun a => (List.range 8).all fun n => decide (bred 8 (a * 2 ^ n) = xtn n a)) (n := 256) (by decide +kernel) a h
  have h2 := all_lt h1 n hn
  simpa using h2

theorem bred_raw {a : Nat} (h : a < 256) (b n : Nat) (hn : n ≤ 8) : bred 8 (raw n a b) = gm n a b := by
  induction n with
  | zero => exact bred_zero 8
  | succ n ih =>
    rw [raw, gm, bred_xor, ih (by omega)]
    split
    · rw [bred_shift h n (by omega)]
    · rw [bred_zero]

theorem raw_lt {a : Nat} (h : a < 256) (b n : Nat) (hn : n ≤ 8) : raw n a b < 2 ^ (8 + n) := by
  induction n with
  | zero => show 0 < 2 ^ 8; decide
  | succ n ih =>
    have h1 := ih (by omega)
    have e : 2 ^ (8 + (n + 1)) = 2 * 2 ^ (8 + n) := by rw [show 8 + (n + 1) = (8 + n) + 1 from rfl, Nat.pow_succ, Nat.mul_comm]
    rw [raw]
    refine Nat.xor_lt_two_pow (by omega) ?_
    split
    · have e2 : 2 ^ (8 + n) = 256 * 2 ^ n := by rw [Nat.pow_add]
      have : a * 2 ^ n < 256 * 2 ^ n := Nat.mul_lt_mul_of_pos_right h (Nat.pow_pos (by decide))
      omega
    · exact Nat.pow_pos (by decide)

/-- A step's bit is gone behind it. -/
theorem bst_lt {i p : Nat} (h8 : 8 ≤ i) (hp : p < 2 ^ (i + 1)) : bst i p < 2 ^ i := by
  have e1 : 2 ^ (i + 1) = 2 * 2 ^ i := by rw [Nat.pow_succ, Nat.mul_comm]
  have e2 : 285 * 2 ^ (i - 8) = 2 ^ i ^^^ (29 * 2 ^ (i - 8)) := by
    have k : 2 ^ i = 256 * 2 ^ (i - 8) := by
      rw [show (256 : Nat) = 2 ^ 8 from rfl, ← Nat.pow_add]; congr 1; omega
    have s := Nat.shiftLeft_xor_distrib (a := 256) (b := 29) (i := i - 8)
    simp only [Nat.shiftLeft_eq] at s
    rw [k, ← s]
    rfl
  have h29 : 29 * 2 ^ (i - 8) < 2 ^ i := by
    have k : 2 ^ i = 256 * 2 ^ (i - 8) := by
      rw [show (256 : Nat) = 2 ^ 8 from rfl, ← Nat.pow_add]; congr 1; omega
    have := Nat.pow_pos (n := i - 8) (show 0 < 2 by decide)
    omega
  have hpos := Nat.pow_pos (n := i) (show 0 < 2 by decide)
  unfold bst
  split
  · rename_i hb
    have hge : 2 ^ i ≤ p := by
      rcases Nat.lt_or_ge p (2 ^ i) with h | h
      · rw [Nat.div_eq_of_lt h] at hb; cases hb
      · exact h
    have hx : p ^^^ 2 ^ i < 2 ^ i := by
      have a := Nat.two_pow_add_eq_or_of_lt (i := i) (b := p - 2 ^ i) (by omega) 1
      have : p = 2 ^ i ^^^ (p - 2 ^ i) := by
        apply Nat.eq_of_testBit_eq
        intro j
        rw [Nat.testBit_xor, Nat.testBit_two_pow]
        have hq : p = 2 ^ i * 1 + (p - 2 ^ i) := by omega
        conv => lhs; rw [hq, a]
        rw [Nat.mul_one, Nat.testBit_or, Nat.testBit_two_pow]
        by_cases hj : i = j
        · subst hj
          have : (p - 2 ^ i).testBit i = false := Nat.testBit_lt_two_pow (by omega)
          simp [this]
        · simp [hj]
      rw [this, Nat.xor_comm, ← Nat.xor_assoc, Nat.xor_self, Nat.zero_xor]
      omega
    rw [e2, ← Nat.xor_assoc]
    exact Nat.xor_lt_two_pow hx h29
  · rename_i hb
    rw [Nat.xor_zero]
    rcases Nat.lt_or_ge p (2 ^ i) with h | h
    · exact h
    · exfalso
      apply hb
      have : p / 2 ^ i = 1 := by
        rw [Nat.div_eq_iff hpos]; omega
      rw [this]

theorem bst_if {i p : Nat} (hp : p < 2 ^ (i + 1)) : bst i p = if 2 ^ i ≤ p then p ^^^ (285 * 2 ^ (i - 8)) else p := by
  have e1 : 2 ^ (i + 1) = 2 * 2 ^ i := by rw [Nat.pow_succ, Nat.mul_comm]
  have hpos := Nat.pow_pos (n := i) (show 0 < 2 by decide)
  unfold bst
  by_cases h : 2 ^ i ≤ p
  · have : p / 2 ^ i = 1 := by rw [Nat.div_eq_iff hpos]; omega
    rw [this, if_pos h]; rfl
  · rw [Nat.div_eq_of_lt (by omega), if_neg h]; simp

theorem bred_lt {p : Nat} (hp : p < 2 ^ 16) (n : Nat) (hn : n ≤ 8) : bred n p < 2 ^ (16 - n) := by
  induction n with
  | zero => exact hp
  | succ n ih =>
    rw [bred, show 16 - (n + 1) = 15 - n from by omega]
    refine bst_lt (by omega) ?_
    rw [show 15 - n + 1 = 16 - n from by omega]
    exact ih (by omega)

/-- Log's answer: -1 of 0. -/
def rlog (a : Nat) : Int := if a = 0 then -1 else (lg a : Int)

/-- Exp's answer: 0 beyond the table. -/
def expA (i : Int) : Nat := if 0 ≤ i ∧ i < 510 then pw i.toNat else 0

/-- Pow's answer: 0 below 0. -/
def powA (a : Nat) (n : Int) : Nat := if n < 0 then 0 else gpow a n.toNat

theorem rlog_ne {a : Nat} (h : a ≠ 0) : rlog a = (lg a : Int) := by unfold rlog; rw [if_neg h]

theorem expA_nat {k : Nat} (h : k < 510) : expA (k : Int) = pw k := by
  unfold expA; rw [if_pos (by omega), Int.toNat_natCast]

theorem powA_nat (a n : Nat) : powA a (n : Int) = gpow a n := by
  unfold powA; rw [if_neg (by omega), Int.toNat_natCast]

theorem powA_lt {a : Nat} (ha : a < 256) (n : Int) : powA a n < 256 := by
  unfold powA; split
  · decide
  · exact gpow_lt ha _

end Go.Proofs.YthbfdfkkacmbhabDoor.Bt
