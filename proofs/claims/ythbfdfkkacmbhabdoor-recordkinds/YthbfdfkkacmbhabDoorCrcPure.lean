/- Plain lemmas on check sums: a state is a number, bits come one behind the other; no program is named here. -/
import Derived.Test.YthbfdfkkacmbhabDoorPure
import Derived.Test.YthbfdfkkacmbhabDoorOrder0
namespace Go.Proofs.YthbfdfkkacmbhabDoor.Bt

theorem xor_zero_eq {a b : Nat} (h : a ^^^ b = 0) : a = b := by
  have : (a ^^^ b) ^^^ b = 0 ^^^ b := by rw [h]
  rw [Nat.xor_assoc, Nat.xor_self] at this
  simpa using this

theorem two_xor (a b : Nat) : 2 * (a ^^^ b) = 2 * a ^^^ 2 * b := by
  have := Nat.shiftLeft_xor_distrib (i := 1) (a := a) (b := b)
  simp only [Nat.shiftLeft_eq] at this
  rw [Nat.mul_comm 2, Nat.mul_comm 2, Nat.mul_comm 2]
  simpa using this

theorem xor_mul_pow (a b n : Nat) : (a ^^^ b) * 2 ^ n = a * 2 ^ n ^^^ b * 2 ^ n := by
  have := Nat.shiftLeft_xor_distrib (i := n) (a := a) (b := b)
  simpa only [Nat.shiftLeft_eq] using this

theorem add_eq_xor (b y n : Nat) (h : y < 2 ^ n) : b * 2 ^ n + y = b * 2 ^ n ^^^ y := by
  apply Nat.eq_of_testBit_eq
  intro j
  rw [Nat.mul_comm b, Nat.testBit_two_pow_mul_add _ h, Nat.testBit_xor, Nat.testBit_two_pow_mul]
  by_cases hj : j < n
  · have hj' : ¬ n ≤ j := by omega
    simp [hj, hj']
  · have hy : y.testBit j = false := Nat.testBit_lt_two_pow (Nat.lt_of_lt_of_le h (Nat.pow_le_pow_right (by decide) (by omega)))
    simp [hj, hy]; omega

/-- A state moved up by one bit; what falls off comes back as the polynomial. The width is n + 1. -/
def Z (n P s : Nat) : Nat := if s / 2 ^ n % 2 = 1 then (2 * s % 2 ^ (n + 1)) ^^^ P else 2 * s % 2 ^ (n + 1)

def stp (n P s b : Nat) : Nat := Z n P (s ^^^ b * 2 ^ n)

def run (n P s : Nat) (l : List Nat) : Nat := l.foldl (stp n P) s

def Zk (n P : Nat) : Nat → Nat → Nat
  | 0, s => s
  | k + 1, s => Zk n P k (Z n P s)

theorem Z_lt {n P : Nat} (hP : P < 2 ^ (n + 1)) (s : Nat) : Z n P s < 2 ^ (n + 1) := by
  have h : 2 * s % 2 ^ (n + 1) < 2 ^ (n + 1) := Nat.mod_lt _ (Nat.pow_pos (by decide))
  unfold Z
  split
  · exact Nat.xor_lt_two_pow h hP
  · exact h

theorem Z_zero (n P : Nat) : Z n P 0 = 0 := by simp [Z]

theorem Z_xor (n P s t : Nat) : Z n P (s ^^^ t) = Z n P s ^^^ Z n P t := by
  unfold Z
  rw [two_xor, Nat.xor_mod_two_pow, Nat.xor_div_two_pow]
  have e := Nat.xor_mod_two_eq_one (a := s / 2 ^ n) (b := t / 2 ^ n)
  generalize 2 * s % 2 ^ (n + 1) = A
  generalize 2 * t % 2 ^ (n + 1) = B
  by_cases hs : s / 2 ^ n % 2 = 1
  · by_cases ht : t / 2 ^ n % 2 = 1
    · have : ¬ (s / 2 ^ n ^^^ t / 2 ^ n) % 2 = 1 := by rw [e]; simp [hs, ht]
      rw [if_neg this, if_pos hs, if_pos ht]
      rw [Nat.xor_assoc, Nat.xor_comm B P, ← Nat.xor_assoc P, Nat.xor_self]; simp
    · have : (s / 2 ^ n ^^^ t / 2 ^ n) % 2 = 1 := by rw [e]; simp [hs, ht]
      rw [if_pos this, if_pos hs, if_neg ht]
      rw [Nat.xor_assoc, Nat.xor_assoc, Nat.xor_comm B P]
  · by_cases ht : t / 2 ^ n % 2 = 1
    · have : (s / 2 ^ n ^^^ t / 2 ^ n) % 2 = 1 := by rw [e]; simp [hs, ht]
      rw [if_pos this, if_neg hs, if_pos ht, Nat.xor_assoc]
    · have : ¬ (s / 2 ^ n ^^^ t / 2 ^ n) % 2 = 1 := by rw [e]; simp [hs, ht]
      rw [if_neg this, if_neg hs, if_neg ht]

theorem Z_eq_zero {n P s : Nat} (hodd : P % 2 = 1) (hs : s < 2 ^ (n + 1)) (h : Z n P s = 0) : s = 0 := by
  unfold Z at h
  rw [Nat.pow_succ] at hs
  split at h
  · have h1 := xor_zero_eq h
    have h2 : 2 * s % 2 ^ (n + 1) % 2 = 0 := by
      rw [Nat.pow_succ, Nat.mul_comm (2 ^ n) 2, Nat.mod_mul_right_mod]; omega
    rw [h1] at h2; omega
  · rename_i hn
    have hlt : s < 2 ^ n := by
      rcases Nat.lt_or_ge s (2 ^ n) with h' | h'
      · exact h'
      · exfalso
        apply hn
        have : s / 2 ^ n = 1 := Nat.div_eq_of_lt_le (by omega) (by omega)
        rw [this]
    rw [Nat.mod_eq_of_lt (by rw [Nat.pow_succ]; omega)] at h
    omega

theorem Zk_lt {n P : Nat} (hP : P < 2 ^ (n + 1)) (k s : Nat) (hs : s < 2 ^ (n + 1)) : Zk n P k s < 2 ^ (n + 1) := by
  induction k generalizing s with
  | zero => exact hs
  | succ k ih => exact ih _ (Z_lt hP s)

theorem Zk_zero (n P k : Nat) : Zk n P k 0 = 0 := by
  induction k with
  | zero => rfl
  | succ k ih => rw [Zk, Z_zero, ih]

theorem Zk_eq_zero {n P : Nat} (hodd : P % 2 = 1) (hP : P < 2 ^ (n + 1)) (k s : Nat) (hs : s < 2 ^ (n + 1)) (h : Zk n P k s = 0) : s = 0 := by
  induction k generalizing s with
  | zero => exact h
  | succ k ih => exact Z_eq_zero hodd hs (ih _ (Z_lt hP s) h)

theorem run_nil (n P s : Nat) : run n P s [] = s := rfl
theorem run_cons (n P s b : Nat) (l : List Nat) : run n P s (b :: l) = run n P (stp n P s b) l := rfl
theorem run_append (n P s : Nat) (l m : List Nat) : run n P s (l ++ m) = run n P (run n P s l) m := by simp [run]

theorem run_zeros (n P s k : Nat) : run n P s (List.replicate k 0) = Zk n P k s := by
  induction k generalizing s with
  | zero => rfl
  | succ k ih => rw [List.replicate_succ, run_cons, ih]; simp [stp, Zk]

theorem run_lt {n P : Nat} (hP : P < 2 ^ (n + 1)) (s : Nat) (hs : s < 2 ^ (n + 1)) (l : List Nat) : run n P s l < 2 ^ (n + 1) := by
  induction l generalizing s with
  | nil => exact hs
  | cons b l ih => rw [run_cons]; exact ih _ (Z_lt hP _)

/-- Bits put together, place by place. -/
def zx (l m : List Nat) : List Nat := List.zipWith (· ^^^ ·) l m

theorem run_xor (n P s t : Nat) (l m : List Nat) (h : l.length = m.length) : run n P (s ^^^ t) (zx l m) = run n P s l ^^^ run n P t m := by
  induction l generalizing s t m with
  | nil =>
    match m, h with
    | [], _ => rfl
  | cons a l ih =>
    match m, h with
    | b :: m, h =>
      have e : zx (a :: l) (b :: m) = (a ^^^ b) :: zx l m := rfl
      rw [e, run_cons, run_cons, run_cons, ← ih _ _ m (by simpa using h)]
      congr 1
      simp only [stp]
      rw [← Z_xor, xor_mul_pow]
      congr 1
      rw [Nat.xor_assoc, Nat.xor_assoc, ← Nat.xor_assoc t, Nat.xor_comm t (a * 2 ^ n), Nat.xor_assoc (a * 2 ^ n)]

theorem num_cons (b : Nat) (l : List Nat) : num (b :: l) = b * 2 ^ l.length + num l := by
  have := num_append [b] l
  simpa [num] using this

/-- So many bits, no more than the width, are as good as laid upon the state ahead of as many steps. -/
theorem run_feed {n P : Nat} (s : Nat) (l : List Nat) (hb : Bits l) (hk : l.length ≤ n + 1) : run n P s l = Zk n P l.length (s ^^^ num l * 2 ^ (n + 1 - l.length)) := by
  induction l generalizing s with
  | nil => simp [run, Zk, num]
  | cons b l ih =>
    have hk' : l.length ≤ n := by simpa using hk
    have hbl : Bits l := fun x hx => hb x (by simp [hx])
    have hb2 : b < 2 := hb b (by simp)
    have hnum := num_lt l hbl
    rw [run_cons, ih _ hbl (by omega), List.length_cons, Zk]
    congr 1
    have e1 : n + 1 - (l.length + 1) = n - l.length := by omega
    have e2 : 2 ^ l.length * 2 ^ (n - l.length) = 2 ^ n := by rw [← Nat.pow_add]; congr 1; omega
    have hy : num l * 2 ^ (n - l.length) < 2 ^ n := by
      rw [← e2]; exact Nat.mul_lt_mul_of_pos_right hnum (Nat.pow_pos (by decide))
    have e3 : num (b :: l) * 2 ^ (n - l.length) = b * 2 ^ n ^^^ num l * 2 ^ (n - l.length) := by
      rw [num_cons, Nat.add_mul, Nat.mul_assoc, e2]
      exact add_eq_xor b _ n hy
    have e4 : Z n P (num l * 2 ^ (n - l.length)) = num l * 2 ^ (n + 1 - l.length) := by
      have e5 : n + 1 - l.length = (n - l.length) + 1 := by omega
      unfold Z
      rw [Nat.div_eq_of_lt hy]
      simp only [Nat.zero_mod, Nat.zero_ne_one, if_false]
      rw [e5, Nat.pow_succ 2 n, Nat.mod_eq_of_lt (by omega), Nat.pow_succ, ← Nat.mul_assoc (num l), Nat.mul_comm 2]
    rw [e1, e3, ← Nat.xor_assoc, Z_xor, e4]
    rfl

/-- Turned bits near one another are found. -/
theorem burst {n P : Nat} (hodd : P % 2 = 1) (hP : P < 2 ^ (n + 1)) (a c : Nat) (v : List Nat) (hv : Bits v) (hk : v.length ≤ n + 1) (h0 : num v ≠ 0) :
    run n P 0 (List.replicate a 0 ++ (v ++ List.replicate c 0)) ≠ 0 := by
  intro h
  rw [run_append, run_append, run_zeros, run_zeros, Zk_zero, run_feed 0 v hv hk] at h
  have hn := num_lt v hv
  have e : 2 ^ v.length * 2 ^ (n + 1 - v.length) = 2 ^ (n + 1) := by rw [← Nat.pow_add]; congr 1; omega
  have hp : 0 < 2 ^ (n + 1 - v.length) := Nat.pow_pos (by decide)
  have hlt : 0 ^^^ num v * 2 ^ (n + 1 - v.length) < 2 ^ (n + 1) := by
    rw [Nat.zero_xor, ← e]; exact Nat.mul_lt_mul_of_pos_right hn hp
  have h1 := Zk_eq_zero hodd hP _ _ (Zk_lt hP _ _ hlt) h
  have h2 := Zk_eq_zero hodd hP _ _ hlt h1
  rw [Nat.zero_xor] at h2
  rcases Nat.mul_eq_zero.1 h2 with h3 | h3
  · exact h0 h3
  · omega

/-- Two rows of bits whose difference is such have other sums. -/
theorem run_ne {n P : Nat} (hodd : P % 2 = 1) (hP : P < 2 ^ (n + 1)) (s a c : Nat) (v l m : List Nat) (hlen : l.length = m.length) (hv : Bits v) (hk : v.length ≤ n + 1) (h0 : num v ≠ 0)
    (hd : zx l m = List.replicate a 0 ++ (v ++ List.replicate c 0)) : run n P s l ≠ run n P s m := by
  intro h
  have := run_xor n P s s l m hlen
  rw [Nat.xor_self, h, Nat.xor_self, hd] at this
  exact burst hodd hP a c v hv hk h0 this

/-- A state's own bits behind it bring it to nought. -/
theorem run_tail {n P : Nat} (s : Nat) (v : List Nat) (hv : Bits v) (hk : v.length = n + 1) (h : num v = s) : run n P s v = 0 := by
  rw [run_feed s v hv (by omega), hk, h]
  simp [Zk_zero]

theorem num_inj (l m : List Nat) (hl : Bits l) (hm : Bits m) (hlen : l.length = m.length) (h : num l = num m) : l = m := by
  induction l generalizing m with
  | nil =>
    match m, hlen with
    | [], _ => rfl
  | cons a l ih =>
    match m, hlen with
    | b :: m, hlen =>
      have hlen' : l.length = m.length := by simpa using hlen
      have hl' : Bits l := fun x hx => hl x (by simp [hx])
      have hm' : Bits m := fun x hx => hm x (by simp [hx])
      have n1 := num_lt l hl'
      have n2 := num_lt m hm'
      rw [num_cons, num_cons, hlen'] at h
      rw [hlen'] at n1
      have ha := hl a (by simp)
      have hb := hm b (by simp)
      generalize 2 ^ m.length = Q at *
      have : a = b := by
        rcases (show a = 0 ∨ a = 1 by omega) with rfl | rfl <;> rcases (show b = 0 ∨ b = 1 by omega) with rfl | rfl <;> omega
      subst this
      rw [ih m hl' hm' hlen' (by omega)]

/-- The number of bits that are put together. -/
theorem num_zx (l m : List Nat) (hl : Bits l) (hm : Bits m) (hlen : l.length = m.length) : num (zx l m) = num l ^^^ num m := by
  induction l generalizing m with
  | nil =>
    match m, hlen with
    | [], _ => rfl
  | cons a l ih =>
    match m, hlen with
    | b :: m, hlen =>
      have hlen' : l.length = m.length := by simpa using hlen
      have hl' : Bits l := fun x hx => hl x (by simp [hx])
      have hm' : Bits m := fun x hx => hm x (by simp [hx])
      have e : zx (a :: l) (b :: m) = (a ^^^ b) :: zx l m := rfl
      have hz : (zx l m).length = l.length := by simp [zx, hlen']
      have n1 := num_lt l hl'
      have n2 := num_lt m hm'
      have n3 : num l ^^^ num m < 2 ^ m.length := Nat.xor_lt_two_pow (by rw [← hlen']; exact n1) n2
      rw [e, num_cons, num_cons, num_cons, hz, ih m hl' hm' hlen', hlen', add_eq_xor _ _ _ n3, add_eq_xor _ _ _ n2, add_eq_xor a _ _ (by rw [← hlen']; exact n1), xor_mul_pow]
      rw [Nat.xor_assoc, Nat.xor_assoc, ← Nat.xor_assoc (b * 2 ^ m.length), Nat.xor_comm (b * 2 ^ m.length) (num l), Nat.xor_assoc (num l)]

/-- One step of the document's own sum, over a list of bits. -/
def lstep (poly s : List Nat) (b : Nat) : List Nat :=
  if (s.headD 0 + b) % 2 = 1 then List.zipWith (fun x y => (x + y) % 2) (s.tail ++ [0]) poly else s.tail ++ [0]

theorem bit_xor (a b : Nat) (ha : a < 2) (hb : b < 2) : a ^^^ b = (a + b) % 2 := by
  rcases (show a = 0 ∨ a = 1 by omega) with rfl | rfl <;> rcases (show b = 0 ∨ b = 1 by omega) with rfl | rfl <;> rfl

theorem zip_xor (l m : List Nat) (hl : Bits l) (hm : Bits m) : List.zipWith (fun x y => (x + y) % 2) l m = zx l m := by
  induction l generalizing m with
  | nil => simp [zx]
  | cons a l ih =>
    match m with
    | [] => rfl
    | b :: m =>
      have e : zx (a :: l) (b :: m) = (a ^^^ b) :: zx l m := rfl
      rw [e, List.zipWith_cons_cons, bit_xor a b (hl a (by simp)) (hm b (by simp)), ih m (fun x hx => hl x (by simp [hx])) (fun x hx => hm x (by simp [hx]))]

theorem zx_bits (l m : List Nat) (hl : Bits l) (hm : Bits m) : Bits (zx l m) := by
  rw [← zip_xor l m hl hm]
  intro b hb
  obtain ⟨i, hi, rfl⟩ := List.getElem_of_mem hb
  simp only [List.getElem_zipWith]
  omega

theorem lstep_num (n : Nat) (poly s : List Nat) (b : Nat) (hs : Bits s) (hp : Bits poly) (hls : s.length = n + 1) (hlp : poly.length = n + 1) (hb : b < 2) :
    num (lstep poly s b) = stp n (num poly) (num s) b ∧ (lstep poly s b).length = n + 1 ∧ Bits (lstep poly s b) := by
  match s, hls with
  | a :: t, hls =>
    have hlt : t.length = n := by simpa using hls
    have ht : Bits t := fun x hx => hs x (by simp [hx])
    have ha : a < 2 := hs a (by simp)
    have hnt := num_lt t ht
    rw [hlt] at hnt
    have hz : Bits (t ++ [0]) := bits_snoc ht (by decide)
    have hx : a * 2 ^ n ^^^ num t ^^^ b * 2 ^ n = (a ^^^ b) * 2 ^ n + num t := by
      rw [add_eq_xor _ _ _ hnt, xor_mul_pow, Nat.xor_assoc, Nat.xor_comm (num t), ← Nat.xor_assoc]
    have hab : a ^^^ b < 2 := by rw [bit_xor a b ha hb]; omega
    have e1 : ((a ^^^ b) * 2 ^ n + num t) / 2 ^ n = a ^^^ b := by
      rw [Nat.mul_comm, Nat.mul_add_div (Nat.pow_pos (by decide)), Nat.div_eq_of_lt hnt]; rfl
    have e2 : 2 * ((a ^^^ b) * 2 ^ n + num t) % 2 ^ (n + 1) = num (t ++ [0]) := by
      rw [num_snoc, Nat.pow_succ, Nat.mul_add, Nat.add_zero]
      have : 2 * ((a ^^^ b) * 2 ^ n) = (2 ^ n * 2) * (a ^^^ b) := by
        rw [Nat.mul_comm (a ^^^ b), ← Nat.mul_assoc, Nat.mul_comm 2]
      rw [this, Nat.mul_add_mod, Nat.mod_eq_of_lt (by omega)]
    have e3 : stp n (num poly) (num (a :: t)) b = if (a + b) % 2 = 1 then num (t ++ [0]) ^^^ num poly else num (t ++ [0]) := by
      unfold stp
      rw [num_cons, hlt, add_eq_xor _ _ _ hnt, hx]
      unfold Z
      rw [e1, e2, Nat.mod_eq_of_lt hab, bit_xor a b ha hb]
    rw [e3]
    have e4 : lstep poly (a :: t) b = if (a + b) % 2 = 1 then zx (t ++ [0]) poly else t ++ [0] := by
      rw [← zip_xor _ _ hz hp]; rfl
    rw [e4]
    have hl0 : (t ++ [0]).length = poly.length := by simp [hlt, hlp]
    by_cases h : (a + b) % 2 = 1
    · rw [if_pos h, if_pos h]
      refine ⟨num_zx _ _ hz hp hl0, ?_, zx_bits _ _ hz hp⟩
      simp [zx, hlt, hlp]
    · rw [if_neg h, if_neg h]
      exact ⟨rfl, by simp [hlt], hz⟩

/-- The document's own sum is the number's. -/
theorem lrun_num (n : Nat) (poly s : List Nat) (l : List Nat) (hs : Bits s) (hp : Bits poly) (hl : Bits l) (hls : s.length = n + 1) (hlp : poly.length = n + 1) :
    num (l.foldl (lstep poly) s) = run n (num poly) (num s) l ∧ (l.foldl (lstep poly) s).length = n + 1 ∧ Bits (l.foldl (lstep poly) s) := by
  induction l generalizing s with
  | nil => exact ⟨rfl, hls, hs⟩
  | cons b l ih =>
    obtain ⟨h1, h2, h3⟩ := lstep_num n poly s b hs hp hls hlp (hl b (by simp))
    have := ih (lstep poly s b) h3 (fun x hx => hl x (by simp [hx])) h2
    rw [List.foldl_cons, run_cons, ← h1]
    exact this

theorem fld_num (W : Nat) (l : List Nat) (hl : Bits l) (h : l.length = W) : fld W (num l) = l := by
  apply num_inj _ _ (fld_bits _ _) hl (by rw [fld_length, h])
  have := num_lt l hl
  rw [h] at this
  rw [num_fld, Nat.mod_eq_of_lt this]

theorem num_ones16 : num (List.replicate 16 1) = 65535 := by decide
theorem num_ones32 : num (List.replicate 32 1) = 4294967295 := by decide

/-- The document's CRC-16. -/
def crc16 (bs : List Nat) : Nat := run 15 4129 65535 (unpack bs)
/-- Bits of bytes, each byte's lowest first. -/
def lows (bs : List Nat) : List Nat := bs.flatMap fun b => (fld 8 b).reverse
/-- A state's bits in the other order, each turned. -/
def turned (s : Nat) : Nat := num ((fld 32 s).reverse.map fun x => 1 - x)
/-- The document's CRC-32. -/
def crc32 (bs : List Nat) : Nat := turned (run 31 79764919 4294967295 (lows bs))

theorem lows_length (bs : List Nat) : (lows bs).length = 8 * bs.length := by
  induction bs with
  | nil => rfl
  | cons x xs ih => simp only [lows, List.flatMap_cons, List.length_append, List.length_reverse, fld_length, List.length_cons] at *; omega

theorem bits_reverse {l : List Nat} (h : Bits l) : Bits l.reverse := fun b hb => h b (List.mem_reverse.1 hb)

theorem lows_bits (bs : List Nat) : Bits (lows bs) := by
  intro b h; simp only [lows, List.mem_flatMap] at h
  obtain ⟨x, _, h⟩ := h
  exact bits_reverse (fld_bits 8 x) b h

theorem lows_snoc (bs : List Nat) (b : Nat) : lows (bs ++ [b]) = lows bs ++ (fld 8 b).reverse := by simp [lows]

theorem crc16_lt (bs : List Nat) : crc16 bs < 2 ^ 16 := by
  unfold crc16
  exact run_lt (n := 15) (by omega) _ (by omega) _

theorem bits_turn (l : List Nat) : Bits (l.map fun x => 1 - x) := by
  intro b hb
  obtain ⟨x, _, rfl⟩ := List.mem_map.1 hb
  omega

def turnedW (W s : Nat) : Nat := num ((fld W s).reverse.map fun x => 1 - x)

theorem turnedW_lt (W s : Nat) : turnedW W s < 2 ^ W := by
  have := num_lt ((fld W s).reverse.map fun x => 1 - x) (bits_turn _)
  rw [List.length_map, List.length_reverse, fld_length] at this
  exact this

theorem map_turn_inj (l m : List Nat) (hl : Bits l) (hm : Bits m) (h : (l.map fun x => 1 - x) = m.map fun x => 1 - x) : l = m := by
  induction l generalizing m with
  | nil => match m, h with
    | [], _ => rfl
  | cons a l ih => match m, h with
    | b :: m, h =>
      simp only [List.map_cons, List.cons.injEq] at h
      have ha := hl a (by simp)
      have hb := hm b (by simp)
      rw [ih m (fun x hx => hl x (by simp [hx])) (fun x hx => hm x (by simp [hx])) h.2]
      congr 1
      omega

/-- Other states have other sums. -/
theorem turnedW_inj {W s t : Nat} (hs : s < 2 ^ W) (ht : t < 2 ^ W) (h : turnedW W s = turnedW W t) : s = t := by
  have h1 := num_inj _ _ (bits_turn _) (bits_turn _) (by simp [fld_length]) h
  have h2 := map_turn_inj _ _ (bits_reverse (fld_bits W s)) (bits_reverse (fld_bits W t)) h1
  have h3 : fld W s = fld W t := by rw [← List.reverse_reverse (fld W s), h2, List.reverse_reverse]
  have e1 := num_fld W s
  have e2 := num_fld W t
  rw [Nat.mod_eq_of_lt hs] at e1
  rw [Nat.mod_eq_of_lt ht] at e2
  rw [← e1, ← e2, h3]

theorem turned_eq (s : Nat) : turned s = turnedW 32 s := rfl

theorem crc32_lt (bs : List Nat) : crc32 bs < 2 ^ 32 := by
  unfold crc32
  rw [turned_eq]
  exact turnedW_lt 32 _

theorem turned_inj {s t : Nat} (hs : s < 2 ^ 32) (ht : t < 2 ^ 32) (h : turned s = turned t) : s = t := by
  rw [turned_eq, turned_eq] at h
  exact turnedW_inj hs ht h

/-- A number's low bytes, the highest first. -/
def numB (u m : Nat) : List Nat := (List.range m).map fun i => u / 256 ^ (m - 1 - i) % 256
/-- The number of bytes, the highest first. -/
def readB (bs : List Nat) : Nat := bs.foldl (fun a b => a * 256 + b) 0

theorem numB_length (u m : Nat) : (numB u m).length = m := by simp [numB]
theorem numB_byte (u m : Nat) : ∀ b ∈ numB u m, b < 256 := by
  intro b hb
  obtain ⟨i, _, rfl⟩ := List.mem_map.1 hb
  exact Nat.mod_lt _ (by decide)
theorem readB_snoc (l : List Nat) (b : Nat) : readB (l ++ [b]) = readB l * 256 + b := by simp [readB]
theorem readB_lt (l : List Nat) (h : ∀ b ∈ l, b < 256) : readB l < 256 ^ l.length := by
  have key : ∀ m : List Nat, (∀ b ∈ m, b < 256) → readB m.reverse < 256 ^ m.length := by
    intro m
    induction m with
    | nil => intro _; simp [readB]
    | cons x xs ih =>
      intro hm
      have h1 := ih (fun b hb => hm b (by simp [hb]))
      have h2 := hm x (by simp)
      rw [List.reverse_cons, readB_snoc, List.length_cons, Nat.pow_succ]
      omega
  have := key l.reverse (fun b hb => h b (List.mem_reverse.1 hb))
  rw [List.reverse_reverse, List.length_reverse] at this
  exact this
theorem numB_succ (u m : Nat) : numB u (m + 1) = numB (u / 256) m ++ [u % 256] := by
  apply List.ext_getElem
  · simp [numB]
  · intro i h1 h2
    simp only [numB, List.length_map, List.length_range] at h1
    by_cases hi : i < m
    · rw [List.getElem_append_left (by simpa [numB] using hi)]
      simp only [numB, List.getElem_map, List.getElem_range]
      have e : m + 1 - 1 - i = (m - 1 - i) + 1 := by omega
      rw [e, Nat.pow_succ, Nat.mul_comm, Nat.div_div_eq_div_mul]
    · have e : i = m := by omega
      subst e
      rw [List.getElem_append_right (by simp [numB])]
      simp [numB]
theorem readB_numB (u m : Nat) : readB (numB u m) = u % 256 ^ m := by
  induction m generalizing u with
  | zero => simp [numB, readB, Nat.mod_one]
  | succ m ih =>
    rw [numB_succ, readB_snoc, ih, Nat.pow_succ, Nat.mul_comm (256 ^ m) 256, Nat.mod_mul]
    omega

/-- The bytes as far as they are laid: so many from the end on. -/
def laidB (u m j : Nat) : List Nat := (List.range m).map fun i => if i < m - j then 0 else u / 256 ^ (m - 1 - i) % 256
theorem laidB_length (u m j : Nat) : (laidB u m j).length = m := by simp [laidB]
theorem laidB_zero (u m : Nat) : laidB u m 0 = List.replicate m 0 := by
  apply List.ext_getElem
  · simp [laidB]
  · intro i h1 h2
    simp only [List.length_replicate] at h2
    simp only [laidB, List.getElem_map, List.getElem_range, List.getElem_replicate]
    rw [if_pos (by omega)]
theorem laidB_all (u m : Nat) : laidB u m m = numB u m := by
  apply List.ext_getElem
  · simp [laidB, numB]
  · intro i h1 h2
    simp only [laidB, numB, List.getElem_map, List.getElem_range]
    rw [if_neg (by omega)]
theorem laidB_step (u m j : Nat) (h : j < m) : (laidB u m j).set (m - 1 - j) (u / 256 ^ j % 256) = laidB u m (j + 1) := by
  apply List.ext_getElem
  · simp [laidB]
  · intro i h1 h2
    rw [laidB_length] at h2
    rw [List.getElem_set]
    simp only [laidB, List.getElem_map, List.getElem_range]
    by_cases hi : m - 1 - j = i
    · have e : m - 1 - i = j := by omega
      rw [if_pos hi, if_neg (by omega), e]
    · rw [if_neg hi]
      by_cases hlt : i < m - (j + 1)
      · rw [if_pos (by omega), if_pos (by omega)]
      · rw [if_neg (by omega), if_neg (by omega)]

end Go.Proofs.YthbfdfkkacmbhabDoor.Bt
