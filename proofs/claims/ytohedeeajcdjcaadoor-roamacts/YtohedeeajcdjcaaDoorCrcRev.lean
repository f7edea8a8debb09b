/- Plain: thirty-two bits in the other order, by swapping halves. -/
import Derived.Test.YtohedeeajcdjcaaDoorCrcPure
namespace Go.Proofs.YtohedeeajcdjcaaDoor.Bt

/-- Neighbours that lie so far apart change places. -/
def sw (k M x : Nat) : Nat := (x / 2 ^ k &&& M) ||| ((x &&& M) * 2 ^ k % 4294967296)

def halves (x : Nat) : Nat := x / 65536 ||| x * 65536 % 4294967296

def rev32 (x : Nat) : Nat := halves (sw 8 16711935 (sw 4 252645135 (sw 2 858993459 (sw 1 1431655765 x))))

theorem sw_lt (k M x : Nat) (hM : M < 4294967296) : sw k M x < 4294967296 := by
  have h1 : x / 2 ^ k &&& M < 2 ^ 32 := Nat.and_lt_two_pow _ hM
  have h2 : (x &&& M) * 2 ^ k % 4294967296 < 2 ^ 32 := Nat.mod_lt _ (by decide)
  exact Nat.or_lt_two_pow h1 h2

theorem halves_lt (x : Nat) (hx : x < 4294967296) : halves x < 4294967296 := by
  have h1 : x / 65536 < 2 ^ 32 := by omega
  have h2 : x * 65536 % 4294967296 < 2 ^ 32 := Nat.mod_lt _ (by decide)
  exact Nat.or_lt_two_pow h1 h2

theorem rev32_lt (x : Nat) : rev32 x < 4294967296 := halves_lt _ (sw_lt _ _ _ (by decide))

theorem sw_bit (k M x i : Nat) (hi : i < 32) (h0 : M.testBit i = true → k ≤ i → M.testBit (i - k) = false) (h1 : M.testBit i = false → k ≤ i ∧ M.testBit (i - k) = true) :
    (sw k M x).testBit i = x.testBit (if M.testBit i then i + k else i - k) := by
  unfold sw
  rw [Nat.testBit_or, Nat.testBit_and, Nat.testBit_div_two_pow, show (4294967296 : Nat) = 2 ^ 32 from rfl, Nat.testBit_mod_two_pow, Nat.testBit_mul_two_pow, Nat.testBit_and]
  cases hm : M.testBit i
  · obtain ⟨h2, h3⟩ := h1 hm
    simp [h2, h3, hi]
  · by_cases hk : k ≤ i
    · simp [h0 hm hk, hi]
    · simp [hk]

theorem halves_bit (x i : Nat) (hx : x < 4294967296) (hi : i < 32) : (halves x).testBit i = x.testBit (if i < 16 then i + 16 else i - 16) := by
  unfold halves
  rw [Nat.testBit_or, show (65536 : Nat) = 2 ^ 16 from rfl, show (4294967296 : Nat) = 2 ^ 32 from rfl, Nat.testBit_div_two_pow, Nat.testBit_mod_two_pow, Nat.testBit_mul_two_pow]
  by_cases h : i < 16
  · have : ¬ 16 ≤ i := by omega
    simp [h, this]
  · have h2 : 16 ≤ i := by omega
    have h3 : x.testBit (i + 16) = false := Nat.testBit_lt_two_pow (Nat.lt_of_lt_of_le hx (Nat.pow_le_pow_right (n := 2) (by decide) (by omega : 32 ≤ i + 16)))
    simp [h, h2, hi, h3]

theorem m1 : ∀ i, i < 32 → (Nat.testBit 1431655765 i = true → 1 ≤ i → Nat.testBit 1431655765 (i - 1) = false) ∧ (Nat.testBit 1431655765 i = false → 1 ≤ i ∧ Nat.testBit 1431655765 (i - 1) = true) := by decide
theorem m2 : ∀ i, i < 32 → (Nat.testBit 858993459 i = true → 2 ≤ i → Nat.testBit 858993459 (i - 2) = false) ∧ (Nat.testBit 858993459 i = false → 2 ≤ i ∧ Nat.testBit 858993459 (i - 2) = true) := by decide
theorem m4 : ∀ i, i < 32 → (Nat.testBit 252645135 i = true → 4 ≤ i → Nat.testBit 252645135 (i - 4) = false) ∧ (Nat.testBit 252645135 i = false → 4 ≤ i ∧ Nat.testBit 252645135 (i - 4) = true) := by decide
theorem m8 : ∀ i, i < 32 → (Nat.testBit 16711935 i = true → 8 ≤ i → Nat.testBit 16711935 (i - 8) = false) ∧ (Nat.testBit 16711935 i = false → 8 ≤ i ∧ Nat.testBit 16711935 (i - 8) = true) := by decide

theorem road : ∀ i, i < 32 →
    let a := if i < 16 then i + 16 else i - 16
    let b := if Nat.testBit 16711935 a then a + 8 else a - 8
    let c := if Nat.testBit 252645135 b then b + 4 else b - 4
    let d := if Nat.testBit 858993459 c then c + 2 else c - 2
    let e := if Nat.testBit 1431655765 d then d + 1 else d - 1
    a < 32 ∧ b < 32 ∧ c < 32 ∧ d < 32 ∧ e = 31 - i := by decide

theorem rev32_bit (x i : Nat) (hi : i < 32) : (rev32 x).testBit i = x.testBit (31 - i) := by
  obtain ⟨ha, hb, hc, hd, he⟩ := road i hi
  unfold rev32
  rw [halves_bit _ i (sw_lt _ _ _ (by decide)) hi]
  rw [sw_bit _ _ _ _ ha (m8 _ ha).1 (m8 _ ha).2]
  rw [sw_bit _ _ _ _ hb (m4 _ hb).1 (m4 _ hb).2]
  rw [sw_bit _ _ _ _ hc (m2 _ hc).1 (m2 _ hc).2]
  rw [sw_bit _ _ _ _ hd (m1 _ hd).1 (m1 _ hd).2]
  exact congrArg _ he

theorem bit_testBit (x j : Nat) : x / 2 ^ j % 2 = (x.testBit j).toNat := by
  rw [Nat.testBit_eq_decide_div_mod_eq]
  rcases Nat.mod_two_eq_zero_or_one (x / 2 ^ j) with h | h <;> simp [h]

theorem fld_rev32 (s : Nat) : fld 32 (rev32 s) = (fld 32 s).reverse := by
  apply List.ext_getElem
  · rw [List.length_reverse, fld_length, fld_length]
  · intro i h1 h2
    rw [fld_length] at h1
    have e1 := fld_getD 32 (rev32 s) i h1
    have e2 := fld_getD 32 s (32 - 1 - i) (by omega)
    rw [List.getD_eq_getElem?_getD, List.getElem?_eq_getElem (by rw [fld_length]; omega), Option.getD_some] at e1 e2
    rw [e1, List.getElem_reverse]
    simp only [fld_length]
    rw [e2, bit_testBit, rev32_bit s (32 - 1 - i) (by omega), bit_testBit]

theorem num_turn (l : List Nat) (h : Bits l) : num (l.map fun x => 1 - x) + num l + 1 = 2 ^ l.length := by
  induction l with
  | nil => simp [num]
  | cons b l ih =>
    have hb := h b (by simp)
    have := ih (fun x hx => h x (by simp [hx]))
    rw [List.map_cons, num_cons, num_cons, List.length_map, List.length_cons, Nat.pow_succ]
    rcases (show b = 0 ∨ b = 1 by omega) with rfl | rfl <;> simp <;> omega

theorem turned_rev (s : Nat) : turned s = 4294967295 - rev32 s := by
  have h := num_turn (fld 32 s).reverse (bits_reverse (fld_bits 32 s))
  have e : num (fld 32 s).reverse = rev32 s := by
    rw [← fld_rev32, num_fld]; exact Nat.mod_eq_of_lt (rev32_lt s)
  rw [e, List.length_reverse, fld_length] at h
  unfold turned
  omega

/-- A step, as the bit ahead and the one that comes say. -/
theorem stp_eq (n P s b : Nat) (hs : s < 2 ^ (n + 1)) (hb : b < 2) : stp n P s b = if b ^^^ s / 2 ^ n = 1 then 2 * s % 2 ^ (n + 1) ^^^ P else 2 * s % 2 ^ (n + 1) := by
  have hp : 0 < 2 ^ n := Nat.pow_pos (by decide)
  have hq : s / 2 ^ n < 2 := by rw [Nat.div_lt_iff_lt_mul hp]; rw [Nat.pow_succ] at hs; omega
  have e1 : (s ^^^ b * 2 ^ n) / 2 ^ n % 2 = b ^^^ s / 2 ^ n := by
    rw [Nat.xor_div_two_pow, Nat.mul_div_cancel _ hp, Nat.xor_comm]
    exact Nat.mod_eq_of_lt (Nat.xor_lt_two_pow (n := 1) hb hq)
  have e2 : 2 * (s ^^^ b * 2 ^ n) % 2 ^ (n + 1) = 2 * s % 2 ^ (n + 1) := by
    rw [two_xor, Nat.xor_mod_two_pow, show 2 * (b * 2 ^ n) = b * 2 ^ (n + 1) by rw [Nat.pow_succ, Nat.mul_left_comm, Nat.mul_comm 2], Nat.mul_mod_left, Nat.xor_zero]
  unfold stp Z
  rw [e1, e2]

theorem and_low (n s : Nat) (hn : n < 32) : 2 * s % 4294967296 &&& (2 ^ (n + 1) - 1) = 2 * s % 2 ^ (n + 1) := by
  rw [Nat.and_two_pow_sub_one_eq_mod, show (4294967296 : Nat) = 2 ^ 32 from rfl]
  exact Nat.mod_mod_of_dvd _ (Nat.pow_dvd_pow 2 (by omega))

end Go.Proofs.YtohedeeajcdjcaaDoor.Bt
