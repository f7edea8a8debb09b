/- Plain lemmas: bits as numbers, and the order of rows of bytes. -/
import Derived.Test.YtbeeigfcchjdlaaPure
import GoSem.Op.String
namespace Go.Proofs.Ytbeeigfcchjdlaa.Bt

theorem num_append (a b : List Nat) : num (a ++ b) = num a * 2 ^ b.length + num b := by
  have key : ∀ (m : List Nat), num (a ++ m.reverse) = num a * 2 ^ m.reverse.length + num m.reverse := by
    intro m
    induction m with
    | nil => simp [num_nil]
    | cons x xs ih =>
      rw [List.reverse_cons, ← List.append_assoc, num_snoc, num_snoc, ih]
      simp only [List.length_append, List.length_cons, List.length_nil, Nat.pow_add]
      generalize 2 ^ xs.reverse.length = P
      rw [show P * 2 ^ (0 + 1) = P * 2 from rfl, ← Nat.mul_assoc]
      omega
  have := key b.reverse
  rw [List.reverse_reverse] at this
  exact this

theorem num_zeros (l : List Nat) (z : Nat) : num (l ++ List.replicate z 0) = num l * 2 ^ z := by
  have h0 : ∀ z, num (List.replicate z 0) = 0 := by
    intro z
    induction z with
    | zero => rfl
    | succ z ih => rw [List.replicate_succ', num_snoc, ih]
  rw [num_append, h0]; simp

theorem packAt_bit (l : List Nat) (h : Bits l) (j k : Nat) (hk : k < 8) : packAt l j / 2 ^ (7 - k) % 2 = l.getD (8 * j + k) 0 := by
  have h0 := getD_bit l h (8 * j); have h1 := getD_bit l h (8 * j + 1); have h2 := getD_bit l h (8 * j + 2); have h3 := getD_bit l h (8 * j + 3)
  have h4 := getD_bit l h (8 * j + 4); have h5 := getD_bit l h (8 * j + 5); have h6 := getD_bit l h (8 * j + 6); have h7 := getD_bit l h (8 * j + 7)
  unfold packAt
  match k, hk with
  | 0, _ => simp only [Nat.add_zero]; omega
  | 1, _ => omega
  | 2, _ => omega
  | 3, _ => omega
  | 4, _ => omega
  | 5, _ => omega
  | 6, _ => omega
  | 7, _ => simp only [Nat.sub_self, Nat.pow_zero, Nat.div_one]; omega

/-- The bits of the bytes of bits: these, and noughts. -/
theorem unpack_pack (l : List Nat) (h : Bits l) : unpack (pack l) = l ++ List.replicate (8 * ((l.length + 7) / 8) - l.length) 0 := by
  apply List.ext_getElem
  · rw [unpack_length, pack_length]; simp; omega
  · intro i h1 h2
    rw [unpack_length, pack_length] at h1
    have e1 : (unpack (pack l))[i] = (unpack (pack l)).getD i 0 := by
      rw [List.getD_eq_getElem?_getD, List.getElem?_eq_getElem]; rfl
    have hp := pack_length l
    rw [e1, unpack_getD _ _ (by omega), pack_getD l _ (by omega), packAt_bit l h _ _ (Nat.mod_lt _ (by decide))]
    have e2 : 8 * (i / 8) + i % 8 = i := by omega
    rw [e2, List.getD_eq_getElem?_getD]
    by_cases hi : i < l.length
    · rw [List.getElem_append_left hi, List.getElem?_eq_getElem hi]; rfl
    · rw [List.getElem_append_right (by omega), List.getElem?_eq_none (by omega)]; simp

/-- The number of the bytes of a field. -/
theorem num_unpack_pack (w n : Nat) (h : n < 2 ^ w) : num (unpack (pack (fld w n))) = n * 2 ^ (8 * ((w + 7) / 8) - w) := by
  rw [unpack_pack _ (fld_bits w n), num_zeros, num_fld, fld_length, Nat.mod_eq_of_lt h]

def bytesOf (xs : List Nat) : List UInt8 := xs.map UInt8.ofNat

theorem less_num : ∀ (xs ys : List Nat), xs.length = ys.length → (∀ x ∈ xs, x < 256) → (∀ y ∈ ys, y < 256) →
    Op.bytesLess (bytesOf xs) (bytesOf ys) = decide (num (unpack xs) < num (unpack ys))
  | [], [], _, _, _ => by simp [bytesOf, Op.bytesLess]
  | x :: xs, y :: ys, hl, hx, hy => by
    have hl' : xs.length = ys.length := by simpa using hl
    have ih := less_num xs ys hl' (fun a h => hx a (by simp [h])) (fun a h => hy a (by simp [h]))
    have x1 := hx x (by simp)
    have y1 := hy y (by simp)
    simp only [bytesOf, List.map_cons, Op.bytesLess] at ih ⊢
    rw [ih, unpack_cons, unpack_cons, num_append, num_append, num_fld, num_fld, unpack_length, unpack_length, hl']
    rw [show (2 : Nat) ^ 8 = 256 from rfl, Nat.mod_eq_of_lt x1, Nat.mod_eq_of_lt y1]
    have u1 := num_lt (unpack xs) (unpack_bits xs)
    have v1 := num_lt (unpack ys) (unpack_bits ys)
    rw [unpack_length, hl'] at u1
    rw [unpack_length] at v1
    generalize num (unpack xs) = u at *
    generalize num (unpack ys) = v at *
    generalize 2 ^ (8 * ys.length) = P at *
    have e1 : (UInt8.ofNat x < UInt8.ofNat y) ↔ x < y := by
      rw [UInt8.lt_iff_toNat_lt]; simp; omega
    have e2 : (UInt8.ofNat x == UInt8.ofNat y) = decide (x = y) := by
      rw [Bool.eq_iff_iff]; simp [← UInt8.toNat_inj]; omega
    rw [e2, Bool.eq_iff_iff]
    simp only [Bool.or_eq_true, Bool.and_eq_true, decide_eq_true_eq, e1]
    rcases Nat.lt_trichotomy x y with h | h | h
    · have : (x + 1) * P ≤ y * P := Nat.mul_le_mul_right _ h
      rw [Nat.add_mul] at this
      constructor
      · intro _; omega
      · intro _; exact .inl h
    · subst h
      constructor
      · rintro (h | ⟨_, h⟩)
        · omega
        · omega
      · intro _; exact .inr ⟨rfl, by omega⟩
    · have : (y + 1) * P ≤ x * P := Nat.mul_le_mul_right _ h
      rw [Nat.add_mul] at this
      constructor
      · rintro (h | ⟨h, _⟩) <;> omega
      · intro _; omega

theorem pack_byte (l : List Nat) (h : Bits l) : ∀ x ∈ pack l, x < 256 := by
  intro x hx
  obtain ⟨j, _, rfl⟩ := List.mem_map.1 hx
  exact packAt_lt l h j

/-- Of two fields of a width the lesser one's bytes stand ahead. -/
theorem less_fields (w n m : Nat) (hn : n < 2 ^ w) (hm : m < 2 ^ w) : Op.bytesLess (bytesOf (pack (fld w n))) (bytesOf (pack (fld w m))) = decide (n < m) := by
  rw [less_num _ _ (by rw [pack_length, pack_length, fld_length, fld_length]) (pack_byte _ (fld_bits _ _)) (pack_byte _ (fld_bits _ _)), num_unpack_pack w n hn, num_unpack_pack w m hm]
  have hp : 0 < 2 ^ (8 * ((w + 7) / 8) - w) := Nat.pow_pos (by decide)
  rw [Bool.eq_iff_iff]
  simp only [decide_eq_true_eq]
  exact Nat.mul_lt_mul_right hp

theorem eq_fields (w n m : Nat) (hn : n < 2 ^ w) (hm : m < 2 ^ w) : (bytesOf (pack (fld w n)) == bytesOf (pack (fld w m))) = decide (n = m) := by
  rw [Bool.eq_iff_iff]
  simp only [beq_iff_eq, decide_eq_true_eq]
  constructor
  · intro h
    have h1 := less_fields w n m hn hm
    have h2 := less_fields w m n hm hn
    rw [h] at h1
    rw [h] at h2
    rw [h1] at h2
    have : ¬ n < m ∨ ¬ m < n := by omega
    by_cases a : n < m
    · have b : ¬ m < n := by omega
      simp [a, b] at h2
    · by_cases b : m < n
      · simp [a, b] at h2
      · omega
  · intro h; rw [h]

end Go.Proofs.Ytbeeigfcchjdlaa.Bt
