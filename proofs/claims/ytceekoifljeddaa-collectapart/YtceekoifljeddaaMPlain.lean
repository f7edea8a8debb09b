/- Several texts, one behind the other: Pure Order0 FieldPure RsPure RsElim RsSolve RsAns RsDecP SqPure CoPure CoHeld CoDue. -/
import GoSem.Op.String
/- Plain lemmas on rows of bits and bytes: no program is named here. -/
namespace Go.Proofs.Ytceekoifljeddaa.Bt

def Bits (l : List Nat) : Prop := ∀ b ∈ l, b < 2

def fld : Nat → Nat → List Nat
  | 0, _ => []
  | w + 1, n => fld w (n / 2) ++ [n % 2]

def num (l : List Nat) : Nat := l.foldl (fun a b => 2 * a + b) 0

def packAt (l : List Nat) (j : Nat) : Nat :=
  128 * l.getD (8 * j) 0 + 64 * l.getD (8 * j + 1) 0 + 32 * l.getD (8 * j + 2) 0 + 16 * l.getD (8 * j + 3) 0 + 8 * l.getD (8 * j + 4) 0 + 4 * l.getD (8 * j + 5) 0 + 2 * l.getD (8 * j + 6) 0 + l.getD (8 * j + 7) 0

def pack (l : List Nat) : List Nat := (List.range ((l.length + 7) / 8)).map (packAt l)

def unpack (bs : List Nat) : List Nat := bs.flatMap (fld 8)

theorem fld_length (w n : Nat) : (fld w n).length = w := by
  induction w generalizing n with
  | zero => rfl
  | succ w ih => simp [fld, ih]

theorem fld_bits (w n : Nat) : Bits (fld w n) := by
  induction w generalizing n with
  | zero => intro b h; simp [fld] at h
  | succ w ih =>
    intro b h
    rw [fld, List.mem_append] at h
    rcases h with h | h
    · exact ih _ b h
    · simp at h; omega

theorem bits_append {a b : List Nat} (h : Bits a) (k : Bits b) : Bits (a ++ b) := by
  intro x hx; rw [List.mem_append] at hx; exact hx.elim (h x) (k x)

theorem bits_snoc {a : List Nat} (h : Bits a) {b : Nat} (k : b < 2) : Bits (a ++ [b]) :=
  bits_append h (by intro x hx; simp at hx; omega)

theorem bits_nil : Bits [] := by intro b h; simp at h

theorem num_nil : num [] = 0 := rfl

theorem num_snoc (l : List Nat) (b : Nat) : num (l ++ [b]) = 2 * num l + b := by simp [num]

theorem num_fld (w n : Nat) : num (fld w n) = n % 2 ^ w := by
  induction w generalizing n with
  | zero => simp [fld, num, Nat.mod_one]
  | succ w ih =>
    rw [fld, num_snoc, ih, Nat.pow_succ, Nat.mul_comm (2 ^ w) 2, Nat.mod_mul]
    omega

theorem num_lt (l : List Nat) (h : Bits l) : num l < 2 ^ l.length := by
  have key : ∀ (m : List Nat), Bits m.reverse → num m.reverse < 2 ^ m.reverse.length := by
    intro m
    induction m with
    | nil => intro _; simp [num]
    | cons x xs ih =>
      intro hb
      rw [List.reverse_cons] at hb ⊢
      have h1 := ih (fun b hm => hb b (List.mem_append.2 (Or.inl hm)))
      have h2 := hb x (by simp)
      rw [num_snoc]; simp only [List.length_append, List.length_reverse, List.length_cons, List.length_nil, Nat.pow_add] at h1 ⊢
      omega
  have := key l.reverse
  rw [List.reverse_reverse] at this
  exact this h

/-- Put's step: so many bits are written, and one more. -/
theorem fld_step (w n i : Nat) (h : i < w) : fld (i + 1) (n / 2 ^ (w - (i + 1))) = fld i (n / 2 ^ (w - i)) ++ [n / 2 ^ (w - 1 - i) % 2] := by
  rw [fld, Nat.div_div_eq_div_mul, ← Nat.pow_succ]
  have e1 : (w - (i + 1)).succ = w - i := by omega
  have e2 : w - (i + 1) = w - 1 - i := by omega
  rw [e1, e2]

theorem fld_getD (w n i : Nat) (h : i < w) : (fld w n).getD i 0 = n / 2 ^ (w - 1 - i) % 2 := by
  induction w generalizing n i with
  | zero => omega
  | succ w ih =>
    rw [fld, List.getD_eq_getElem?_getD]
    by_cases hi : i < w
    · rw [List.getElem?_append_left (by rw [fld_length]; exact hi), ← List.getD_eq_getElem?_getD, ih (n / 2) i hi, Nat.div_div_eq_div_mul]
      have e : w + 1 - 1 - i = (w - 1 - i) + 1 := by omega
      rw [e, Nat.pow_succ, Nat.mul_comm]
    · have : i = w := by omega
      subst this
      rw [List.getElem?_append_right (by rw [fld_length]; exact Nat.le_refl _)]
      simp [fld_length]

theorem getD_snoc (l : List Nat) (b i : Nat) : (l ++ [b]).getD i 0 = l.getD i 0 + (if i = l.length then b else 0) := by
  simp only [List.getD_eq_getElem?_getD]
  by_cases h : i < l.length
  · rw [List.getElem?_append_left h, if_neg (by omega)]; rfl
  · rw [List.getElem?_append_right (by omega)]
    by_cases e : i = l.length
    · subst e; simp
    · rw [if_neg e]
      have e1 : i - l.length = (i - l.length - 1) + 1 := by omega
      rw [e1]; simp
      rw [List.getElem?_eq_none (by omega)]; rfl

theorem getD_far (l : List Nat) (i : Nat) (h : l.length ≤ i) : l.getD i 0 = 0 := by
  rw [List.getD_eq_getElem?_getD, List.getElem?_eq_none h]; rfl

theorem getD_bit (l : List Nat) (h : Bits l) (i : Nat) : l.getD i 0 < 2 := by
  rw [List.getD_eq_getElem?_getD]
  by_cases hi : i < l.length
  · rw [List.getElem?_eq_getElem hi]; exact h _ (List.getElem_mem hi)
  · rw [List.getElem?_eq_none (by omega)]; decide

theorem packAt_lt (l : List Nat) (h : Bits l) (j : Nat) : packAt l j < 256 := by
  have h0 := getD_bit l h (8 * j); have h1 := getD_bit l h (8 * j + 1); have h2 := getD_bit l h (8 * j + 2); have h3 := getD_bit l h (8 * j + 3)
  have h4 := getD_bit l h (8 * j + 4); have h5 := getD_bit l h (8 * j + 5); have h6 := getD_bit l h (8 * j + 6); have h7 := getD_bit l h (8 * j + 7)
  unfold packAt; omega

theorem pack_length (l : List Nat) : (pack l).length = (l.length + 7) / 8 := by simp [pack]

theorem pack_getD (l : List Nat) (j : Nat) (h : j < (l.length + 7) / 8) : (pack l).getD j 0 = packAt l j := by
  simp [pack, List.getD_eq_getElem?_getD, h]

theorem pack_nil : pack [] = [] := rfl

theorem packAt_snoc (l : List Nat) (b j : Nat) : packAt (l ++ [b]) j = packAt l j + (if j = l.length / 8 then b * 2 ^ (7 - l.length % 8) else 0) := by
  simp only [packAt, getD_snoc]
  by_cases hj : j = l.length / 8
  · rw [if_pos hj]
    have hr : l.length % 8 < 8 := Nat.mod_lt _ (by decide)
    have hl : l.length = 8 * j + l.length % 8 := by omega
    generalize l.length % 8 = r at hr hl ⊢
    rw [hl]
    match r, hr with
    | 0, _ => simp; omega
    | 1, _ => simp; omega
    | 2, _ => simp; omega
    | 3, _ => simp; omega
    | 4, _ => simp; omega
    | 5, _ => simp; omega
    | 6, _ => simp; omega
    | 7, _ => simp; omega
  · rw [if_neg hj, if_neg (by omega), if_neg (by omega), if_neg (by omega), if_neg (by omega), if_neg (by omega), if_neg (by omega), if_neg (by omega), if_neg (by omega)]
    simp

theorem packAt_far (l : List Nat) (j : Nat) (h : (l.length + 7) / 8 ≤ j) : packAt l j = 0 := by
  simp only [packAt]
  rw [getD_far _ _ (by omega), getD_far _ _ (by omega), getD_far _ _ (by omega), getD_far _ _ (by omega), getD_far _ _ (by omega), getD_far _ _ (by omega), getD_far _ _ (by omega), getD_far _ _ (by omega)]

/-- The row ahead of the store: a byte 0 more where the last one is full. -/
theorem pack_zero_new (l : List Nat) (h : l.length % 8 = 0) : pack (l ++ [0]) = pack l ++ [0] := by
  apply List.ext_getElem
  · simp [pack_length]; omega
  · intro i h1 h2
    rw [pack_length] at h1
    simp at h1
    by_cases hi : i < (l.length + 7) / 8
    · rw [List.getElem_append_left (by rw [pack_length]; exact hi)]
      simp [pack, packAt_snoc]
    · rw [List.getElem_append_right (by rw [pack_length]; omega)]
      simp [pack, packAt_snoc]
      exact packAt_far l i (by omega)

theorem pack_zero_old (l : List Nat) (h : ¬ l.length % 8 = 0) : pack (l ++ [0]) = pack l := by
  apply List.ext_getElem
  · simp [pack_length]; omega
  · intro i h1 h2
    simp [pack, packAt_snoc]

theorem pack_set (l : List Nat) (b : Nat) : pack (l ++ [b]) = (pack (l ++ [0])).set (l.length / 8) (packAt l (l.length / 8) + b * 2 ^ (7 - l.length % 8)) := by
  apply List.ext_getElem
  · simp [pack_length]
  · intro i h1 h2
    rw [List.getElem_set]
    by_cases hi : l.length / 8 = i
    · rw [if_pos hi]; simp [pack, packAt_snoc, hi]
    · rw [if_neg hi]; simp [pack, packAt_snoc, Ne.symm hi]

theorem pack_zero_at (l : List Nat) : (pack (l ++ [0])).getD (l.length / 8) 0 = packAt l (l.length / 8) := by
  rw [pack_getD _ _ (by simp; omega), packAt_snoc]; simp

theorem packAt_or (l : List Nat) (b : Nat) (hb : b < 2) : packAt l (l.length / 8) ||| b * 2 ^ (7 - l.length % 8) = packAt l (l.length / 8) + b * 2 ^ (7 - l.length % 8) := by
  have hr : l.length % 8 < 8 := Nat.mod_lt _ (by decide)
  have hl : l.length = 8 * (l.length / 8) + l.length % 8 := by omega
  have key : ∃ y, packAt l (l.length / 8) = 2 ^ (8 - l.length % 8) * y := by
    generalize hj : l.length / 8 = j at *
    have g0 := getD_far l (8 * j); have g1 := getD_far l (8 * j + 1); have g2 := getD_far l (8 * j + 2); have g3 := getD_far l (8 * j + 3)
    have g4 := getD_far l (8 * j + 4); have g5 := getD_far l (8 * j + 5); have g6 := getD_far l (8 * j + 6); have g7 := getD_far l (8 * j + 7)
    generalize l.length % 8 = r at hr hl ⊢
    unfold packAt
    match r, hr with
    | 0, _ => exact ⟨0, by rw [g0 (by omega), g1 (by omega), g2 (by omega), g3 (by omega), g4 (by omega), g5 (by omega), g6 (by omega), g7 (by omega)]⟩
    | 1, _ => exact ⟨l.getD (8 * j) 0, by rw [g1 (by omega), g2 (by omega), g3 (by omega), g4 (by omega), g5 (by omega), g6 (by omega), g7 (by omega)]; simp⟩
    | 2, _ => exact ⟨2 * l.getD (8 * j) 0 + l.getD (8 * j + 1) 0, by rw [g2 (by omega), g3 (by omega), g4 (by omega), g5 (by omega), g6 (by omega), g7 (by omega)]; simp; omega⟩
    | 3, _ => exact ⟨4 * l.getD (8 * j) 0 + 2 * l.getD (8 * j + 1) 0 + l.getD (8 * j + 2) 0, by rw [g3 (by omega), g4 (by omega), g5 (by omega), g6 (by omega), g7 (by omega)]; simp; omega⟩
    | 4, _ => exact ⟨8 * l.getD (8 * j) 0 + 4 * l.getD (8 * j + 1) 0 + 2 * l.getD (8 * j + 2) 0 + l.getD (8 * j + 3) 0, by rw [g4 (by omega), g5 (by omega), g6 (by omega), g7 (by omega)]; simp; omega⟩
    | 5, _ => exact ⟨16 * l.getD (8 * j) 0 + 8 * l.getD (8 * j + 1) 0 + 4 * l.getD (8 * j + 2) 0 + 2 * l.getD (8 * j + 3) 0 + l.getD (8 * j + 4) 0, by rw [g5 (by omega), g6 (by omega), g7 (by omega)]; simp; omega⟩
    | 6, _ => exact ⟨32 * l.getD (8 * j) 0 + 16 * l.getD (8 * j + 1) 0 + 8 * l.getD (8 * j + 2) 0 + 4 * l.getD (8 * j + 3) 0 + 2 * l.getD (8 * j + 4) 0 + l.getD (8 * j + 5) 0, by rw [g6 (by omega), g7 (by omega)]; simp; omega⟩
    | 7, _ => exact ⟨64 * l.getD (8 * j) 0 + 32 * l.getD (8 * j + 1) 0 + 16 * l.getD (8 * j + 2) 0 + 8 * l.getD (8 * j + 3) 0 + 4 * l.getD (8 * j + 4) 0 + 2 * l.getD (8 * j + 5) 0 + l.getD (8 * j + 6) 0, by rw [g7 (by omega)]; simp; omega⟩
  obtain ⟨y, hy⟩ := key
  rw [hy]
  refine (Nat.two_pow_add_eq_or_of_lt ?_ y).symm
  have e : 8 - l.length % 8 = (7 - l.length % 8) + 1 := by omega
  rw [e, Nat.pow_succ]
  have hp : 0 < 2 ^ (7 - l.length % 8) := Nat.pow_pos (by decide)
  rcases (show b = 0 ∨ b = 1 by omega) with rfl | rfl <;> omega

theorem unpack_length (bs : List Nat) : (unpack bs).length = 8 * bs.length := by
  induction bs with
  | nil => rfl
  | cons x xs ih => simp only [unpack, List.flatMap_cons, List.length_append, fld_length, List.length_cons] at *; omega

theorem unpack_bits (bs : List Nat) : Bits (unpack bs) := by
  intro b h; simp only [unpack, List.mem_flatMap] at h
  obtain ⟨x, _, h⟩ := h; exact fld_bits _ _ b h

theorem unpack_cons (x : Nat) (xs : List Nat) : unpack (x :: xs) = fld 8 x ++ unpack xs := by simp [unpack]

theorem unpack_append (a b : List Nat) : unpack (a ++ b) = unpack a ++ unpack b := by simp [unpack]

theorem unpack_getD (bs : List Nat) (i : Nat) (h : i < 8 * bs.length) : (unpack bs).getD i 0 = bs.getD (i / 8) 0 / 2 ^ (7 - i % 8) % 2 := by
  induction bs generalizing i with
  | nil => simp at h
  | cons x xs ih =>
    rw [unpack_cons, List.getD_eq_getElem?_getD]
    by_cases hi : i < 8
    · rw [List.getElem?_append_left (by rw [fld_length]; exact hi), ← List.getD_eq_getElem?_getD, fld_getD 8 x i hi]
      have e1 : i / 8 = 0 := by omega
      have e2 : i % 8 = i := by omega
      rw [e1, e2]; simp
    · rw [List.getElem?_append_right (by rw [fld_length]; omega), fld_length, ← List.getD_eq_getElem?_getD, ih (i - 8) (by simp at h; omega)]
      have e1 : i / 8 = (i - 8) / 8 + 1 := by omega
      have e2 : (i - 8) % 8 = i % 8 := by omega
      rw [e1, e2]; simp

/-- A bit more that is read. -/
theorem num_take_succ (u : List Nat) (pos k : Nat) (h : pos + k < u.length) : num ((u.drop pos).take (k + 1)) = 2 * num ((u.drop pos).take k) + u.getD (pos + k) 0 := by
  rw [List.take_succ_eq_append_getElem (by simp; omega), num_snoc]
  simp [List.getD_eq_getElem?_getD, h]

theorem bits_take {l : List Nat} (h : Bits l) (k : Nat) : Bits (l.take k) := fun b hb => h b (List.mem_of_mem_take hb)
theorem bits_drop {l : List Nat} (h : Bits l) (k : Nat) : Bits (l.drop k) := fun b hb => h b (List.mem_of_mem_drop hb)

theorem num_take_lt (u : List Nat) (hu : Bits u) (pos k : Nat) (hk : k ≤ 32) : num ((u.drop pos).take k) < 2 ^ 32 := by
  refine Nat.lt_of_lt_of_le (num_lt _ (bits_take (bits_drop hu _) _)) (Nat.pow_le_pow_right (by decide) ?_)
  simp; omega

/-- A field as two. -/
theorem fld_split (a b n : Nat) : fld (a + b) n = fld a (n / 2 ^ b) ++ fld b (n % 2 ^ b) := by
  induction b generalizing n with
  | zero => simp [fld]
  | succ b ih =>
    rw [← Nat.add_assoc, fld, ih, fld, Nat.div_div_eq_div_mul, List.append_assoc]
    have e1 : 2 * 2 ^ b = 2 ^ (b + 1) := by rw [Nat.pow_succ, Nat.mul_comm]
    have e2 : n % 2 ^ (b + 1) / 2 = n / 2 % 2 ^ b := by
      rw [← e1, Nat.mod_mul]; omega
    have e3 : n % 2 ^ (b + 1) % 2 = n % 2 := by
      rw [← e1]; exact Nat.mod_mul_right_mod n 2 (2 ^ b)
    rw [e1, e2, e3]

theorem unpack_take_succ (bs : List Nat) (k : Nat) (h : k < bs.length) : unpack (bs.take (k + 1)) = unpack (bs.take k) ++ fld 8 bs[k] := by
  rw [List.take_succ_eq_append_getElem h, unpack_append]
  simp [unpack]

/-- A byte's bits. -/
theorem unpack_chunk (bs : List Nat) (k : Nat) (h : k < bs.length) : ((unpack bs).drop (8 * k)).take 8 = fld 8 bs[k] := by
  have e : unpack bs = unpack (bs.take k) ++ (fld 8 bs[k] ++ unpack (bs.drop (k + 1))) := by
    rw [← unpack_cons, ← unpack_append]
    simp
  have hl : (unpack (bs.take k)).length = 8 * k := by rw [unpack_length]; simp; omega
  rw [e, List.drop_append_of_le_length (by omega), ← hl, List.drop_length, List.nil_append, List.take_append_of_le_length (by rw [fld_length]; exact Nat.le_refl _)]
  exact List.take_of_length_le (by rw [fld_length]; exact Nat.le_refl _)

theorem byte_sum : ∀ x, x < 256 → 128 * (x / 128 % 2) + 64 * (x / 64 % 2) + 32 * (x / 32 % 2) + 16 * (x / 16 % 2) + 8 * (x / 8 % 2) + 4 * (x / 4 % 2) + 2 * (x / 2 % 2) + x / 1 % 2 = x := by
  set_option maxRecDepth 10000 in decide

theorem pack_unpack (bs : List Nat) (h : ∀ b ∈ bs, b < 256) : pack (unpack bs) = bs := by
  apply List.ext_getElem
  · rw [pack_length, unpack_length]; omega
  · intro j h1 h2
    have hb := h bs[j] (List.getElem_mem h2)
    simp only [pack, List.getElem_map, List.getElem_range, packAt]
    have g : ∀ k, k < 8 → (unpack bs).getD (8 * j + k) 0 = bs[j] / 2 ^ (7 - k) % 2 := by
      intro k hk
      rw [unpack_getD bs _ (by omega)]
      have e1 : (8 * j + k) / 8 = j := by omega
      have e2 : (8 * j + k) % 8 = k := by omega
      rw [e1, e2, List.getD_eq_getElem?_getD, List.getElem?_eq_getElem h2]; rfl
    have g0 := g 0 (by omega); have g1 := g 1 (by omega); have g2 := g 2 (by omega); have g3 := g 3 (by omega)
    have g4 := g 4 (by omega); have g5 := g 5 (by omega); have g6 := g 6 (by omega); have g7 := g 7 (by omega)
    simp only [Nat.add_zero] at g0
    rw [g0, g1, g2, g3, g4, g5, g6, g7]
    exact byte_sum bs[j] hb

end Go.Proofs.Ytceekoifljeddaa.Bt

/- Plain lemmas: bits as numbers, and the order of rows of bytes. -/
namespace Go.Proofs.Ytceekoifljeddaa.Bt

theorem num_append (a b : List Nat) : num (a ++ b) = num a * 2 ^ b.length + num b := by
  have key : ∀ (m : List Nat), num (a ++ m.reverse) = num a * 2 ^ m.reverse.length + num m.reverse := by
    intro m
    induction m with
    | nil => simp [num_nil]
    | cons x xs ih =>
      rw [List.reverse_cons, ← List.append_assoc, num_snoc, num_snoc, ih]
      simp only [List.length_append, List.length_cons, List.length_nil, Nat.pow_add]
      generalize 2 ^ xs.reverse.length = P
      rw [show P * 2 ^ (0 + 1) = P * 2 from rfl, ← Nat.mul_assoc]
      omega
  have := key b.reverse
  rw [List.reverse_reverse] at this
  exact this

theorem num_zeros (l : List Nat) (z : Nat) : num (l ++ List.replicate z 0) = num l * 2 ^ z := by
  have h0 : ∀ z, num (List.replicate z 0) = 0 := by
    intro z
    induction z with
    | zero => rfl
    | succ z ih => rw [List.replicate_succ', num_snoc, ih]
  rw [num_append, h0]; simp

theorem packAt_bit (l : List Nat) (h : Bits l) (j k : Nat) (hk : k < 8) : packAt l j / 2 ^ (7 - k) % 2 = l.getD (8 * j + k) 0 := by
  have h0 := getD_bit l h (8 * j); have h1 := getD_bit l h (8 * j + 1); have h2 := getD_bit l h (8 * j + 2); have h3 := getD_bit l h (8 * j + 3)
  have h4 := getD_bit l h (8 * j + 4); have h5 := getD_bit l h (8 * j + 5); have h6 := getD_bit l h (8 * j + 6); have h7 := getD_bit l h (8 * j + 7)
  unfold packAt
  match k, hk with
  | 0, _ => simp only [Nat.add_zero]; omega
  | 1, _ => omega
  | 2, _ => omega
  | 3, _ => omega
  | 4, _ => omega
  | 5, _ => omega
  | 6, _ => omega
  | 7, _ => simp only [Nat.sub_self, Nat.pow_zero, Nat.div_one]; omega

/-- The bits of the bytes of bits: these, and noughts. -/
theorem unpack_pack (l : List Nat) (h : Bits l) : unpack (pack l) = l ++ List.replicate (8 * ((l.length + 7) / 8) - l.length) 0 := by
  apply List.ext_getElem
  · rw [unpack_length, pack_length]; simp; omega
  · intro i h1 h2
    rw [unpack_length, pack_length] at h1
    have e1 : (unpack (pack l))[i] = (unpack (pack l)).getD i 0 := by
      rw [List.getD_eq_getElem?_getD, List.getElem?_eq_getElem]; rfl
    have hp := pack_length l
    rw [e1, unpack_getD _ _ (by omega), pack_getD l _ (by omega), packAt_bit l h _ _ (Nat.mod_lt _ (by decide))]
    have e2 : 8 * (i / 8) + i % 8 = i := by omega
    rw [e2, List.getD_eq_getElem?_getD]
    by_cases hi : i < l.length
    · rw [List.getElem_append_left hi, List.getElem?_eq_getElem hi]; rfl
    · rw [List.getElem_append_right (by omega), List.getElem?_eq_none (by omega)]; simp

/-- The number of the bytes of a field. -/
theorem num_unpack_pack (w n : Nat) (h : n < 2 ^ w) : num (unpack (pack (fld w n))) = n * 2 ^ (8 * ((w + 7) / 8) - w) := by
  rw [unpack_pack _ (fld_bits w n), num_zeros, num_fld, fld_length, Nat.mod_eq_of_lt h]

def bytesOf (xs : List Nat) : List UInt8 := xs.map UInt8.ofNat

theorem less_num : ∀ (xs ys : List Nat), xs.length = ys.length → (∀ x ∈ xs, x < 256) → (∀ y ∈ ys, y < 256) →
    Op.bytesLess (bytesOf xs) (bytesOf ys) = decide (num (unpack xs) < num (unpack ys))
  | [], [], _, _, _ => by simp [bytesOf, Op.bytesLess]
  | x :: xs, y :: ys, hl, hx, hy => by
    have hl' : xs.length = ys.length := by simpa using hl
    have ih := less_num xs ys hl' (fun a h => hx a (by simp [h])) (fun a h => hy a (by simp [h]))
    have x1 := hx x (by simp)
    have y1 := hy y (by simp)
    simp only [bytesOf, List.map_cons, Op.bytesLess] at ih ⊢
    rw [ih, unpack_cons, unpack_cons, num_append, num_append, num_fld, num_fld, unpack_length, unpack_length, hl']
    rw [show (2 : Nat) ^ 8 = 256 from rfl, Nat.mod_eq_of_lt x1, Nat.mod_eq_of_lt y1]
    have u1 := num_lt (unpack xs) (unpack_bits xs)
    have v1 := num_lt (unpack ys) (unpack_bits ys)
    rw [unpack_length, hl'] at u1
    rw [unpack_length] at v1
    generalize num (unpack xs) = u at *
    generalize num (unpack ys) = v at *
    generalize 2 ^ (8 * ys.length) = P at *
    have e1 : (UInt8.ofNat x < UInt8.ofNat y) ↔ x < y := by
      rw [UInt8.lt_iff_toNat_lt]; simp; omega
    have e2 : (UInt8.ofNat x == UInt8.ofNat y) = decide (x = y) := by
      rw [Bool.eq_iff_iff]; simp [← UInt8.toNat_inj]; omega
    rw [e2, Bool.eq_iff_iff]
    simp only [Bool.or_eq_true, Bool.and_eq_true, decide_eq_true_eq, e1]
    rcases Nat.lt_trichotomy x y with h | h | h
    · have : (x + 1) * P ≤ y * P := Nat.mul_le_mul_right _ h
      rw [Nat.add_mul] at this
      constructor
      · intro _; omega
      · intro _; exact .inl h
    · subst h
      constructor
      · rintro (h | ⟨_, h⟩)
        · omega
        · omega
      · intro _; exact .inr ⟨rfl, by omega⟩
    · have : (y + 1) * P ≤ x * P := Nat.mul_le_mul_right _ h
      rw [Nat.add_mul] at this
      constructor
      · rintro (h | ⟨h, _⟩) <;> omega
      · intro _; omega

theorem pack_byte (l : List Nat) (h : Bits l) : ∀ x ∈ pack l, x < 256 := by
  intro x hx
  obtain ⟨j, _, rfl⟩ := List.mem_map.1 hx
  exact packAt_lt l h j

/-- Of two fields of a width the lesser one's bytes stand ahead. -/
theorem less_fields (w n m : Nat) (hn : n < 2 ^ w) (hm : m < 2 ^ w) : Op.bytesLess (bytesOf (pack (fld w n))) (bytesOf (pack (fld w m))) = decide (n < m) := by
  rw [less_num _ _ (by rw [pack_length, pack_length, fld_length, fld_length]) (pack_byte _ (fld_bits _ _)) (pack_byte _ (fld_bits _ _)), num_unpack_pack w n hn, num_unpack_pack w m hm]
  have hp : 0 < 2 ^ (8 * ((w + 7) / 8) - w) := Nat.pow_pos (by decide)
  rw [Bool.eq_iff_iff]
  simp only [decide_eq_true_eq]
  exact Nat.mul_lt_mul_right hp

theorem eq_fields (w n m : Nat) (hn : n < 2 ^ w) (hm : m < 2 ^ w) : (bytesOf (pack (fld w n)) == bytesOf (pack (fld w m))) = decide (n = m) := by
  rw [Bool.eq_iff_iff]
  simp only [beq_iff_eq, decide_eq_true_eq]
  constructor
  · intro h
    have h1 := less_fields w n m hn hm
    have h2 := less_fields w m n hm hn
    rw [h] at h1
    rw [h] at h2
    rw [h1] at h2
    have : ¬ n < m ∨ ¬ m < n := by omega
    by_cases a : n < m
    · have b : ¬ m < n := by omega
      simp [a, b] at h2
    · by_cases b : m < n
      · simp [a, b] at h2
      · omega
  · intro h; rw [h]

end Go.Proofs.Ytceekoifljeddaa.Bt

/- Plain: GF(256), bytes as polynomials modulo 11d; no program is named here. -/
namespace Go.Proofs.Ytceekoifljeddaa.Bt

/-- Times 2. -/
def xt (x : Nat) : Nat := if x < 128 then 2 * x else (2 * x) ^^^ 285

/-- Times 2, n times. -/
def xtn : Nat → Nat → Nat
  | 0, x => x
  | n + 1, x => xt (xtn n x)

/-- What the first n bits of b make of a. -/
def gm : Nat → Nat → Nat → Nat
  | 0, _, _ => 0
  | n + 1, a, b => gm n a b ^^^ (if b / 2 ^ n % 2 = 1 then xtn n a else 0)

/-- The product. -/
def gmul (a b : Nat) : Nat := gm 8 a b

theorem all_lt {p : Nat → Bool} {n : Nat} (h : (List.range n).all p = true) : ∀ x, x < n → p x = true := fun x hx => List.all_eq_true.1 h x (List.mem_range.2 hx)

theorem xt_lt {x : Nat} (h : x < 256) : xt x < 256 := by
  have := all_lt (p := fun x => decide (xt x < 256)) (n := 256) (by decide +kernel) x h
  simpa using this

theorem xt_parts {x : Nat} (h : x < 256) : xt x = (2 * (x % 128)) ^^^ (if x / 128 % 2 = 1 then 29 else 0) := by
  have := all_lt (p := fun x => decide (xt x = (2 * (x % 128)) ^^^ (if x / 128 % 2 = 1 then 29 else 0))) (n := 256) (by decide +kernel) x h
  simpa using this

theorem xor_bit (x y k : Nat) : (x ^^^ y) / 2 ^ k % 2 = (x / 2 ^ k % 2) ^^^ (y / 2 ^ k % 2) := by
  have h := Nat.testBit_xor (x := x) (y := y) (i := k)
  simp only [Nat.testBit_eq_decide_div_mod_eq] at h
  have a : (x ^^^ y) / 2 ^ k % 2 < 2 := Nat.mod_lt _ (by decide)
  have b : x / 2 ^ k % 2 < 2 := Nat.mod_lt _ (by decide)
  have c : y / 2 ^ k % 2 < 2 := Nat.mod_lt _ (by decide)
  generalize (x ^^^ y) / 2 ^ k % 2 = u at h a ⊢
  generalize x / 2 ^ k % 2 = v at h b ⊢
  generalize y / 2 ^ k % 2 = z at h c ⊢
  match u, v, z, a, b, c with
  | 0, 0, 0, _, _, _ => rfl
  | 0, 0, 1, _, _, _ => simp at h
  | 0, 1, 0, _, _, _ => simp at h
  | 0, 1, 1, _, _, _ => rfl
  | 1, 0, 0, _, _, _ => simp at h
  | 1, 0, 1, _, _, _ => rfl
  | 1, 1, 0, _, _, _ => rfl
  | 1, 1, 1, _, _, _ => simp at h

theorem bit_two (x k : Nat) : x / 2 ^ k % 2 = 0 ∨ x / 2 ^ k % 2 = 1 := by
  have : x / 2 ^ k % 2 < 2 := Nat.mod_lt _ (by decide)
  omega

theorem xor_lt8 {x y : Nat} (hx : x < 256) (hy : y < 256) : x ^^^ y < 256 := Nat.xor_lt_two_pow (n := 8) hx hy

theorem xor4 (a b c d : Nat) : (a ^^^ b) ^^^ (c ^^^ d) = (a ^^^ c) ^^^ (b ^^^ d) := by
  rw [Nat.xor_assoc, ← Nat.xor_assoc b c d, Nat.xor_comm b c, Nat.xor_assoc c b d, ← Nat.xor_assoc]

theorem two_xor (x y : Nat) : 2 * (x ^^^ y) = 2 * x ^^^ 2 * y := by
  have h := Nat.shiftLeft_xor_distrib (a := x) (b := y) (i := 1)
  simp only [Nat.shiftLeft_eq, Nat.pow_one] at h
  rw [Nat.mul_comm, h, Nat.mul_comm x, Nat.mul_comm y]

/-- What hangs on a bit goes over exclusive or. -/
theorem sel_xor (x y k v : Nat) : (if (x ^^^ y) / 2 ^ k % 2 = 1 then v else 0) = (if x / 2 ^ k % 2 = 1 then v else 0) ^^^ (if y / 2 ^ k % 2 = 1 then v else 0) := by
  rw [xor_bit]
  rcases bit_two x k with h | h <;> rcases bit_two y k with g | g <;> rw [h, g] <;> simp

theorem xt_xor {x y : Nat} (hx : x < 256) (hy : y < 256) : xt (x ^^^ y) = xt x ^^^ xt y := by
  rw [xt_parts hx, xt_parts hy, xt_parts (xor_lt8 hx hy), xor4]
  have e1 : (x ^^^ y) % 128 = x % 128 ^^^ y % 128 := Nat.xor_mod_two_pow (n := 7)
  have e2 := sel_xor x y 7 29
  rw [show (2 : Nat) ^ 7 = 128 from rfl] at e2
  rw [e1, e2, two_xor]

theorem xt_zero : xt 0 = 0 := rfl

theorem xtn_lt {x : Nat} (h : x < 256) (n : Nat) : xtn n x < 256 := by
  induction n with
  | zero => exact h
  | succ n ih => exact xt_lt ih

theorem xtn_zero (n : Nat) : xtn n 0 = 0 := by
  induction n with
  | zero => rfl
  | succ n ih => rw [xtn, ih]; rfl

theorem xtn_xor {x y : Nat} (hx : x < 256) (hy : y < 256) (n : Nat) : xtn n (x ^^^ y) = xtn n x ^^^ xtn n y := by
  induction n with
  | zero => rfl
  | succ n ih => rw [xtn, ih, xt_xor (xtn_lt hx n) (xtn_lt hy n)]; rfl

theorem xtn_add (m n x : Nat) : xtn (m + n) x = xtn m (xtn n x) := by
  induction m with
  | zero => rw [Nat.zero_add]; rfl
  | succ m ih => rw [Nat.succ_add, xtn, ih]; rfl

theorem xtn_xt (n x : Nat) : xtn n (xt x) = xt (xtn n x) := by
  have := xtn_add n 1 x
  rw [xtn] at this
  exact this.symm

theorem gm_lt {a : Nat} (h : a < 256) (n b : Nat) : gm n a b < 256 := by
  induction n with
  | zero => show 0 < 256; decide
  | succ n ih =>
    rw [gm]
    split
    · exact xor_lt8 ih (xtn_lt h n)
    · exact xor_lt8 ih (by decide)

theorem gmul_lt {a : Nat} (h : a < 256) (b : Nat) : gmul a b < 256 := gm_lt h 8 b

theorem gm_xor_left {a c : Nat} (ha : a < 256) (hc : c < 256) (n b : Nat) : gm n (a ^^^ c) b = gm n a b ^^^ gm n c b := by
  induction n with
  | zero => show 0 = 0 ^^^ 0; decide
  | succ n ih =>
    rw [gm, gm, gm, ih, xor4, xtn_xor ha hc]
    split <;> simp

theorem gm_xor_right (n a b c : Nat) : gm n a (b ^^^ c) = gm n a b ^^^ gm n a c := by
  induction n with
  | zero => show 0 = 0 ^^^ 0; decide
  | succ n ih => rw [gm, gm, gm, ih, xor4, sel_xor]

theorem gm_xt {a : Nat} (ha : a < 256) (n b : Nat) : gm n (xt a) b = xt (gm n a b) := by
  induction n with
  | zero => rfl
  | succ n ih =>
    rw [gm, gm, ih, xtn_xt]
    split
    · rw [xt_xor (gm_lt ha n b) (xtn_lt ha n)]
    · rw [xt_xor (gm_lt ha n b) (by decide)]; rfl

theorem gm_xtn {a : Nat} (ha : a < 256) (k n b : Nat) : gm n (xtn k a) b = xtn k (gm n a b) := by
  induction k with
  | zero => rfl
  | succ k ih => rw [xtn, gm_xt (xtn_lt ha k), ih]; rfl

theorem gm_zero (n b : Nat) : gm n 0 b = 0 := by
  induction n with
  | zero => rfl
  | succ n ih => rw [gm, ih, xtn_zero]; split <;> rfl

theorem gmul_zero_left (b : Nat) : gmul 0 b = 0 := gm_zero 8 b

/-- A sum of shifts, multiplied. -/
theorem gm_gm {x : Nat} (hx : x < 256) (n b c : Nat) : gmul (gm n x c) b = gm n (gmul x b) c := by
  induction n with
  | zero => exact gmul_zero_left b
  | succ n ih =>
    rw [gm, gm]
    unfold gmul at ih ⊢
    rw [gm_xor_left (gm_lt hx n c) (by split; exact xtn_lt hx n; decide), ih]
    split
    · rw [gm_xtn hx]
    · rw [gm_zero]

theorem gmul_one_left {b : Nat} (h : b < 256) : gmul 1 b = b := by
  have := all_lt (p := fun b => decide (gmul 1 b = b)) (n := 256) (by decide +kernel) b h
  simpa using this

theorem gmul_comm {a b : Nat} (ha : a < 256) (hb : b < 256) : gmul a b = gmul b a := by
  have h := gm_gm (x := 1) (by decide) 8 b a
  change gmul (gmul 1 a) b = gm 8 (gmul 1 b) a at h
  rw [gmul_one_left ha, gmul_one_left hb] at h
  exact h

theorem gmul_right_comm {a b c : Nat} (ha : a < 256) : gmul (gmul a c) b = gmul (gmul a b) c := gm_gm ha 8 b c

theorem gmul_assoc {a b c : Nat} (ha : a < 256) (hb : b < 256) : gmul (gmul a b) c = gmul a (gmul b c) := by
  rw [gmul_comm ha (gmul_lt hb c), gmul_right_comm hb, gmul_comm hb ha]

theorem gmul_xor (a b c : Nat) : gmul a (b ^^^ c) = gmul a b ^^^ gmul a c := gm_xor_right 8 a b c

theorem gmul_one {a : Nat} (ha : a < 256) : gmul a 1 = a := by rw [gmul_comm ha (by decide), gmul_one_left ha]

theorem gmul_zero {a : Nat} (ha : a < 256) : gmul a 0 = 0 := by rw [gmul_comm ha (by decide), gmul_zero_left]

/-- The powers of 2. -/
def pw (i : Nat) : Nat := xtn i 1

theorem pw_lt (i : Nat) : pw i < 256 := xtn_lt (by decide) i

theorem pw_gmul {b : Nat} (hb : b < 256) (i : Nat) : gmul (pw i) b = xtn i b := by
  unfold pw gmul
  rw [gm_xtn (by decide)]
  congr 1
  exact gmul_one_left hb

theorem pw_add (i j : Nat) : gmul (pw i) (pw j) = pw (i + j) := by
  rw [pw_gmul (pw_lt j)]
  exact (xtn_add i j 1).symm

theorem pw_succ (i : Nat) : pw (i + 1) = xt (pw i) := rfl

/-- The powers one behind the other, reckoned quickly. -/
def pws : Nat → Nat → List Nat
  | 0, _ => []
  | n + 1, p => p :: pws n (xt p)

theorem pws_getD (n p i : Nat) (h : i < n) : (pws n p).getD i 0 = xtn i p := by
  induction n generalizing p i with
  | zero => omega
  | succ n ih =>
    cases i with
    | zero => rfl
    | succ i =>
      rw [pws, List.getD_cons_succ, ih (xt p) i (by omega), xtn_xt]; rfl

theorem pw_255 : pw 255 = 1 := by decide +kernel

theorem pw_mod (i : Nat) : pw i = pw (i % 255) := by
  have key : ∀ k r, pw (255 * k + r) = pw r := by
    intro k r
    induction k with
    | zero => simp
    | succ k ih =>
      rw [show 255 * (k + 1) + r = 255 + (255 * k + r) from by omega, ← pw_add, pw_255, ih, gmul_one_left (pw_lt r)]
  have := key (i / 255) (i % 255)
  rw [Nat.div_add_mod] at this
  exact this

/-- The least power of 2 that a byte is; 255 of 0. -/
def lgo : Nat → Nat → Nat → Nat → Nat
  | 0, _, i, _ => i
  | n + 1, p, i, a => if p = a then i else lgo n (xt p) (i + 1) a

def lg (a : Nat) : Nat := lgo 255 1 0 a

theorem lg_facts : ((List.range 256).all fun a => decide (a = 0) || (decide (lg a < 255) && decide ((pws 255 1).getD (lg a) 0 = a))) = true := by decide +kernel

theorem lg_lt {a : Nat} (h : a < 256) (h0 : a ≠ 0) : lg a < 255 := by
  have := all_lt lg_facts a h
  simp only [Bool.or_eq_true, Bool.and_eq_true, decide_eq_true_eq] at this
  omega

theorem pw_lg {a : Nat} (h : a < 256) (h0 : a ≠ 0) : pw (lg a) = a := by
  have := all_lt lg_facts a h
  simp only [Bool.or_eq_true, Bool.and_eq_true, decide_eq_true_eq] at this
  rcases this with h1 | ⟨h1, h2⟩
  · exact absurd h1 h0
  · rw [pws_getD 255 1 _ h1] at h2; exact h2

theorem lg_pws : ((List.range 255).all fun i => decide (lg ((pws 255 1).getD i 0) = i)) = true := by decide +kernel

theorem lg_pw {i : Nat} (h : i < 255) : lg (pw i) = i := by
  have := all_lt lg_pws i h
  simp only [decide_eq_true_eq] at this
  rwa [pws_getD 255 1 i h] at this

theorem pw_ne (i : Nat) : pw i ≠ 0 := by
  rw [pw_mod]
  have hi : i % 255 < 255 := Nat.mod_lt _ (by decide)
  have := all_lt (p := fun i => decide ((pws 255 1).getD i 0 ≠ 0)) (n := 255) (by decide +kernel) (i % 255) hi
  simp only [decide_eq_true_eq] at this
  rwa [pws_getD 255 1 _ hi] at this

theorem pw_inj {i j : Nat} (hi : i < 255) (hj : j < 255) (h : pw i = pw j) : i = j := by
  rw [← lg_pw hi, h, lg_pw hj]

theorem gmul_lg {a b : Nat} (ha : a < 256) (hb : b < 256) (a0 : a ≠ 0) (b0 : b ≠ 0) : gmul a b = pw (lg a + lg b) := by
  rw [← pw_add, pw_lg ha a0, pw_lg hb b0]

theorem gmul_ne {a b : Nat} (ha : a < 256) (hb : b < 256) (a0 : a ≠ 0) (b0 : b ≠ 0) : gmul a b ≠ 0 := by
  rw [gmul_lg ha hb a0 b0]; exact pw_ne _

theorem lg_gmul {a b : Nat} (ha : a < 256) (hb : b < 256) (a0 : a ≠ 0) (b0 : b ≠ 0) : lg (gmul a b) = (lg a + lg b) % 255 := by
  rw [gmul_lg ha hb a0 b0, pw_mod, lg_pw (Nat.mod_lt _ (by decide))]

/-- The inverse; 0 of 0. -/
def ginv (a : Nat) : Nat := if a = 0 then 0 else pw (255 - lg a)

theorem ginv_lt (a : Nat) : ginv a < 256 := by
  unfold ginv; split
  · decide
  · exact pw_lt _

theorem ginv_mul {a : Nat} (ha : a < 256) (a0 : a ≠ 0) : gmul a (ginv a) = 1 := by
  have h := lg_lt ha a0
  unfold ginv
  rw [if_neg a0]
  conv => lhs; arg 1; rw [← pw_lg ha a0]
  rw [pw_add, show lg a + (255 - lg a) = 255 from by omega, pw_255]

theorem ginv_ne {a : Nat} (ha : a < 256) (a0 : a ≠ 0) : ginv a ≠ 0 := by
  intro h
  have := ginv_mul ha a0
  rw [h, gmul_zero ha] at this
  cases this

theorem gmul_cancel {a b c : Nat} (ha : a < 256) (hb : b < 256) (hc : c < 256) (a0 : a ≠ 0) (h : gmul a b = gmul a c) : b = c := by
  have e : ∀ x, x < 256 → gmul (ginv a) (gmul a x) = x := fun x hx => by
    rw [← gmul_assoc (ginv_lt a) ha, gmul_comm (ginv_lt a) ha, ginv_mul ha a0, gmul_one_left hx]
  rw [← e b hb, h, e c hc]

/-- The inverse is the only one. -/
theorem ginv_only {a b : Nat} (ha : a < 256) (hb : b < 256) (h : gmul a b = 1) : b = ginv a := by
  have a0 : a ≠ 0 := fun e => by rw [e, gmul_zero_left] at h; cases h
  exact gmul_cancel ha hb (ginv_lt a) a0 (h.trans (ginv_mul ha a0).symm)

/-- The product of n times a byte. -/
def gpow (a : Nat) : Nat → Nat
  | 0 => 1
  | n + 1 => gmul (gpow a n) a

theorem gpow_lt {a : Nat} (_ha : a < 256) (n : Nat) : gpow a n < 256 := by
  induction n with
  | zero => show 1 < 256; decide
  | succ n ih => exact gmul_lt ih a

theorem gpow_lg {a : Nat} (ha : a < 256) (a0 : a ≠ 0) (n : Nat) : gpow a n = pw (lg a * n) := by
  induction n with
  | zero => rfl
  | succ n ih =>
    rw [gpow, ih]
    conv => lhs; arg 2; rw [← pw_lg ha a0]
    rw [pw_add]; congr 1

theorem gpow_zero {n : Nat} (h : 0 < n) : gpow 0 n = 0 := by
  cases n with
  | zero => omega
  | succ n => rw [gpow, gmul_zero (gpow_lt (by decide) n)]

theorem gpow_add {a : Nat} (ha : a < 256) (m n : Nat) : gmul (gpow a m) (gpow a n) = gpow a (m + n) := by
  induction n with
  | zero => exact gmul_one (gpow_lt ha m)
  | succ n ih => rw [gpow, ← gmul_assoc (gpow_lt ha m) (gpow_lt ha n), ih]; rfl

theorem gpow_two (n : Nat) : gpow 2 n = pw n := by
  rw [gpow_lg (by decide) (by decide), show lg 2 = 1 from by decide +kernel, Nat.one_mul]

/-- Squares. -/
theorem gsq_xor {a b : Nat} (ha : a < 256) (hb : b < 256) : gmul (a ^^^ b) (a ^^^ b) = gmul a a ^^^ gmul b b := by
  rw [gmul_xor]
  have h1 : gmul (a ^^^ b) a = gmul a a ^^^ gmul b a := gm_xor_left ha hb 8 a
  have h2 : gmul (a ^^^ b) b = gmul a b ^^^ gmul b b := gm_xor_left ha hb 8 b
  rw [h1, h2, gmul_comm hb ha, Nat.xor_assoc, ← Nat.xor_assoc (gmul a b), Nat.xor_self, Nat.zero_xor]

theorem gsq_inj {a b : Nat} (ha : a < 256) (hb : b < 256) (h : gmul a a = gmul b b) : a = b := by
  have e : gmul (a ^^^ b) (a ^^^ b) = 0 := by rw [gsq_xor ha hb, h, Nat.xor_self]
  have hx := xor_lt8 ha hb
  by_cases h0 : a ^^^ b = 0
  · have : a ^^^ (a ^^^ b) = a := by rw [h0, Nat.xor_zero]
    rw [← Nat.xor_assoc, Nat.xor_self, Nat.zero_xor] at this
    exact this.symm
  · exact absurd e (gmul_ne hx hx h0 h0)

/-- The product as a polynomial, not yet modulo 11d. -/
def raw : Nat → Nat → Nat → Nat
  | 0, _, _ => 0
  | n + 1, a, b => raw n a b ^^^ (if b / 2 ^ n % 2 = 1 then a * 2 ^ n else 0)

/-- A step of the division: the bit i goes. -/
def bst (i p : Nat) : Nat := p ^^^ (if p / 2 ^ i % 2 = 1 then 285 * 2 ^ (i - 8) else 0)

/-- The steps from the bit 15 down, n of them. -/
def bred : Nat → Nat → Nat
  | 0, p => p
  | n + 1, p => bst (15 - n) (bred n p)

theorem bst_xor (i p q : Nat) : bst i (p ^^^ q) = bst i p ^^^ bst i q := by
  unfold bst
  rw [sel_xor, xor4]

theorem bred_xor (n p q : Nat) : bred n (p ^^^ q) = bred n p ^^^ bred n q := by
  induction n with
  | zero => rfl
  | succ n ih => rw [bred, ih, bst_xor]; rfl

theorem bred_zero (n : Nat) : bred n 0 = 0 := by
  induction n with
  | zero => rfl
  | succ n ih => rw [bred, ih]; unfold bst; simp

theorem bred_shift {a : Nat} (h : a < 256) (n : Nat) (hn : n < 8) : bred 8 (a * 2 ^ n) = xtn n a := by
  have h1 := all_lt (p := fun a => (List.range 8).all fun n => decide (bred 8 (a * 2 ^ n) = xtn n a)) (n := 256) (by decide +kernel) a h
  have h2 := all_lt h1 n hn
  simpa using h2

theorem bred_raw {a : Nat} (h : a < 256) (b n : Nat) (hn : n ≤ 8) : bred 8 (raw n a b) = gm n a b := by
  induction n with
  | zero => exact bred_zero 8
  | succ n ih =>
    rw [raw, gm, bred_xor, ih (by omega)]
    split
    · rw [bred_shift h n (by omega)]
    · rw [bred_zero]

theorem raw_lt {a : Nat} (h : a < 256) (b n : Nat) (hn : n ≤ 8) : raw n a b < 2 ^ (8 + n) := by
  induction n with
  | zero => show 0 < 2 ^ 8; decide
  | succ n ih =>
    have h1 := ih (by omega)
    have e : 2 ^ (8 + (n + 1)) = 2 * 2 ^ (8 + n) := by rw [show 8 + (n + 1) = (8 + n) + 1 from rfl, Nat.pow_succ, Nat.mul_comm]
    rw [raw]
    refine Nat.xor_lt_two_pow (by omega) ?_
    split
    · have e2 : 2 ^ (8 + n) = 256 * 2 ^ n := by rw [Nat.pow_add]
      have : a * 2 ^ n < 256 * 2 ^ n := Nat.mul_lt_mul_of_pos_right h (Nat.pow_pos (by decide))
      omega
    · exact Nat.pow_pos (by decide)

/-- A step's bit is gone behind it. -/
theorem bst_lt {i p : Nat} (h8 : 8 ≤ i) (hp : p < 2 ^ (i + 1)) : bst i p < 2 ^ i := by
  have e1 : 2 ^ (i + 1) = 2 * 2 ^ i := by rw [Nat.pow_succ, Nat.mul_comm]
  have e2 : 285 * 2 ^ (i - 8) = 2 ^ i ^^^ (29 * 2 ^ (i - 8)) := by
    have k : 2 ^ i = 256 * 2 ^ (i - 8) := by
      rw [show (256 : Nat) = 2 ^ 8 from rfl, ← Nat.pow_add]; congr 1; omega
    have s := Nat.shiftLeft_xor_distrib (a := 256) (b := 29) (i := i - 8)
    simp only [Nat.shiftLeft_eq] at s
    rw [k, ← s]
    rfl
  have h29 : 29 * 2 ^ (i - 8) < 2 ^ i := by
    have k : 2 ^ i = 256 * 2 ^ (i - 8) := by
      rw [show (256 : Nat) = 2 ^ 8 from rfl, ← Nat.pow_add]; congr 1; omega
    have := Nat.pow_pos (n := i - 8) (show 0 < 2 by decide)
    omega
  have hpos := Nat.pow_pos (n := i) (show 0 < 2 by decide)
  unfold bst
  split
  · rename_i hb
    have hge : 2 ^ i ≤ p := by
      rcases Nat.lt_or_ge p (2 ^ i) with h | h
      · rw [Nat.div_eq_of_lt h] at hb; cases hb
      · exact h
    have hx : p ^^^ 2 ^ i < 2 ^ i := by
      have a := Nat.two_pow_add_eq_or_of_lt (i := i) (b := p - 2 ^ i) (by omega) 1
      have : p = 2 ^ i ^^^ (p - 2 ^ i) := by
        apply Nat.eq_of_testBit_eq
        intro j
        rw [Nat.testBit_xor, Nat.testBit_two_pow]
        have hq : p = 2 ^ i * 1 + (p - 2 ^ i) := by omega
        conv => lhs; rw [hq, a]
        rw [Nat.mul_one, Nat.testBit_or, Nat.testBit_two_pow]
        by_cases hj : i = j
        · subst hj
          have : (p - 2 ^ i).testBit i = false := Nat.testBit_lt_two_pow (by omega)
          simp [this]
        · simp [hj]
      rw [this, Nat.xor_comm, ← Nat.xor_assoc, Nat.xor_self, Nat.zero_xor]
      omega
    rw [e2, ← Nat.xor_assoc]
    exact Nat.xor_lt_two_pow hx h29
  · rename_i hb
    rw [Nat.xor_zero]
    rcases Nat.lt_or_ge p (2 ^ i) with h | h
    · exact h
    · exfalso
      apply hb
      have : p / 2 ^ i = 1 := by
        rw [Nat.div_eq_iff hpos]; omega
      rw [this]

theorem bst_if {i p : Nat} (hp : p < 2 ^ (i + 1)) : bst i p = if 2 ^ i ≤ p then p ^^^ (285 * 2 ^ (i - 8)) else p := by
  have e1 : 2 ^ (i + 1) = 2 * 2 ^ i := by rw [Nat.pow_succ, Nat.mul_comm]
  have hpos := Nat.pow_pos (n := i) (show 0 < 2 by decide)
  unfold bst
  by_cases h : 2 ^ i ≤ p
  · have : p / 2 ^ i = 1 := by rw [Nat.div_eq_iff hpos]; omega
    rw [this, if_pos h]; rfl
  · rw [Nat.div_eq_of_lt (by omega), if_neg h]; simp

theorem bred_lt {p : Nat} (hp : p < 2 ^ 16) (n : Nat) (hn : n ≤ 8) : bred n p < 2 ^ (16 - n) := by
  induction n with
  | zero => exact hp
  | succ n ih =>
    rw [bred, show 16 - (n + 1) = 15 - n from by omega]
    refine bst_lt (by omega) ?_
    rw [show 15 - n + 1 = 16 - n from by omega]
    exact ih (by omega)

/-- Log's answer: -1 of 0. -/
def rlog (a : Nat) : Int := if a = 0 then -1 else (lg a : Int)

/-- Exp's answer: 0 beyond the table. -/
def expA (i : Int) : Nat := if 0 ≤ i ∧ i < 510 then pw i.toNat else 0

/-- Pow's answer: 0 below 0. -/
def powA (a : Nat) (n : Int) : Nat := if n < 0 then 0 else gpow a n.toNat

theorem rlog_ne {a : Nat} (h : a ≠ 0) : rlog a = (lg a : Int) := by unfold rlog; rw [if_neg h]

theorem expA_nat {k : Nat} (h : k < 510) : expA (k : Int) = pw k := by
  unfold expA; rw [if_pos (by omega), Int.toNat_natCast]

theorem powA_nat (a n : Nat) : powA a (n : Int) = gpow a n := by
  unfold powA; rw [if_neg (by omega), Int.toNat_natCast]

theorem powA_lt {a : Nat} (ha : a < 256) (n : Int) : powA a n < 256 := by
  unfold powA; split
  · decide
  · exact gpow_lt ha _

end Go.Proofs.Ytceekoifljeddaa.Bt

/- Plain: polynomials over GF(256), by their factors, the lowest first; that one is told by its values; factors of values. No program is named here. -/
namespace Go.Proofs.Ytceekoifljeddaa.Bt

def Byt (f : List Nat) : Prop := ∀ c ∈ f, c < 256

theorem Byt.nil : Byt [] := fun _ h => by cases h
theorem Byt.head {c : Nat} {f : List Nat} (h : Byt (c :: f)) : c < 256 := h c (by simp)
theorem Byt.tail {c : Nat} {f : List Nat} (h : Byt (c :: f)) : Byt f := fun x hx => h x (by simp [hx])
theorem Byt.cons {c : Nat} {f : List Nat} (hc : c < 256) (h : Byt f) : Byt (c :: f) := fun x hx => by
  rcases List.mem_cons.1 hx with rfl | hx
  · exact hc
  · exact h x hx

/-- A polynomial's value. -/
def pev : List Nat → Nat → Nat
  | [], _ => 0
  | c :: f, x => c ^^^ gmul x (pev f x)

theorem pev_lt {f : List Nat} (hf : Byt f) {x : Nat} (hx : x < 256) : pev f x < 256 := by
  induction f with
  | nil => show 0 < 256; decide
  | cons c f ih => exact xor_lt8 hf.head (gmul_lt hx _)

theorem xor_self_zero {a b : Nat} (h : a ^^^ b = 0) : a = b := by
  have : a ^^^ (a ^^^ b) = a := by rw [h, Nat.xor_zero]
  rw [← Nat.xor_assoc, Nat.xor_self, Nat.zero_xor] at this
  exact this.symm

theorem gmul_xor_left {a c : Nat} (ha : a < 256) (hc : c < 256) (b : Nat) : gmul (a ^^^ c) b = gmul a b ^^^ gmul c b := gm_xor_left ha hc 8 b

/-- Divided by (X - r). -/
def qt (r : Nat) : List Nat → List Nat
  | [] => []
  | [_] => []
  | _ :: d :: f => pev (d :: f) r :: qt r (d :: f)

theorem qt_length (r : Nat) (f : List Nat) : (qt r f).length = f.length - 1 := by
  match f with
  | [] => rfl
  | [_] => rfl
  | c :: d :: f => rw [qt, List.length_cons, qt_length r (d :: f)]; simp

theorem qt_byt {r : Nat} (hr : r < 256) {f : List Nat} (hf : Byt f) : Byt (qt r f) := by
  match f, hf with
  | [], _ => exact Byt.nil
  | [_], _ => exact Byt.nil
  | c :: d :: f, hf => exact Byt.cons (pev_lt hf.tail hr) (qt_byt hr hf.tail)

theorem qt_spec {r x : Nat} (hr : r < 256) (hx : x < 256) (f : List Nat) (hf : Byt f) : pev f x ^^^ pev f r = gmul (x ^^^ r) (pev (qt r f) x) := by
  match f, hf with
  | [], _ => show 0 ^^^ 0 = gmul (x ^^^ r) 0; rw [gmul_zero (xor_lt8 hx hr)]; rfl
  | [c], _ =>
    show (c ^^^ gmul x 0) ^^^ (c ^^^ gmul r 0) = gmul (x ^^^ r) 0
    rw [gmul_zero (xor_lt8 hx hr), gmul_zero hx, gmul_zero hr, Nat.xor_zero, Nat.xor_self]
  | c :: d :: f, hf =>
    have ih := qt_spec hr hx (d :: f) hf.tail
    have hg := pev_lt hf.tail hx
    have hh := pev_lt hf.tail hr
    have hq := pev_lt (qt_byt hr hf.tail) hx
    rw [qt]
    show (c ^^^ gmul x (pev (d :: f) x)) ^^^ (c ^^^ gmul r (pev (d :: f) r)) = gmul (x ^^^ r) (pev (d :: f) r ^^^ gmul x (pev (qt r (d :: f)) x))
    generalize pev (d :: f) x = G at ih hg ⊢
    generalize pev (d :: f) r = H at ih hh ⊢
    generalize pev (qt r (d :: f)) x = Q at ih hq ⊢
    rw [xor4, Nat.xor_self, Nat.zero_xor, gmul_xor]
    have e1 : gmul (x ^^^ r) (gmul x Q) = gmul x (G ^^^ H) := by
      rw [← gmul_assoc (xor_lt8 hx hr) hx, gmul_comm (xor_lt8 hx hr) hx, gmul_assoc hx (xor_lt8 hx hr), ← ih]
    rw [e1, gmul_xor, gmul_xor_left hx hr]
    generalize gmul x G = A
    generalize gmul r H = B
    generalize gmul x H = C
    rw [Nat.xor_comm A C, ← Nat.xor_assoc, Nat.xor_comm C B, Nat.xor_assoc B C C, Nat.xor_self, Nat.xor_zero, Nat.xor_comm]

def Zer (f : List Nat) : Prop := ∀ c ∈ f, c = 0

theorem zer_of_qt {r : Nat} (hr : r < 256) (f : List Nat) (hf : Byt f) (h0 : pev f r = 0) (hq : Zer (qt r f)) : Zer f := by
  match f, hf, h0, hq with
  | [], _, _, _ => exact fun _ h => by cases h
  | [c], _, h0, _ =>
    have : c ^^^ gmul r 0 = 0 := h0
    rw [gmul_zero hr, Nat.xor_zero] at this
    intro x hx
    simp at hx
    rw [hx, this]
  | c :: d :: f, hf, h0, hq =>
    have h1 : pev (d :: f) r = 0 := hq _ (by rw [qt]; simp)
    have ih := zer_of_qt hr (d :: f) hf.tail h1 (fun x hx => hq x (by rw [qt]; simp [hx]))
    have hc : c = 0 := by
      have : c ^^^ gmul r (pev (d :: f) r) = 0 := h0
      rw [h1, gmul_zero hr, Nat.xor_zero] at this
      exact this
    intro x hx
    rcases List.mem_cons.1 hx with rfl | hx
    · exact hc
    · exact ih x hx

/-- A polynomial of degree below n that is nought at n unlike bytes is nought. -/
theorem roots (xs : List Nat) (hx : Byt xs) (hd : xs.Nodup) (f : List Nat) (hf : Byt f) (hl : f.length ≤ xs.length) (h : ∀ x ∈ xs, pev f x = 0) : Zer f := by
  induction xs generalizing f with
  | nil =>
    have : f = [] := List.eq_nil_of_length_eq_zero (by simpa using hl)
    subst this
    exact fun _ h => by cases h
  | cons r ys ih =>
    have hr := hx.head
    have h0 := h r (by simp)
    refine zer_of_qt hr f hf h0 (ih hx.tail (List.nodup_cons.1 hd).2 (qt r f) (qt_byt hr hf) (by rw [qt_length]; simp at hl; omega) (fun y hy => ?_))
    have hyl := hx y (by simp [hy])
    have hne : y ≠ r := fun e => (List.nodup_cons.1 hd).1 (e ▸ hy)
    have e := qt_spec hr hyl f hf
    rw [h y (by simp [hy]), h0, Nat.xor_self] at e
    have hq := pev_lt (qt_byt hr hf) hyl
    exact Classical.byContradiction fun hn => gmul_ne (xor_lt8 hyl hr) hq (fun e2 => hne (xor_self_zero e2)) hn e.symm

/-- Sums. -/
def padd : List Nat → List Nat → List Nat
  | [], g => g
  | f, [] => f
  | a :: f, b :: g => (a ^^^ b) :: padd f g

theorem padd_byt {f g : List Nat} (hf : Byt f) (hg : Byt g) : Byt (padd f g) := by
  match f, g, hf, hg with
  | [], g, _, hg => exact hg
  | a :: f, [], hf, _ => exact hf
  | a :: f, b :: g, hf, hg => exact Byt.cons (xor_lt8 hf.head hg.head) (padd_byt hf.tail hg.tail)

theorem padd_length (f g : List Nat) : (padd f g).length = max f.length g.length := by
  match f, g with
  | [], g => simp [padd]
  | a :: f, [] => simp [padd]
  | a :: f, b :: g => rw [padd, List.length_cons, padd_length f g]; simp only [List.length_cons]; omega

theorem pev_padd {x : Nat} (f g : List Nat) : pev (padd f g) x = pev f x ^^^ pev g x := by
  match f, g with
  | [], g => rw [padd]; show pev g x = 0 ^^^ pev g x; rw [Nat.zero_xor]
  | a :: f, [] => show pev (a :: f) x = pev (a :: f) x ^^^ 0; rw [Nat.xor_zero]
  | a :: f, b :: g =>
    rw [padd, pev, pev_padd f g, gmul_xor, xor4]; rfl

def pscale (k : Nat) (f : List Nat) : List Nat := f.map (gmul k)

theorem pscale_byt {k : Nat} (hk : k < 256) (f : List Nat) : Byt (pscale k f) := fun c hc => by
  obtain ⟨d, _, rfl⟩ := List.mem_map.1 hc
  exact gmul_lt hk d

theorem pev_pscale {k x : Nat} (hk : k < 256) (hx : x < 256) (f : List Nat) (hf : Byt f) : pev (pscale k f) x = gmul k (pev f x) := by
  induction f with
  | nil => show 0 = gmul k 0; rw [gmul_zero hk]
  | cons c f ih =>
    show gmul k c ^^^ gmul x (pev (pscale k f) x) = gmul k (c ^^^ gmul x (pev f x))
    rw [ih hf.tail, gmul_xor, ← gmul_assoc hx hk, gmul_comm hx hk, gmul_assoc hk hx]

/-- Times (X - r). -/
def mlin (r : Nat) (f : List Nat) : List Nat := padd (0 :: f) (pscale r f)

theorem mlin_byt {r : Nat} (hr : r < 256) {f : List Nat} (hf : Byt f) : Byt (mlin r f) := padd_byt (Byt.cons (by decide) hf) (pscale_byt hr f)

theorem mlin_length (r : Nat) (f : List Nat) : (mlin r f).length = f.length + 1 := by
  rw [mlin, padd_length]; simp [pscale]

theorem pev_mlin {r x : Nat} (hr : r < 256) (hx : x < 256) (f : List Nat) (hf : Byt f) : pev (mlin r f) x = gmul (x ^^^ r) (pev f x) := by
  rw [mlin, pev_padd, pev_pscale hr hx f hf, gmul_xor_left hx hr]
  show (0 ^^^ gmul x (pev f x)) ^^^ _ = _
  rw [Nat.zero_xor]

/-- The product, over bytes y, of (x - y) / (s - y). -/
def wt (x s : Nat) : List Nat → Nat
  | [] => 1
  | y :: ys => gmul (gmul (x ^^^ y) (ginv (s ^^^ y))) (wt x s ys)

theorem wt_lt {x s : Nat} (hx : x < 256) (ys : List Nat) (hy : Byt ys) : wt x s ys < 256 := by
  cases ys with
  | nil => show 1 < 256; decide
  | cons y ys => exact gmul_lt (gmul_lt (xor_lt8 hx hy.head) _) _

def wpol (s : Nat) : List Nat → List Nat
  | [] => [1]
  | y :: ys => pscale (ginv (s ^^^ y)) (mlin y (wpol s ys))

theorem wpol_byt {s : Nat} (ys : List Nat) (hy : Byt ys) : Byt (wpol s ys) := by
  cases ys with
  | nil => exact Byt.cons (by decide) Byt.nil
  | cons y ys => exact pscale_byt (ginv_lt _) _

theorem wpol_length (s : Nat) (ys : List Nat) : (wpol s ys).length = ys.length + 1 := by
  induction ys with
  | nil => rfl
  | cons y ys ih => rw [wpol, pscale, List.length_map, mlin_length, ih]; rfl

theorem pev_wpol {x s : Nat} (hx : x < 256) (ys : List Nat) (hy : Byt ys) : pev (wpol s ys) x = wt x s ys := by
  induction ys with
  | nil => show 1 ^^^ gmul x 0 = 1; rw [gmul_zero hx]; rfl
  | cons y ys ih =>
    have h1 := wpol_byt (s := s) ys hy.tail
    rw [wpol, pev_pscale (ginv_lt _) hx _ (mlin_byt hy.head h1), pev_mlin hy.head hx _ h1, ih hy.tail, wt,
      ← gmul_assoc (ginv_lt _) (xor_lt8 hx hy.head), gmul_comm (ginv_lt _) (xor_lt8 hx hy.head)]

theorem wt_one {s : Nat} (hs : s < 256) (ys : List Nat) (hy : Byt ys) (h : s ∉ ys) : wt s s ys = 1 := by
  induction ys with
  | nil => rfl
  | cons y ys ih =>
    have hne : s ^^^ y ≠ 0 := fun e => h (by rw [xor_self_zero e]; simp)
    rw [wt, ginv_mul (xor_lt8 hs hy.head) hne, ih hy.tail (fun hm => h (by simp [hm])), gmul_one_left (by decide)]

theorem wt_zero {x s : Nat} (hx : x < 256) (ys : List Nat) (hy : Byt ys) (h : x ∈ ys) : wt x s ys = 0 := by
  induction ys with
  | nil => cases h
  | cons y ys ih =>
    rw [wt]
    rcases List.mem_cons.1 h with rfl | h
    · rw [Nat.xor_self, gmul_zero_left, gmul_zero_left]
    · rw [ih hy.tail h, gmul_zero (gmul_lt (xor_lt8 hx hy.head) _)]

/-- All others. -/
def oth (s : Nat) (all : List Nat) : List Nat := all.filter (fun y => decide (y ≠ s))

theorem oth_byt {s : Nat} {all : List Nat} (h : Byt all) : Byt (oth s all) := fun x hx => h x (List.mem_filter.1 hx).1

theorem oth_not (s : Nat) (all : List Nat) : s ∉ oth s all := fun h => by
  have := (List.mem_filter.1 h).2
  simp at this

theorem oth_mem {x s : Nat} {all : List Nat} (h : x ∈ all) (hne : x ≠ s) : x ∈ oth s all := List.mem_filter.2 ⟨h, by simpa using hne⟩

theorem oth_length {s : Nat} {all : List Nat} (hd : all.Nodup) (h : s ∈ all) : (oth s all).length + 1 = all.length := by
  induction all with
  | nil => cases h
  | cons y ys ih =>
    obtain ⟨h1, h2⟩ := List.nodup_cons.1 hd
    unfold oth
    rw [List.filter_cons]
    by_cases e : y = s
    · subst e
      simp only [ne_eq, not_true_eq_false, decide_false, Bool.false_eq_true, if_false]
      rw [List.filter_eq_self.2 (fun z hz => by
        have : z ≠ y := fun e => h1 (e ▸ hz)
        simpa using this)]
      rfl
    · have hs : s ∈ ys := by
        rcases List.mem_cons.1 h with h | h
        · exact absurd h.symm e
        · exact h
      have := ih h2 hs
      unfold oth at this
      simp [e]
      simpa using this

/-- The value at x of the polynomial that is at bytes what is told. -/
def lsum (all : List Nat) (x : Nat) : List (Nat × Nat) → Nat
  | [] => 0
  | (s, v) :: r => gmul (wt x s (oth s all)) v ^^^ lsum all x r

/-- Its factors. -/
def lpol (all : List Nat) : List (Nat × Nat) → List Nat
  | [] => []
  | (s, v) :: r => padd (pscale v (wpol s (oth s all))) (lpol all r)

theorem lpol_byt (all : List Nat) (ps : List (Nat × Nat)) (hv : ∀ p ∈ ps, p.2 < 256) : Byt (lpol all ps) := by
  induction ps with
  | nil => exact Byt.nil
  | cons p r ih => exact padd_byt (pscale_byt (hv p (by simp)) _) (ih (fun q hq => hv q (by simp [hq])))

theorem lpol_length {all : List Nat} (hd : all.Nodup) (ps : List (Nat × Nat)) (hs : ∀ p ∈ ps, p.1 ∈ all) (h0 : ps ≠ []) : (lpol all ps).length = all.length := by
  induction ps with
  | nil => exact absurd rfl h0
  | cons p r ih =>
    have h1 := oth_length hd (hs p (by simp))
    rw [lpol, padd_length, pscale, List.length_map, wpol_length, h1]
    cases r with
    | nil => simp [lpol]
    | cons q r => rw [ih (fun t ht => hs t (by simp [ht])) (by simp), Nat.max_self]

theorem pev_lpol {all : List Nat} (ha : Byt all) {x : Nat} (hx : x < 256) (ps : List (Nat × Nat)) (hv : ∀ p ∈ ps, p.2 < 256) : pev (lpol all ps) x = lsum all x ps := by
  induction ps with
  | nil => rfl
  | cons p r ih =>
    have hw := wpol_byt (s := p.1) (oth p.1 all) (oth_byt ha)
    rw [lpol, pev_padd, pev_pscale (hv p (by simp)) hx _ hw, ih (fun q hq => hv q (by simp [hq])), pev_wpol hx _ (oth_byt ha), lsum,
      gmul_comm (hv p (by simp)) (wt_lt hx _ (oth_byt ha))]

theorem lsum_off {all : List Nat} (ha : Byt all) {x : Nat} (hx : x < 256) (hm : x ∈ all) (ps : List (Nat × Nat)) (h : ∀ p ∈ ps, p.1 ≠ x) : lsum all x ps = 0 := by
  induction ps with
  | nil => rfl
  | cons p r ih =>
    rw [lsum, wt_zero hx _ (oth_byt ha) (oth_mem hm (fun e => h p (by simp) e.symm)), gmul_zero_left, ih (fun q hq => h q (by simp [hq]))]
    rfl

/-- At a byte that is told, it is what is told. -/
theorem lsum_at {all : List Nat} (ha : Byt all) {ps : List (Nat × Nat)} (hs : ∀ p ∈ ps, p.1 ∈ all) (hv : ∀ p ∈ ps, p.2 < 256) (hd : (ps.map (·.1)).Nodup) {s v : Nat} (h : (s, v) ∈ ps) : lsum all s ps = v := by
  have hm := hs _ h
  have hsl := ha s hm
  induction ps with
  | nil => cases h
  | cons p r ih =>
    obtain ⟨h1, h2⟩ := List.nodup_cons.1 hd
    rcases List.mem_cons.1 h with rfl | h
    · rw [lsum, wt_one hsl _ (oth_byt ha) (oth_not _ _), gmul_one_left (hv (s, v) (by simp)), lsum_off ha hsl hm r (fun q hq e => h1 (List.mem_map.2 ⟨q, hq, e⟩)), Nat.xor_zero]
    · have hne : s ≠ p.1 := fun e => h1 (List.mem_map.2 ⟨(s, v), h, e⟩)
      rw [lsum, wt_zero hsl _ (oth_byt ha) (oth_mem hm hne), gmul_zero_left, Nat.zero_xor]
      exact ih (fun q hq => hs q (by simp [hq])) (fun q hq => hv q (by simp [hq])) h2 h

/-- Two that agree at as many bytes as they have factors are the same. -/
theorem pev_only (xs : List Nat) (hx : Byt xs) (hd : xs.Nodup) (f g : List Nat) (hf : Byt f) (hg : Byt g) (hl : f.length ≤ xs.length) (hk : g.length = f.length) (h : ∀ x ∈ xs, pev f x = pev g x) : f = g := by
  have z := roots xs hx hd (padd f g) (padd_byt hf hg) (by rw [padd_length]; omega) (fun x hm => by rw [pev_padd, h x hm, Nat.xor_self])
  clear hx hd hl h hf hg
  induction f generalizing g with
  | nil => exact (List.eq_nil_of_length_eq_zero hk).symm
  | cons a f ih =>
    cases g with
    | nil => cases hk
    | cons b g =>
      have e := xor_self_zero (z (a ^^^ b) (by simp [padd]))
      rw [e, ih g (by simpa using hk) (fun c hc => z c (by rw [padd]; simp [hc]))]

/-- The value as the document reckons it: a sum of powers. -/
def psum : Nat → List Nat → Nat → Nat
  | _, [], _ => 0
  | i, c :: f, x => gmul c (gpow x i) ^^^ psum (i + 1) f x

theorem psum_shift {x : Nat} (hx : x < 256) (f : List Nat) (hf : Byt f) (i : Nat) : psum (i + 1) f x = gmul x (psum i f x) := by
  induction f generalizing i with
  | nil => show 0 = gmul x 0; rw [gmul_zero hx]
  | cons c f ih =>
    rw [psum, psum, ih hf.tail (i + 1), ih hf.tail i, gmul_xor]
    congr 1
    show gmul c (gmul (gpow x i) x) = gmul x (gmul c (gpow x i))
    rw [← gmul_assoc hf.head (gpow_lt hx i), gmul_comm (gmul_lt hf.head _) hx]

theorem psum_pev {x : Nat} (hx : x < 256) (f : List Nat) (hf : Byt f) : psum 0 f x = pev f x := by
  induction f with
  | nil => rfl
  | cons c f ih =>
    rw [psum, psum_shift hx f hf.tail 0, ih hf.tail]
    show gmul c 1 ^^^ _ = _
    rw [gmul_one hf.head]; rfl

end Go.Proofs.Ytceekoifljeddaa.Bt

/- Plain: equations over GF(256), solved by elimination: a table's rows are the equations, its last column what is told. No program is named here. -/
namespace Go.Proofs.Ytceekoifljeddaa.Bt

/-- A sum. -/
def fs : Nat → (Nat → Nat) → Nat
  | 0, _ => 0
  | n + 1, F => fs n F ^^^ F n

theorem fs_congr {n : Nat} {F G : Nat → Nat} (h : ∀ k, k < n → F k = G k) : fs n F = fs n G := by
  induction n with
  | zero => rfl
  | succ n ih => rw [fs, fs, ih (fun k hk => h k (by omega)), h n (by omega)]

theorem fs_lt {n : Nat} {F : Nat → Nat} (h : ∀ k, k < n → F k < 256) : fs n F < 256 := by
  induction n with
  | zero => show 0 < 256; decide
  | succ n ih => exact xor_lt8 (ih (fun k hk => h k (by omega))) (h n (by omega))

theorem fs_xor (n : Nat) (F G : Nat → Nat) : fs n (fun k => F k ^^^ G k) = fs n F ^^^ fs n G := by
  induction n with
  | zero => show 0 = 0 ^^^ 0; decide
  | succ n ih => rw [fs, fs, fs, ih, xor4]

theorem fs_scale {v : Nat} (hv : v < 256) (n : Nat) (F : Nat → Nat) : fs n (fun k => gmul v (F k)) = gmul v (fs n F) := by
  induction n with
  | zero => show 0 = gmul v 0; rw [gmul_zero hv]
  | succ n ih => rw [fs, fs, ih, gmul_xor]

theorem fs_zero {n : Nat} {F : Nat → Nat} (h : ∀ k, k < n → F k = 0) : fs n F = 0 := by
  induction n with
  | zero => rfl
  | succ n ih => rw [fs, ih (fun k hk => h k (by omega)), h n (by omega)]; rfl

theorem fs_one {n j : Nat} (hj : j < n) {F : Nat → Nat} (h : ∀ k, k < n → k ≠ j → F k = 0) : fs n F = F j := by
  induction n with
  | zero => omega
  | succ n ih =>
    rw [fs]
    by_cases e : n = j
    · subst e
      rw [fs_zero (fun k hk => h k (by omega) (by omega)), Nat.zero_xor]
    · rw [ih (by omega) (fun k hk hne => h k (by omega) hne), h n (by omega) e, Nat.xor_zero]

/-- A row, held against what is asked for. -/
def dot (n : Nat) (M : Nat → Nat → Nat) (r : Nat) (f : Nat → Nat) : Nat := fs (n + 1) (fun k => gmul (M r k) (f k))

def Bm (M : Nat → Nat → Nat) : Prop := ∀ r k, M r k < 256

def Ker (n : Nat) (M : Nat → Nat → Nat) (f : Nat → Nat) : Prop := ∀ r, r < n → dot n M r f = 0

def swapM (c p : Nat) (M : Nat → Nat → Nat) : Nat → Nat → Nat := fun r k => if r = c then M p k else if r = p then M c k else M r k
def scaleM (c v : Nat) (M : Nat → Nat → Nat) : Nat → Nat → Nat := fun r k => if r = c then gmul (M c k) v else M r k
def elimM (c : Nat) (M : Nat → Nat → Nat) : Nat → Nat → Nat := fun r k => if r = c then M c k else M r k ^^^ gmul (M r c) (M c k)

theorem Bm.swap {M : Nat → Nat → Nat} (h : Bm M) (c p : Nat) : Bm (swapM c p M) := fun r k => by
  unfold swapM; split
  · exact h p k
  · split
    · exact h c k
    · exact h r k

theorem Bm.scale {M : Nat → Nat → Nat} (h : Bm M) (c v : Nat) : Bm (scaleM c v M) := fun r k => by
  unfold scaleM; split
  · exact gmul_lt (h c k) v
  · exact h r k

theorem Bm.elim {M : Nat → Nat → Nat} (h : Bm M) (c : Nat) : Bm (elimM c M) := fun r k => by
  unfold elimM; split
  · exact h c k
  · exact xor_lt8 (h r k) (gmul_lt (h r c) _)

theorem ker_swap {n c p : Nat} (hc : c < n) (hp : p < n) (M : Nat → Nat → Nat) (f : Nat → Nat) : Ker n (swapM c p M) f ↔ Ker n M f := by
  have e : ∀ r, dot n (swapM c p M) r f = if r = c then dot n M p f else if r = p then dot n M c f else dot n M r f := by
    intro r
    unfold dot swapM
    by_cases h1 : r = c
    · simp [h1]
    · by_cases h2 : r = p
      · subst h2; simp [h1]
      · simp [h1, h2]
  constructor
  · intro h r hr
    by_cases h1 : r = p
    · have := h c hc; rw [e, if_pos rfl] at this; rw [h1]; exact this
    · by_cases h2 : r = c
      · have := h p hp
        rw [e] at this
        by_cases h3 : p = c
        · exact absurd (h2.trans h3.symm) h1
        · rw [if_neg h3, if_pos rfl] at this; rw [h2]; exact this
      · have := h r hr; rw [e, if_neg h2, if_neg h1] at this; exact this
  · intro h r hr
    rw [e]
    split
    · exact h p hp
    · split
      · exact h c hc
      · exact h r hr

theorem ker_scale {n c v : Nat} (hv : v < 256) (v0 : v ≠ 0) {M : Nat → Nat → Nat} (hM : Bm M) (f : Nat → Nat) : Ker n (scaleM c v M) f ↔ Ker n M f := by
  have e : ∀ r, dot n (scaleM c v M) r f = if r = c then gmul v (dot n M c f) else dot n M r f := by
    intro r
    unfold dot scaleM
    by_cases h1 : r = c
    · rw [if_pos h1, ← fs_scale hv]
      refine fs_congr (fun k _ => ?_)
      show gmul (if r = c then gmul (M c k) v else M r k) (f k) = _
      rw [if_pos h1, gmul_comm (hM c k) hv, gmul_assoc hv (hM c k)]
    · simp [h1]
  have hd : ∀ r, dot n M r f < 256 := fun r => fs_lt (fun k _ => gmul_lt (hM r k) _)
  constructor
  · intro h r hr
    have := h r hr
    rw [e] at this
    split at this
    · rename_i h1
      rw [h1]
      exact Classical.byContradiction fun hn => gmul_ne hv (hd c) v0 hn this
    · exact this
  · intro h r hr
    rw [e]
    split
    · rename_i h1
      rw [h c (h1 ▸ hr), gmul_zero hv]
    · exact h r hr

theorem ker_elim {n c : Nat} (hc : c < n) {M : Nat → Nat → Nat} (hM : Bm M) (f : Nat → Nat) : Ker n (elimM c M) f ↔ Ker n M f := by
  have e : ∀ r, dot n (elimM c M) r f = if r = c then dot n M c f else dot n M r f ^^^ gmul (M r c) (dot n M c f) := by
    intro r
    unfold dot elimM
    by_cases h1 : r = c
    · simp [h1]
    · rw [if_neg h1, ← fs_scale (hM r c), ← fs_xor]
      refine fs_congr (fun k _ => ?_)
      show gmul (if r = c then M c k else M r k ^^^ gmul (M r c) (M c k)) (f k) = _
      rw [if_neg h1, gmul_xor_left (hM r k) (gmul_lt (hM r c) _), gmul_assoc (hM r c) (hM c k)]
  constructor
  · intro h r hr
    have hcc := h c hc
    rw [e, if_pos rfl] at hcc
    have := h r hr
    rw [e] at this
    split at this
    · rename_i h1; rw [h1]; exact hcc
    · rw [hcc, gmul_zero (hM r c), Nat.xor_zero] at this; exact this
  · intro h r hr
    rw [e]
    split
    · exact h c hc
    · rw [h r hr, h c hc, gmul_zero (hM r c)]; rfl

/-- One column done: row p comes to c's place, is divided, and taken off all others. -/
def stepM (c p : Nat) (M : Nat → Nat → Nat) : Nat → Nat → Nat := elimM c (scaleM c (ginv (M p c)) (swapM c p M))

theorem Bm.step {M : Nat → Nat → Nat} (h : Bm M) (c p : Nat) : Bm (stepM c p M) := ((h.swap c p).scale c _).elim c

theorem ker_step {n c p : Nat} (hc : c < n) (hp : p < n) {M : Nat → Nat → Nat} (hM : Bm M) (h0 : M p c ≠ 0) (f : Nat → Nat) : Ker n (stepM c p M) f ↔ Ker n M f := by
  unfold stepM
  rw [ker_elim hc ((hM.swap c p).scale c _), ker_scale (ginv_lt _) (ginv_ne (hM p c) h0) (hM.swap c p) f, ker_swap hc hp]

/-- The first c columns are done. -/
def Uc (n : Nat) (M : Nat → Nat → Nat) (c : Nat) : Prop := ∀ j, j < c → ∀ r, r < n → M r j = if r = j then 1 else 0

theorem uc_step {n c p : Nat} (hc : c < n) (hcp : c ≤ p) (hp : p < n) {M : Nat → Nat → Nat} (hM : Bm M) (h0 : M p c ≠ 0) (h : Uc n M c) : Uc n (stepM c p M) (c + 1) := by
  intro j hj r hr
  have hi := ginv_lt (M p c)
  -- row c behind the division
  have hrow : ∀ k, scaleM c (ginv (M p c)) (swapM c p M) c k = gmul (M p k) (ginv (M p c)) := by
    intro k; unfold scaleM swapM; simp
  have hoth : ∀ r k, r ≠ c → scaleM c (ginv (M p c)) (swapM c p M) r k = if r = p then M c k else M r k := by
    intro r k hne; unfold scaleM swapM; simp [hne]
  have hone : gmul (M p c) (ginv (M p c)) = 1 := ginv_mul (hM p c) h0
  unfold stepM elimM
  by_cases hrc : r = c
  · rw [if_pos hrc, hrow]
    by_cases hjc : j = c
    · rw [hjc, hone, if_pos hrc]
    · have hpj : M p j = 0 := by
        rw [h j (by omega) p hp, if_neg (by omega)]
      rw [hpj, gmul_zero_left, if_neg (by omega)]
  · rw [if_neg hrc, hrow, hoth r j hrc, hoth r c hrc]
    by_cases hjc : j = c
    · rw [hjc, hone, if_neg hrc]
      have hb : (if r = p then M c c else M r c) < 256 := by split; exact hM c c; exact hM r c
      rw [gmul_one hb, Nat.xor_self]
    · have hpj : M p j = 0 := by
        rw [h j (by omega) p hp, if_neg (by omega)]
      have hb : (if r = p then M c c else M r c) < 256 := by split; exact hM c c; exact hM r c
      rw [hpj, gmul_zero_left, gmul_zero hb, Nat.xor_zero]
      split
      · rename_i hrp
        rw [h j (by omega) c hc, if_neg (by omega), if_neg (by omega)]
      · rw [h j (by omega) r hr]

/-- Where a column has nothing at or below its place, another answer to nought is there. -/
theorem no_pivot {n c : Nat} (hc : c < n) {M : Nat → Nat → Nat} (hM : Bm M) (h : Uc n M c) (h0 : ∀ p, c ≤ p → p < n → M p c = 0) :
    Ker n M (fun k => if k = c then 1 else if k < c then M k c else 0) := by
  intro r hr
  unfold dot
  -- the sum over all columns: those below c, then c itself, then nought
  have hlo : fs c (fun k => gmul (M r k) (if k = c then 1 else if k < c then M k c else 0)) = if r < c then M r c else 0 := by
    have e : fs c (fun k => gmul (M r k) (if k = c then 1 else if k < c then M k c else 0)) = fs c (fun k => if r = k then M k c else 0) := by
      refine fs_congr (fun k hk => ?_)
      show gmul (M r k) (if k = c then 1 else if k < c then M k c else 0) = if r = k then M k c else 0
      rw [if_neg (by omega), if_pos hk, h k hk r hr]
      split
      · rw [gmul_one_left (hM k c)]
      · rw [gmul_zero_left]
    rw [e]
    by_cases hrc : r < c
    · rw [if_pos hrc, fs_one hrc (fun k _ hne => if_neg (fun e => hne e.symm)), if_pos rfl]
    · rw [if_neg hrc]
      exact fs_zero (fun k hk => if_neg (by omega))
  have hup : ∀ m, fs (c + 1 + m) (fun k => gmul (M r k) (if k = c then 1 else if k < c then M k c else 0)) = (if r < c then M r c else 0) ^^^ M r c := by
    intro m
    induction m with
    | zero =>
      rw [Nat.add_zero, fs, hlo]
      show _ ^^^ gmul (M r c) (if c = c then 1 else _) = _
      rw [if_pos rfl, gmul_one (hM r c)]
    | succ m ih =>
      rw [← Nat.add_assoc, fs, ih]
      have e : (if c + 1 + m = c then 1 else if c + 1 + m < c then M (c + 1 + m) c else 0) = 0 := by
        rw [if_neg (by omega), if_neg (by omega)]
      show _ ^^^ gmul (M r (c + 1 + m)) (if c + 1 + m = c then 1 else if c + 1 + m < c then M (c + 1 + m) c else 0) = _
      rw [e, gmul_zero (hM r _), Nat.xor_zero]
  have := hup (n - c)
  rw [show c + 1 + (n - c) = n + 1 from by omega] at this
  rw [this]
  by_cases hrc : r < c
  · rw [if_pos hrc, Nat.xor_self]
  · rw [if_neg hrc, h0 r (by omega) hr]; rfl

/-- When all columns are done, what is asked for stands in the last one. -/
theorem all_done {n : Nat} {M : Nat → Nat → Nat} (hM : Bm M) (h : Uc n M n) {f : Nat → Nat} (hf : ∀ k, f k < 256) (h1 : f n = 1) (hk : Ker n M f) (r : Nat) (hr : r < n) : f r = M r n := by
  have := hk r hr
  unfold dot at this
  rw [fs] at this
  rw [fs_one hr (fun k hk hne => by show gmul (M r k) (f k) = 0; rw [h k hk r hr, if_neg (fun e => hne e.symm), gmul_zero_left]), h r hr r hr, if_pos rfl, gmul_one_left (hf r), h1, gmul_one (hM r n)] at this
  exact xor_self_zero this

end Go.Proofs.Ytceekoifljeddaa.Bt

/- Plain: the equations of a polynomial that is at bytes what is told: they have one answer, and elimination finds it. No program is named here. -/
namespace Go.Proofs.Ytceekoifljeddaa.Bt

theorem fs_psum {x : Nat} (hx : x < 256) (F : Nat → Nat) (hF : ∀ k, F k < 256) (n i : Nat) :
    fs n (fun k => gmul (gpow x (i + k)) (F k)) = psum i ((List.range n).map F) x := by
  have step : ∀ (n i : Nat) (G : Nat → Nat), fs (n + 1) G = G 0 ^^^ fs n (fun k => G (k + 1)) := by
    intro n i G
    induction n with
    | zero => show 0 ^^^ G 0 = G 0 ^^^ 0; rw [Nat.zero_xor, Nat.xor_zero]
    | succ n ih => rw [fs, ih, fs, Nat.xor_assoc]
  induction n generalizing i F with
  | zero => rfl
  | succ n ih =>
    rw [step n i, List.range_succ_eq_map, List.map_cons, psum, List.map_map]
    rw [← ih (F ∘ Nat.succ) (fun k => hF (k + 1)) (i + 1)]
    congr 1
    · exact gmul_comm (gpow_lt hx _) (hF 0)
    · refine fs_congr (fun k _ => ?_)
      show gmul (gpow x (i + (k + 1))) (F (k + 1)) = gmul (gpow x (i + 1 + k)) (F (k + 1))
      rw [show i + (k + 1) = i + 1 + k from by omega]

/-- The value at x of the polynomial with factors F. -/
theorem fs_pev {x : Nat} (hx : x < 256) (F : Nat → Nat) (hF : ∀ k, F k < 256) (n : Nat) :
    fs n (fun k => gmul (gpow x k) (F k)) = pev ((List.range n).map F) x := by
  have h := fs_psum hx F hF n 0
  rw [psum_pev hx _ (fun c hc => by obtain ⟨k, _, rfl⟩ := List.mem_map.1 hc; exact hF k)] at h
  rw [← h]
  exact fs_congr (fun k _ => by rw [Nat.zero_add])

/-- The equations, as they are laid. -/
def vand (at_ vals : List Nat) : Nat → Nat → Nat := fun r k => if k < at_.length then gpow (at_.getD r 0) k else vals.getD r 0

theorem getD_byt {l : List Nat} (h : Byt l) (r : Nat) : l.getD r 0 < 256 := by
  by_cases hr : r < l.length
  · rw [← List.getElem_eq_getD (h := hr) 0]; exact h _ (List.getElem_mem hr)
  · have : l.getD r 0 = 0 := by simp [List.getD, List.getElem?_eq_none (Nat.le_of_not_lt hr)]
    rw [this]; decide

theorem vand_bm {at_ vals : List Nat} (ha : Byt at_) (hv : Byt vals) : Bm (vand at_ vals) := fun r k => by
  unfold vand; split
  · exact gpow_lt (getD_byt ha r) k
  · exact getD_byt hv r

theorem vand_dot {at_ vals : List Nat} (ha : Byt at_) (r : Nat) {f : Nat → Nat} (hf : ∀ k, f k < 256) :
    dot at_.length (vand at_ vals) r f = pev ((List.range at_.length).map f) (at_.getD r 0) ^^^ gmul (vals.getD r 0) (f at_.length) := by
  unfold dot
  rw [fs, ← fs_pev (getD_byt ha r) f hf]
  congr 1
  · refine fs_congr (fun k hk => ?_)
    show gmul (vand at_ vals r k) (f k) = _
    unfold vand; rw [if_pos hk]
  · show gmul (vand at_ vals r at_.length) (f at_.length) = _
    unfold vand; rw [if_neg (by omega)]

theorem mem_getD {l : List Nat} {x : Nat} (h : x ∈ l) : ∃ r, r < l.length ∧ l.getD r 0 = x := by
  obtain ⟨r, hr, e⟩ := List.mem_iff_getElem.1 h
  exact ⟨r, hr, by rw [← List.getElem_eq_getD (h := hr) 0]; exact e⟩

/-- Nought alone answers to nought. -/
theorem vand_only {at_ vals : List Nat} (ha : Byt at_) (hd : at_.Nodup) {f : Nat → Nat} (hf : ∀ k, f k < 256) (h0 : f at_.length = 0) (hk : Ker at_.length (vand at_ vals) f)
    (k : Nat) (hkn : k < at_.length) : f k = 0 := by
  have hz := roots at_ ha hd ((List.range at_.length).map f) (fun c hc => by obtain ⟨k, _, rfl⟩ := List.mem_map.1 hc; exact hf k) (by simp) (fun x hx => by
    obtain ⟨r, hr, e⟩ := mem_getD hx
    have := hk r hr
    rw [vand_dot ha r hf, h0] at this
    rw [e] at this
    have hv : gmul (vals.getD r 0) 0 = 0 := by
      have := gmul_xor (vals.getD r 0) 0 0
      rw [Nat.xor_self, Nat.xor_self] at this
      exact this
    rw [hv, Nat.xor_zero] at this
    exact this)
  exact hz _ (List.mem_map.2 ⟨k, List.mem_range.2 hkn, rfl⟩)

/-- The polynomial that is at bytes what is told. -/
def poly (at_ vals : List Nat) : List Nat := lpol at_ (at_.zip vals)

theorem poly_spec {at_ vals : List Nat} (ha : Byt at_) (hd : at_.Nodup) (hv : Byt vals) (hl : vals.length = at_.length) :
    Byt (poly at_ vals) ∧ (poly at_ vals).length = at_.length ∧ ∀ r, r < at_.length → pev (poly at_ vals) (at_.getD r 0) = vals.getD r 0 := by
  by_cases h0 : at_ = []
  · subst h0; exact ⟨Byt.nil, rfl, fun r hr => absurd hr (by simp)⟩
  have hz : at_.zip vals ≠ [] := fun e => h0 (by
    have := congrArg List.length e
    rw [List.length_zip, hl, Nat.min_self] at this
    exact List.eq_nil_of_length_eq_zero this)
  have hm1 : ∀ p ∈ at_.zip vals, p.1 ∈ at_ := fun p hp => (List.of_mem_zip (a := p.1) (b := p.2) hp).1
  have hm2 : ∀ p ∈ at_.zip vals, p.2 < 256 := fun p hp => hv _ (List.of_mem_zip (a := p.1) (b := p.2) hp).2
  refine ⟨lpol_byt _ _ hm2, lpol_length hd _ hm1 hz, fun r hr => ?_⟩
  have hrv : r < vals.length := by omega
  unfold poly
  rw [pev_lpol ha (getD_byt ha r) _ hm2, ← List.getElem_eq_getD (h := hr) 0, ← List.getElem_eq_getD (h := hrv) 0]
  refine lsum_at ha hm1 hm2 ?_ ?_
  · rw [List.map_fst_zip (by omega)]; exact hd
  · refine List.mem_iff_getElem.2 ⟨r, by rw [List.length_zip]; omega, ?_⟩
    rw [List.getElem_zip]

theorem poly_only {at_ vals q : List Nat} (ha : Byt at_) (hd : at_.Nodup) (hv : Byt vals) (hl : vals.length = at_.length)
    (hq : Byt q) (hn : q.length = at_.length) (h : ∀ r, r < at_.length → pev q (at_.getD r 0) = vals.getD r 0) : q = poly at_ vals := by
  obtain ⟨h1, h2, h3⟩ := poly_spec ha hd hv hl
  refine pev_only at_ ha hd q _ hq h1 (by omega) (by omega) (fun x hx => ?_)
  obtain ⟨r, hr, rfl⟩ := mem_getD hx
  rw [h r hr, h3 r hr]

/-- How far elimination is: c columns done, and no answer turned. -/
structure Elim (at_ vals : List Nat) (M : Nat → Nat → Nat) (c : Nat) : Prop where
  byt : Bm M
  uc : Uc at_.length M c
  ker : ∀ f, Ker at_.length M f ↔ Ker at_.length (vand at_ vals) f

theorem Elim.start {at_ vals : List Nat} (ha : Byt at_) (hv : Byt vals) : Elim at_ vals (vand at_ vals) 0 :=
  ⟨vand_bm ha hv, fun j hj => absurd hj (by omega), fun _ => Iff.rfl⟩

/-- A row with something in column c is there. -/
theorem Elim.pivot {at_ vals : List Nat} (ha : Byt at_) (hd : at_.Nodup) {M : Nat → Nat → Nat} {c : Nat} (h : Elim at_ vals M c) (hc : c < at_.length) : ∃ p, c ≤ p ∧ p < at_.length ∧ M p c ≠ 0 := by
  refine Classical.byContradiction fun hn => ?_
  have h0 : ∀ p, c ≤ p → p < at_.length → M p c = 0 := fun p h1 h2 => Classical.byContradiction fun h3 => hn ⟨p, h1, h2, h3⟩
  have hk := (h.ker _).1 (no_pivot hc h.byt h.uc h0)
  have := vand_only ha hd (fun k => by
    show (if k = c then 1 else if k < c then M k c else 0) < 256
    split
    · decide
    · split
      · exact h.byt _ _
      · decide) (by show (if at_.length = c then 1 else if at_.length < c then M at_.length c else 0) = 0; rw [if_neg (by omega), if_neg (by omega)]) hk c hc
  rw [if_pos rfl] at this
  exact absurd this (by decide)

theorem Elim.step {at_ vals : List Nat} {M : Nat → Nat → Nat} {c p : Nat} (h : Elim at_ vals M c) (hcp : c ≤ p) (hp : p < at_.length) (h0 : M p c ≠ 0) : Elim at_ vals (stepM c p M) (c + 1) :=
  ⟨h.byt.step c p, uc_step (by omega) hcp hp h.byt h0 h.uc, fun f => (ker_step (by omega) hp h.byt h0 f).trans (h.ker f)⟩

/-- In the end the last column is the polynomial. -/
theorem Elim.done {at_ vals : List Nat} (ha : Byt at_) (hd : at_.Nodup) (hv : Byt vals) (hl : vals.length = at_.length) {M : Nat → Nat → Nat} (h : Elim at_ vals M at_.length) :
    (List.range at_.length).map (fun r => M r at_.length) = poly at_ vals := by
  obtain ⟨q1, q2, q3⟩ := poly_spec ha hd hv hl
  generalize hq : poly at_ vals = q at q1 q2 q3 ⊢
  let f : Nat → Nat := fun k => if k = at_.length then 1 else q.getD k 0
  have hf : ∀ k, f k < 256 := fun k => by
    show (if k = at_.length then 1 else q.getD k 0) < 256
    split
    · decide
    · exact getD_byt q1 k
  have hn : f at_.length = 1 := if_pos rfl
  have hm : (List.range at_.length).map f = q := by
    apply List.ext_getElem
    · simp [q2]
    · intro k h1 h2
      rw [List.getElem_map, List.getElem_range]
      show (if k = at_.length then 1 else q.getD k 0) = _
      rw [if_neg (by omega), ← List.getElem_eq_getD (h := h2) 0]
  have hk : Ker at_.length (vand at_ vals) f := fun r hr => by
    rw [vand_dot ha r hf, hm, hn, q3 r hr, gmul_one (getD_byt hv r), Nat.xor_self]
  rw [← hm]
  refine List.map_congr_left (fun r hr => ?_)
  exact (all_done h.byt h.uc hf hn ((h.ker f).2 hk) r (List.mem_range.1 hr)).symm

end Go.Proofs.Ytceekoifljeddaa.Bt

/- Plain: what layer 5 answers, and what follows of it; no program is named here. -/
namespace Go.Proofs.Ytceekoifljeddaa.Bt

/-- May it be? -/
def mayC (k n s : Int) : Bool := decide (1 ≤ k) && decide (k ≤ 6) && decide (k ≤ n) && decide (n ≤ 10) && decide (1 ≤ s) && decide (s ≤ 24)

theorem mayC_true {k n s : Int} (h : mayC k n s = true) : 1 ≤ k ∧ k ≤ 6 ∧ k ≤ n ∧ n ≤ 10 ∧ 1 ≤ s ∧ s ≤ 24 := by
  simp [mayC] at h; omega

theorem mayC_false {k n s : Int} (h : ¬ (1 ≤ k ∧ k ≤ 6 ∧ k ≤ n ∧ n ≤ 10 ∧ 1 ≤ s ∧ s ≤ 24)) : mayC k n s = false := by
  rcases e : mayC k n s with _ | _
  · rfl
  · exact absurd (mayC_true e) h

/-- What Pad answers. -/
def padB (k n s : Int) (bs : List Nat) : List Nat := if mayC k n s = true ∧ (bs.length : Int) ≤ k * s then bs ++ List.replicate ((k * s).toNat - bs.length) 0 else []

/-- What is told at a place. -/
def valsP (S : Nat) (text : List Nat) (p t : Nat) : List Nat := (List.range t).map (fun k => text.getD (k * S + p) 0)

/-- A shard's byte. -/
def shB (K S : Nat) (text : List Nat) (i p : Nat) : Nat := if i < K then text.getD (i * S + p) 0 else pev (poly (List.range K) (valsP S text p K)) i

/-- A shard's bytes, so far. -/
def shL (K S : Nat) (text : List Nat) (P i : Nat) : List Nat := (List.range P).map (shB K S text i)

theorem shL_succ (K S : Nat) (text : List Nat) (P i : Nat) : shL K S text (P + 1) i = shL K S text P i ++ [shB K S text i P] := by simp [shL, List.range_succ]

theorem shL_length (K S : Nat) (text : List Nat) (P i : Nat) : (shL K S text P i).length = P := by simp [shL]

theorem range_byt (K : Nat) (h : K ≤ 256) : Byt (List.range K) := fun x hx => by have := List.mem_range.1 hx; omega

theorem valsP_byt {S : Nat} {text : List Nat} (h : Byt text) (p t : Nat) : Byt (valsP S text p t) := fun x hx => by
  obtain ⟨k, _, rfl⟩ := List.mem_map.1 hx
  exact getD_byt h _

theorem valsP_length (S : Nat) (text : List Nat) (p t : Nat) : (valsP S text p t).length = t := by simp [valsP]

theorem valsP_succ (S : Nat) (text : List Nat) (p t : Nat) : valsP S text p (t + 1) = valsP S text p t ++ [text.getD (t * S + p) 0] := by simp [valsP, List.range_succ]

theorem mul_in {K S i p : Nat} (hi : i < K) (hp : p < S) : i * S + p < K * S := by
  have := Nat.mul_le_mul_right S (show i + 1 ≤ K from hi)
  rw [Nat.succ_mul] at this
  omega


theorem valsP_getD {S : Nat} {text : List Nat} {p t r : Nat} (h : r < t) : (valsP S text p t).getD r 0 = text.getD (r * S + p) 0 := by
  rw [← List.getElem_eq_getD (h := by rw [valsP_length]; exact h) 0]
  simp [valsP]

/-- The polynomial at a place. -/
def polP (K S : Nat) (text : List Nat) (p : Nat) : List Nat := poly (List.range K) (valsP S text p K)

theorem polP_spec {K S : Nat} {text : List Nat} (hK : K ≤ 256) (ht : Byt text) (p : Nat) :
    Byt (polP K S text p) ∧ (polP K S text p).length = K ∧ ∀ i, i < K → pev (polP K S text p) i = text.getD (i * S + p) 0 := by
  obtain ⟨h1, h2, h3⟩ := poly_spec (range_byt K hK) List.nodup_range (valsP_byt (S := S) ht p K) (by rw [valsP_length, List.length_range])
  rw [List.length_range] at h2 h3
  refine ⟨h1, h2, fun i hi => ?_⟩
  have := h3 i hi
  rw [← List.getElem_eq_getD (h := by simpa using hi) 0, List.getElem_range] at this
  unfold polP
  rw [this, ← List.getElem_eq_getD (h := by rw [valsP_length]; exact hi) 0]
  simp [valsP]

theorem shB_pev {K S : Nat} {text : List Nat} (hK : K ≤ 256) (ht : Byt text) (i p : Nat) : shB K S text i p = pev (polP K S text p) i := by
  unfold shB
  split
  · rename_i h; rw [(polP_spec hK ht p).2.2 i h]
  · rfl

theorem shB_lt {K S : Nat} {text : List Nat} (hK : K ≤ 256) (ht : Byt text) {i : Nat} (hi : i < 256) (p : Nat) : shB K S text i p < 256 := by
  rw [shB_pev hK ht]; exact pev_lt (polP_spec hK ht p).1 hi

theorem shL_byt {K S : Nat} {text : List Nat} (hK : K ≤ 256) (ht : Byt text) {i : Nat} (hi : i < 256) (P : Nat) : Byt (shL K S text P i) := fun x hx => by
  obtain ⟨p, _, rfl⟩ := List.mem_map.1 hx
  exact shB_lt hK ht hi p

theorem shL_getD {K S : Nat} {text : List Nat} {P i p : Nat} (hp : p < P) : (shL K S text P i).getD p 0 = shB K S text i p := by
  rw [← List.getElem_eq_getD (h := by rw [shL_length]; exact hp) 0]
  simp [shL]

/-- Encode's error. -/
def encE (k n s : Int) (len : Nat) : Int := if mayC k n s = true then (if (len : Int) = k * s then 0 else 4) else 1

/-- All shards of a text. -/
def encL (K N S : Nat) (text : List Nat) : List (List Nat) := (List.range N).map (shL K S text S)

/-- What Encode answers. -/
def encA (k n s : Int) (text : List Nat) : List (List Nat) := if encE k n s text.length = 0 then encL k.toNat n.toNat s.toNat text else []

theorem encL_length (K N S : Nat) (text : List Nat) : (encL K N S text).length = N := by simp [encL]

theorem encL_getD {K N S : Nat} {text : List Nat} {i : Nat} (h : i < N) : (encL K N S text).getD i [] = shL K S text S i := by
  rw [← List.getElem_eq_getD (h := by rw [encL_length]; exact h) []]
  simp [encL]

theorem encE_ok {k n s : Int} {len : Nat} (h : encE k n s len = 0) : mayC k n s = true ∧ (len : Int) = k * s := by
  unfold encE at h
  split at h
  · rename_i h1
    split at h
    · rename_i h2; exact ⟨h1, h2⟩
    · exact absurd h (by decide)
  · exact absurd h (by decide)

/-- Which shards are there. -/
def there (L : List (List Nat)) : List Nat := (List.range L.length).filter (fun i => decide (0 < (L.getD i []).length))

/-- Decode's error. -/
def decE (k n s : Int) (L : List (List Nat)) : Int :=
  if mayC k n s = true then (if (L.length : Int) = n then (if L.all (fun r => decide (r.length = 0) || decide ((r.length : Int) = s)) = true then (if k ≤ ((there L).length : Int) then 0 else 8) else 4) else 4) else 1

/-- Which shards say the text. -/
def decAt (K : Nat) (L : List (List Nat)) : List Nat := (there L).take K

/-- What they have at a place. -/
def decV (L : List (List Nat)) (at_ : List Nat) (p : Nat) : List Nat := at_.map (fun j => (L.getD j []).getD p 0)

/-- A byte that is decoded. -/
def decB (K : Nat) (L : List (List Nat)) (i p : Nat) : Nat := pev (poly (decAt K L) (decV L (decAt K L) p)) i

/-- The text that is decoded. -/
def decT (K S : Nat) (L : List (List Nat)) : List Nat := (List.range (K * S)).map (fun j => decB K L (j / S) (j % S))

/-- What Decode answers. -/
def decA (k n s : Int) (L : List (List Nat)) : List Nat := if decE k n s L = 0 then decT k.toNat s.toNat L else []

theorem decT_length (K S : Nat) (L : List (List Nat)) : (decT K S L).length = K * S := by simp [decT]

theorem there_lt {L : List (List Nat)} {i : Nat} (h : i ∈ there L) : i < L.length := List.mem_range.1 (List.mem_filter.1 h).1

theorem there_pos {L : List (List Nat)} {i : Nat} (h : i ∈ there L) : 0 < (L.getD i []).length := by simpa using (List.mem_filter.1 h).2

theorem there_nodup (L : List (List Nat)) : (there L).Nodup := List.nodup_range.filter _

theorem decAt_mem {K : Nat} {L : List (List Nat)} {i : Nat} (h : i ∈ decAt K L) : i ∈ there L := List.mem_of_mem_take h

theorem decAt_byt {K : Nat} {L : List (List Nat)} (hL : L.length ≤ 256) : Byt (decAt K L) := fun x hx => by
  have := there_lt (decAt_mem hx); omega

theorem decAt_nodup (K : Nat) (L : List (List Nat)) : (decAt K L).Nodup := (there_nodup L).sublist (List.take_sublist _ _)

theorem decAt_length {K : Nat} {L : List (List Nat)} (h : K ≤ (there L).length) : (decAt K L).length = K := by simp [decAt, h]

/-- Rows of bytes. -/
def BytL (L : List (List Nat)) : Prop := ∀ r ∈ L, Byt r

theorem getD_bytL {L : List (List Nat)} (h : BytL L) (j : Nat) : Byt (L.getD j []) := by
  by_cases hj : j < L.length
  · rw [← List.getElem_eq_getD (h := hj) []]; exact h _ (List.getElem_mem hj)
  · rw [List.getD_eq_getElem?_getD, List.getElem?_eq_none (by omega)]; exact Byt.nil

theorem decV_byt {L : List (List Nat)} (h : BytL L) (at_ : List Nat) (p : Nat) : Byt (decV L at_ p) := fun x hx => by
  obtain ⟨j, _, rfl⟩ := List.mem_map.1 hx
  exact getD_byt (getD_bytL h j) p

theorem decB_lt {K : Nat} {L : List (List Nat)} (hL : L.length ≤ 256) (h : BytL L) {i : Nat} (hi : i < 256) (p : Nat) : decB K L i p < 256 := by
  obtain ⟨h1, _, _⟩ := poly_spec (decAt_byt (K := K) hL) (decAt_nodup K L) (decV_byt h (decAt K L) p) (by simp [decV])
  exact pev_lt h1 hi

theorem decT_byt {K S : Nat} {L : List (List Nat)} (hK : K ≤ 256) (hL : L.length ≤ 256) (h : BytL L) : Byt (decT K S L) := fun x hx => by
  obtain ⟨j, hj, rfl⟩ := List.mem_map.1 hx
  have hj := List.mem_range.1 hj
  refine decB_lt hL h ?_ _
  have : j / S < K := Nat.div_lt_of_lt_mul (by rw [Nat.mul_comm]; exact hj)
  omega

/-- What comes of shards that are a text's, as many as its data has: the text's polynomial. -/
theorem dec_poly {K S : Nat} {text : List Nat} {L : List (List Nat)} (hK : K ≤ 256) (hL : L.length ≤ 256) (ht : Byt text) (hn : K ≤ (there L).length)
    (hs : ∀ j, j ∈ there L → L.getD j [] = shL K S text S j) {p : Nat} (hp : p < S) : poly (decAt K L) (decV L (decAt K L) p) = polP K S text p := by
  obtain ⟨h1, h2, _⟩ := polP_spec (S := S) hK ht p
  have hl := decAt_length hn
  have hv : Byt (decV L (decAt K L) p) := fun x hx => by
    obtain ⟨j, hj, rfl⟩ := List.mem_map.1 hx
    have := there_lt (decAt_mem hj)
    rw [hs j (decAt_mem hj), shL_getD hp]
    exact shB_lt hK ht (by omega) p
  refine (poly_only (decAt_byt hL) (decAt_nodup K L) hv (by simp [decV]) h1 (by omega) (fun r hr => ?_)).symm
  have hm : (decAt K L)[r] ∈ there L := decAt_mem (List.getElem_mem hr)
  rw [← List.getElem_eq_getD (h := hr) 0, ← List.getElem_eq_getD (h := by simpa [decV] using hr) 0]
  simp only [decV, List.getElem_map]
  rw [hs _ hm, shL_getD hp, shB_pev hK ht]

theorem dec_back {K S : Nat} {text : List Nat} {L : List (List Nat)} (hK : K ≤ 256) (hS : 0 < S) (hL : L.length ≤ 256) (ht : Byt text) (hlen : text.length = K * S) (hn : K ≤ (there L).length)
    (hs : ∀ j, j ∈ there L → L.getD j [] = shL K S text S j) : decT K S L = text := by
  apply List.ext_getElem
  · rw [decT_length, hlen]
  · intro j h1 h2
    have hj : j < K * S := by rw [← hlen]; exact h2
    have hm := Nat.mod_lt j hS
    have hd : j / S < K := Nat.div_lt_of_lt_mul (by rw [Nat.mul_comm]; exact hj)
    simp only [decT, List.getElem_map, List.getElem_range, decB]
    rw [dec_poly hK hL ht hn hs hm, (polP_spec hK ht _).2.2 _ hd, Nat.mul_comm, Nat.div_add_mod, ← List.getElem_eq_getD (h := h2) 0]

/-- Shards of a sum of texts. -/
theorem shB_xor {K S : Nat} {a b c : List Nat} (hK : K ≤ 256) (ha : Byt a) (hb : Byt b) (hc : Byt c) (he : ∀ j, j < K * S → c.getD j 0 = a.getD j 0 ^^^ b.getD j 0) {i p : Nat} (hp : p < S) :
    shB K S c i p = shB K S a i p ^^^ shB K S b i p := by
  obtain ⟨a1, a2, a3⟩ := polP_spec (S := S) hK ha p
  obtain ⟨b1, b2, b3⟩ := polP_spec (S := S) hK hb p
  have e : padd (polP K S a p) (polP K S b p) = polP K S c p := by
    refine poly_only (range_byt K hK) List.nodup_range (valsP_byt hc p K) (by rw [valsP_length, List.length_range]) (padd_byt a1 b1) (by rw [padd_length, a2, b2, Nat.max_self, List.length_range]) (fun r hr => ?_)
    have hr' : r < K := by simpa using hr
    rw [valsP_getD hr', ← List.getElem_eq_getD (h := hr) 0, List.getElem_range, pev_padd, a3 r hr', b3 r hr', he _ (mul_in hr' hp)]
  rw [shB_pev hK ha, shB_pev hK hb, shB_pev hK hc, ← e, pev_padd]

/-- Of one shard of data all shards are the text. -/
theorem shL_one {S : Nat} {text : List Nat} (ht : Byt text) (hl : text.length = S) {i : Nat} (hi : i < 256) : shL 1 S text S i = text := by
  apply List.ext_getElem
  · rw [shL_length, hl]
  · intro p h1 h2
    have hp : p < S := by rw [← hl]; exact h2
    simp only [shL, List.getElem_map, List.getElem_range]
    rw [shB_pev (by decide) ht]
    have e : [text.getD p 0] = polP 1 S text p := by
      refine poly_only (range_byt 1 (by decide)) List.nodup_range (valsP_byt ht p 1) (by rw [valsP_length, List.length_range]) (Byt.cons (getD_byt ht p) Byt.nil) (by simp) (fun r hr => ?_)
      obtain rfl : r = 0 := by simp at hr; omega
      simp [valsP, pev, List.range_succ, gmul_zero_left]
    rw [← e, ← List.getElem_eq_getD (h := h2) 0]
    simp [pev, gmul_zero hi]

end Go.Proofs.Ytceekoifljeddaa.Bt

/- Plain: how Decode goes, step by step; no program is named here. -/
namespace Go.Proofs.Ytceekoifljeddaa.Bt

/-- Which shards of the first t are there, as many as say a text. -/
def thT (K : Nat) (L : List (List Nat)) (t : Nat) : List Nat := ((List.range t).filter (fun i => decide (0 < (L.getD i []).length))).take K

theorem thT_zero (K : Nat) (L : List (List Nat)) : thT K L 0 = [] := by simp [thT]

theorem thT_all (K : Nat) (L : List (List Nat)) : thT K L L.length = decAt K L := rfl

theorem thT_skip {K : Nat} {L : List (List Nat)} {t : Nat} (h : (L.getD t []).length = 0) : thT K L (t + 1) = thT K L t := by
  unfold thT
  rw [List.range_succ, List.filter_append, List.filter_cons, if_neg (by simp only [h]; decide), List.filter_nil, List.append_nil]

theorem thT_push {K : Nat} {L : List (List Nat)} {t : Nat} (h : (L.getD t []).length ≠ 0) (hl : (thT K L t).length < K) : thT K L (t + 1) = thT K L t ++ [t] := by
  unfold thT at hl ⊢
  rw [List.length_take] at hl
  rw [List.range_succ, List.filter_append, List.filter_cons, if_pos (by simp only [decide_eq_true_eq]; omega), List.filter_nil]
  generalize (List.range t).filter (fun i => decide (0 < (L.getD i []).length)) = F at hl ⊢
  rw [List.take_of_length_le (l := F ++ [t]) (by simp; omega), List.take_of_length_le (l := F) (by omega)]

theorem thT_full {K : Nat} {L : List (List Nat)} {t : Nat} (hl : ¬ (thT K L t).length < K) : thT K L (t + 1) = thT K L t := by
  unfold thT at hl ⊢
  rw [List.length_take] at hl
  rw [List.range_succ, List.filter_append]
  generalize (List.range t).filter (fun i => decide (0 < (L.getD i []).length)) = F at hl ⊢
  rw [List.take_append_of_le_length (by omega)]

theorem thT_le (K : Nat) (L : List (List Nat)) (t : Nat) : (thT K L t).length ≤ K := by simp [thT]; omega

theorem thT_byt {K : Nat} {L : List (List Nat)} {t : Nat} (ht : t ≤ 256) : Byt (thT K L t) := fun x hx => by
  have := List.mem_range.1 (List.mem_filter.1 (List.mem_of_mem_take hx)).1
  omega

/-- The bytes that are decoded so far. -/
def DT (K S : Nat) (L : List (List Nat)) (p i j : Nat) : Nat := if j % S < p ∨ (j % S = p ∧ j / S < i) then decB K L (j / S) (j % S) else 0

def rowD (K S : Nat) (L : List (List Nat)) (p i : Nat) : List Nat := (List.range (K * S)).map (DT K S L p i)

theorem rowD_length (K S : Nat) (L : List (List Nat)) (p i : Nat) : (rowD K S L p i).length = K * S := by simp [rowD]

theorem rowD_start (K S : Nat) (L : List (List Nat)) : rowD K S L 0 0 = List.replicate (K * S) 0 := by
  apply List.ext_getElem
  · simp [rowD]
  · intro j h1 h2
    simp only [rowD, List.getElem_map, List.getElem_range, DT, List.getElem_replicate]
    rw [if_neg (by rintro (h | ⟨_, h⟩) <;> exact absurd h (Nat.not_lt_zero _))]

theorem rowD_next {K S : Nat} (L : List (List Nat)) (p : Nat) : rowD K S L p K = rowD K S L (p + 1) 0 := by
  refine List.map_congr_left (fun j hj => ?_)
  have hd : j / S < K := Nat.div_lt_of_lt_mul (by rw [Nat.mul_comm]; exact List.mem_range.1 hj)
  unfold DT
  generalize j / S = a at hd
  generalize j % S = b
  by_cases h : b < p ∨ (b = p ∧ a < K)
  · rw [if_pos h, if_pos (by omega)]
  · rw [if_neg h, if_neg (by omega)]

theorem rowD_end {K S : Nat} (hS : 0 < S) (L : List (List Nat)) : rowD K S L S 0 = decT K S L := by
  refine List.map_congr_left (fun j hj => ?_)
  unfold DT
  rw [if_pos (.inl (Nat.mod_lt j hS))]

theorem rowD_set {α : Type} (f : Nat → α) {K S : Nat} (hS : 0 < S) (L : List (List Nat)) {p i : Nat} (hp : p < S) : ((rowD K S L p i).map f).set (i * S + p) (f (decB K L i p)) = (rowD K S L p (i + 1)).map f := by
  have e1 : (i * S + p) % S = p := by rw [Nat.mul_comm, Nat.mul_add_mod, Nat.mod_eq_of_lt hp]
  have e2 : (i * S + p) / S = i := by rw [Nat.mul_comm, Nat.mul_add_div hS, Nat.div_eq_of_lt hp, Nat.add_zero]
  apply List.ext_getElem
  · simp [rowD]
  · intro j h1 h2
    rw [List.getElem_set]
    simp only [rowD, List.getElem_map, List.getElem_range]
    by_cases e : i * S + p = j
    · rw [if_pos e, ← e]
      unfold DT
      rw [e1, e2, if_pos (.inr ⟨rfl, by omega⟩)]
    · rw [if_neg e]
      unfold DT
      have key : ¬ (j % S = p ∧ j / S = i) := fun ⟨a, b⟩ => e (by rw [← a, ← b, Nat.mul_comm]; exact Nat.div_add_mod j S)
      by_cases h : j % S < p ∨ (j % S = p ∧ j / S < i)
      · rw [if_pos h, if_pos (by omega)]
      · rw [if_neg h, if_neg (by omega)]

/-- Decode's error, in its parts. -/
theorem decE_may {k n s : Int} {L : List (List Nat)} (h : mayC k n s = false) : decE k n s L = 1 := by unfold decE; rw [h]; rfl

theorem decE_many {k n s : Int} {L : List (List Nat)} (h : mayC k n s = true) (hn : ¬ (L.length : Int) = n) : decE k n s L = 4 := by
  unfold decE; rw [if_pos h, if_neg hn]

theorem decE_size {k n s : Int} {L : List (List Nat)} (h : mayC k n s = true) (hn : (L.length : Int) = n) {t : Nat} (ht : t < L.length) (h0 : (L.getD t []).length ≠ 0) (hs : ¬ ((L.getD t []).length : Int) = s) : decE k n s L = 4 := by
  unfold decE
  rw [if_pos h, if_pos hn, if_neg]
  intro ha
  rw [← List.getElem_eq_getD (h := ht) []] at h0 hs
  have := List.all_eq_true.1 ha _ (List.getElem_mem ht)
  simp at this
  rcases this with h1 | h1
  · exact h0 (by rw [h1]; rfl)
  · exact hs h1

theorem all_sizes {s : Int} {L : List (List Nat)} (h : ∀ r, r < L.length → (L.getD r []).length = 0 ∨ ((L.getD r []).length : Int) = s) : L.all (fun r => decide (r.length = 0) || decide ((r.length : Int) = s)) = true := by
  refine List.all_eq_true.2 (fun r hr => ?_)
  obtain ⟨j, hj, rfl⟩ := List.mem_iff_getElem.1 hr
  have := h j hj
  rw [← List.getElem_eq_getD (h := hj) []] at this
  rcases this with h1 | h1
  · rw [decide_eq_true h1]; rfl
  · rw [decide_eq_true h1, Bool.or_true]

theorem decE_few {k n s : Int} {L : List (List Nat)} (h : mayC k n s = true) (hn : (L.length : Int) = n) (ha : ∀ r, r < L.length → (L.getD r []).length = 0 ∨ ((L.getD r []).length : Int) = s) (hk : ¬ k ≤ ((there L).length : Int)) : decE k n s L = 8 := by
  unfold decE
  rw [if_pos h, if_pos hn, if_pos (all_sizes ha), if_neg hk]

theorem decE_ok {k n s : Int} {L : List (List Nat)} (h : mayC k n s = true) (hn : (L.length : Int) = n) (ha : ∀ r, r < L.length → (L.getD r []).length = 0 ∨ ((L.getD r []).length : Int) = s) (hk : k ≤ ((there L).length : Int)) : decE k n s L = 0 := by
  unfold decE
  rw [if_pos h, if_pos hn, if_pos (all_sizes ha), if_pos hk]

theorem decAt_few {K : Nat} {L : List (List Nat)} (h : (decAt K L).length < K) : (there L).length < K := by
  unfold decAt at h
  rw [List.length_take] at h
  omega

theorem decAt_enough {K : Nat} {L : List (List Nat)} (h : ¬ (decAt K L).length < K) : K ≤ (there L).length := by
  unfold decAt at h
  rw [List.length_take] at h
  omega

end Go.Proofs.Ytceekoifljeddaa.Bt

/- Plain: groups that go round: what layer 6 answers; no program is named here. -/
namespace Go.Proofs.Ytceekoifljeddaa.Bt

/-- Is a number a group? -/
def isG (g : Int) : Bool := decide (0 ≤ g) && decide (g ≤ 255)

theorem isG_true {g : Int} (h : isG g = true) : 0 ≤ g ∧ g ≤ 255 := by simpa [isG] using h

theorem isG_false {g : Int} (h : isG g = false) : g < 0 ∨ 255 < g := by
  simp [isG] at h; omega

theorem isG_of {g : Int} (h : 0 ≤ g ∧ g ≤ 255) : isG g = true := by simp [isG, h]

/-- How far. -/
def farA (b g : Int) : Int := if isG b = true ∧ isG g = true then (g - b) % 256 else -1

/-- The group some steps behind. -/
def nextA (g n : Int) : Int := if isG g = true then (g + n) % 256 else -1

def openA (b g : Int) : Bool := decide (0 ≤ farA b g) && decide (farA b g ≤ 3)

def behindA (b g : Int) : Bool := decide (128 ≤ farA b g)

/-- Are they a group and a place? -/
def isM (g p : Int) : Bool := isG g && (decide (0 ≤ p) && decide (p ≤ 15))

def makeA (g p : Int) : Int := if isM g p = true then g * 16 + p else 0

def isS (n : Int) : Bool := decide (0 ≤ n) && decide (n ≤ 4095)

def splitG (n : Int) : Int := if isS n = true then n / 16 else 0

def splitP (n : Int) : Int := if isS n = true then n % 16 else 0

theorem farA_in {b g : Int} (hb : 0 ≤ b ∧ b ≤ 255) (hg : 0 ≤ g ∧ g ≤ 255) : farA b g = (g - b) % 256 := by
  unfold farA; rw [if_pos ⟨isG_of hb, isG_of hg⟩]

theorem nextA_in {g : Int} (n : Int) (hg : 0 ≤ g ∧ g ≤ 255) : nextA g n = (g + n) % 256 := by
  unfold nextA; rw [if_pos (isG_of hg)]

end Go.Proofs.Ytceekoifljeddaa.Bt

/- Plain: a collector of layer 7: its state, what its calls answer, and what becomes of it; no program is named here. -/
namespace Go.Proofs.Ytceekoifljeddaa.Bt

/-- A collector: its code, its base, its four groups' shards, which were given up. -/
structure Col where
  K : Nat
  N : Nat
  S : Nat
  base : Nat
  g : Nat → List (List Nat)
  gone : Nat → Bool

/-- What may be. -/
structure Col.Ok (x : Col) : Prop where
  may : mayC x.K x.N x.S = true
  base : x.base < 256
  len : ∀ i, i < 4 → (x.g i).length = x.N
  size : ∀ i, i < 4 → ∀ r, r < x.N → ((x.g i).getD r []).length = 0 ∨ ((x.g i).getD r []).length = x.S
  byt : ∀ i, i < 4 → BytL (x.g i)

theorem Col.Ok.bounds {x : Col} (h : x.Ok) : 1 ≤ x.K ∧ x.K ≤ 6 ∧ x.K ≤ x.N ∧ x.N ≤ 10 ∧ 1 ≤ x.S ∧ x.S ≤ 24 := by
  have := mayC_true h.may; omega

/-- A new one. -/
def col0 (K N S base : Nat) : Col := ⟨K, N, S, base, fun _ => List.replicate N [], fun _ => false⟩

theorem getD_replicate_nil (n r : Nat) : (List.replicate n ([] : List Nat)).getD r [] = [] := by
  rw [List.getD_eq_getElem?_getD, List.getElem?_replicate]
  split <;> rfl

theorem bytL_replicate (n : Nat) : BytL (List.replicate n []) := fun x hx => by
  rw [(List.mem_replicate.1 hx).2]; exact Byt.nil

theorem col0_ok {K N S base : Nat} (h : mayC K N S = true) (hb : base < 256) : (col0 K N S base).Ok :=
  ⟨h, hb, fun _ _ => by simp [col0], fun _ _ r _ => .inl (by simp only [col0]; rw [getD_replicate_nil]; rfl), fun _ _ => bytL_replicate N⟩

/-- How many shards are there. -/
def cnt (L : List (List Nat)) : Nat := (there L).length

theorem there_empty (n : Nat) : there (List.replicate n []) = [] := by
  unfold there
  refine List.filter_eq_nil_iff.2 (fun r _ => ?_)
  rw [getD_replicate_nil]; simp

theorem cnt_empty (n : Nat) : cnt (List.replicate n []) = 0 := by unfold cnt; rw [there_empty]; rfl

/-- How far a group is, as a number. -/
def farN (x : Col) (g : Int) : Nat := (farA x.base g).toNat

/-- A group's error. -/
def placeE (x : Col) (g : Int) : Int := if behindA x.base g = true then 9 else if openA x.base g = true then 0 else 8

theorem open_far {x : Col} {g : Int} (h : openA x.base g = true) : farA x.base g = (farN x g : Int) ∧ farN x g < 4 := by
  simp [openA] at h
  unfold farN
  omega

/-- Shard's error. -/
def shardE (x : Col) (g p : Int) (len : Nat) : Int :=
  if isG g = true ∧ 0 ≤ p ∧ p < x.N then (if len = x.S then (if placeE x g = 0 then (if 0 < ((x.g (farN x g)).getD p.toNat []).length then 9 else 0) else placeE x g) else 4) else 1

/-- A shard is there. -/
def putS (x : Col) (i p : Nat) (bs : List Nat) : Col := { x with g := fun j => if j = i then (x.g i).set p bs else x.g j }

/-- What becomes of it. -/
def shardC (x : Col) (g p : Int) (bs : List Nat) : Col := if shardE x g p bs.length = 0 then putS x (farN x g) p.toNat bs else x

/-- Skip's error. -/
def skipE (x : Col) (g : Int) : Int := if isG g = true then (if placeE x g = 0 then (if x.gone (farN x g) = true then 9 else 0) else placeE x g) else 1

def goneS (x : Col) (i : Nat) : Col := { x with gone := fun j => if j = i then true else x.gone j }

def skipC (x : Col) (g : Int) : Col := if skipE x g = 0 then goneS x (farN x g) else x

/-- Is a group ready? -/
def rdy (x : Col) (i : Nat) : Bool := x.gone i || decide (x.K ≤ cnt (x.g i))

def bitN (b : Bool) : Nat := if b = true then 1 else 0

def readyN (x : Col) : Nat := ((bitN (rdy x 3) * 2 + bitN (rdy x 2)) * 2 + bitN (rdy x 1)) * 2 + bitN (rdy x 0)

def haveN (x : Col) (g : Int) : Nat := if openA x.base g = true then cnt (x.g (farN x g)) else 0

/-- The next one. -/
def shift (x : Col) : Col := { x with base := (x.base + 1) % 256, g := fun i => if i = 3 then List.replicate x.N [] else x.g (i + 1), gone := fun i => if i = 3 then false else x.gone (i + 1) }

/-- A part: its group, whether it is a gap, its text. -/
structure Prt where
  group : Nat
  gap : Bool
  data : List Nat
  deriving DecidableEq

def partOf (x : Col) : Prt := if x.K ≤ cnt (x.g 0) then ⟨x.base, false, decT x.K x.S (x.g 0)⟩ else ⟨x.base, true, []⟩

/-- So many steps on. -/
def shiftN : Nat → Col → Col
  | 0, x => x
  | n + 1, x => shift (shiftN n x)

/-- How many are due, of so many. -/
def dueM : Nat → Col → Nat
  | 0, _ => 0
  | n + 1, x => if rdy x 0 = true then 1 + dueM n (shift x) else 0

def dueP (x : Col) : List Prt := (List.range (dueM 4 x)).map (fun t => partOf (shiftN t x))

def dueC (x : Col) : Col := shiftN (dueM 4 x) x

theorem shiftN_shift (n : Nat) (x : Col) : shiftN n (shift x) = shiftN (n + 1) x := by
  induction n with
  | zero => rfl
  | succ n ih => show shift (shiftN n (shift x)) = shift (shiftN (n + 1) x); rw [ih]

theorem dueM_rdy (n : Nat) (x : Col) (t : Nat) (h : t < dueM n x) : rdy (shiftN t x) 0 = true := by
  induction n generalizing x t with
  | zero => exact absurd h (Nat.not_lt_zero _)
  | succ n ih =>
    unfold dueM at h
    split at h
    · rename_i hr
      cases t with
      | zero => exact hr
      | succ t => rw [← shiftN_shift]; exact ih (shift x) t (by omega)
    · exact absurd h (Nat.not_lt_zero _)

theorem dueM_end (n : Nat) (x : Col) (h : dueM n x < n) : rdy (shiftN (dueM n x) x) 0 = false := by
  induction n generalizing x with
  | zero => exact absurd h (Nat.not_lt_zero _)
  | succ n ih =>
    unfold dueM at h ⊢
    split
    · rename_i hr
      rw [if_pos hr] at h
      rw [Nat.add_comm, ← shiftN_shift]
      exact ih (shift x) (by omega)
    · rename_i hr
      simpa [shiftN] using hr

theorem dueM_le (n : Nat) (x : Col) : dueM n x ≤ n := by
  induction n generalizing x with
  | zero => exact Nat.le_refl _
  | succ n ih =>
    unfold dueM
    split
    · have := ih (shift x); omega
    · omega

/-- What comes behind so many steps. -/
theorem shiftN_parts (t : Nat) (x : Col) : (shiftN t x).K = x.K ∧ (shiftN t x).N = x.N ∧ (shiftN t x).S = x.S ∧ (shiftN t x).base % 256 = (x.base + t) % 256 ∧
    (∀ i, i < 4 → (shiftN t x).g i = if i + t < 4 then x.g (i + t) else List.replicate x.N []) ∧ (∀ i, i < 4 → (shiftN t x).gone i = if i + t < 4 then x.gone (i + t) else false) := by
  induction t with
  | zero => exact ⟨rfl, rfl, rfl, rfl, fun i hi => by rw [if_pos (by omega)]; rfl, fun i hi => by rw [if_pos (by omega)]; rfl⟩
  | succ t ih =>
    obtain ⟨h1, h2, h3, h4, h5, h6⟩ := ih
    refine ⟨h1, h2, h3, ?_, fun i hi => ?_, fun i hi => ?_⟩
    · show ((shiftN t x).base + 1) % 256 % 256 = _
      omega
    · show (if i = 3 then List.replicate (shiftN t x).N [] else (shiftN t x).g (i + 1)) = _
      by_cases e : i = 3
      · rw [if_pos e, if_neg (by omega), h2]
      · rw [if_neg e, h5 (i + 1) (by omega)]
        by_cases q : i + 1 + t < 4
        · rw [if_pos q, if_pos (by omega), show i + 1 + t = i + (t + 1) by omega]
        · rw [if_neg q, if_neg (by omega)]
    · show (if i = 3 then false else (shiftN t x).gone (i + 1)) = _
      by_cases e : i = 3
      · rw [if_pos e, if_neg (by omega)]
      · rw [if_neg e, h6 (i + 1) (by omega)]
        by_cases q : i + 1 + t < 4
        · rw [if_pos q, if_pos (by omega), show i + 1 + t = i + (t + 1) by omega]
        · rw [if_neg q, if_neg (by omega)]

theorem rdy_empty {x : Col} (hK : 1 ≤ x.K) {i : Nat} (hg : x.g i = List.replicate x.N []) (hn : x.gone i = false) : rdy x i = false := by
  unfold rdy
  rw [hg, hn, cnt_empty]
  simp
  omega

/-- Behind Due the base isn't ready. -/
theorem dueC_base {x : Col} (hK : 1 ≤ x.K) : rdy (dueC x) 0 = false := by
  unfold dueC
  by_cases h : dueM 4 x < 4
  · exact dueM_end 4 x h
  · have e : dueM 4 x = 4 := by have := dueM_le 4 x; omega
    rw [e]
    obtain ⟨h1, h2, _, _, h5, h6⟩ := shiftN_parts 4 x
    refine rdy_empty (by rw [h1]; exact hK) (by rw [h5 0 (by omega), if_neg (by omega), h2]) (by rw [h6 0 (by omega), if_neg (by omega)])

theorem shift_ok {x : Col} (h : x.Ok) : (shift x).Ok := by
  refine ⟨h.may, Nat.mod_lt _ (by decide), fun i hi => ?_, fun i hi r hr => ?_, fun i hi => ?_⟩
  · show (if i = 3 then List.replicate x.N [] else x.g (i + 1)).length = x.N
    by_cases e : i = 3
    · rw [if_pos e]; simp
    · rw [if_neg e]; exact h.len _ (by omega)
  · show ((if i = 3 then List.replicate x.N [] else x.g (i + 1)).getD r []).length = 0 ∨ ((if i = 3 then List.replicate x.N [] else x.g (i + 1)).getD r []).length = x.S
    by_cases e : i = 3
    · rw [if_pos e, getD_replicate_nil]; exact .inl rfl
    · rw [if_neg e]; exact h.size _ (by omega) r hr
  · show BytL (if i = 3 then List.replicate x.N [] else x.g (i + 1))
    by_cases e : i = 3
    · rw [if_pos e]; exact bytL_replicate _
    · rw [if_neg e]; exact h.byt _ (by omega)

theorem shiftN_ok {x : Col} (h : x.Ok) (n : Nat) : (shiftN n x).Ok := by
  induction n with
  | zero => exact h
  | succ n ih => exact shift_ok ih

theorem getD_set_row (L : List (List Nat)) (p r : Nat) (bs : List Nat) (hp : p < L.length) : (L.set p bs).getD r [] = if r = p then bs else L.getD r [] := by
  rw [List.getD_eq_getElem?_getD, List.getElem?_set]
  by_cases e : p = r
  · rw [if_pos e, if_pos e.symm, if_pos hp]; rfl
  · rw [if_neg e, if_neg (fun q => e q.symm)]; rfl

theorem putS_ok {x : Col} (h : x.Ok) {i p : Nat} (hi : i < 4) (hp : p < x.N) {bs : List Nat} (hl : bs.length = x.S) (hb : Byt bs) : (putS x i p bs).Ok := by
  refine ⟨h.may, h.base, fun j hj => ?_, fun j hj r hr => ?_, fun j hj => ?_⟩
  · show (if j = i then (x.g i).set p bs else x.g j).length = x.N
    by_cases e : j = i
    · rw [if_pos e, List.length_set]; exact h.len i hi
    · rw [if_neg e]; exact h.len j hj
  · show ((if j = i then (x.g i).set p bs else x.g j).getD r []).length = 0 ∨ ((if j = i then (x.g i).set p bs else x.g j).getD r []).length = x.S
    by_cases e : j = i
    · rw [if_pos e, getD_set_row _ _ _ _ (by rw [h.len i hi]; exact hp)]
      by_cases q : r = p
      · rw [if_pos q]; exact .inr hl
      · rw [if_neg q]; exact h.size i hi r hr
    · rw [if_neg e]; exact h.size j hj r hr
  · show BytL (if j = i then (x.g i).set p bs else x.g j)
    by_cases e : j = i
    · rw [if_pos e]
      intro y hy
      rcases List.mem_or_eq_of_mem_set hy with q | q
      · exact h.byt i hi y q
      · rw [q]; exact hb
    · rw [if_neg e]; exact h.byt j hj

theorem goneS_ok {x : Col} (h : x.Ok) (i : Nat) : (goneS x i).Ok := ⟨h.may, h.base, h.len, h.size, h.byt⟩

theorem placeE_zero {x : Col} {g : Int} (h : placeE x g = 0) : openA x.base g = true := by
  unfold placeE at h
  split at h
  · exact absurd h (by decide)
  · split at h
    · rename_i q; exact q
    · exact absurd h (by decide)

theorem shardE_zero {x : Col} {g p : Int} {len : Nat} (h : shardE x g p len = 0) : isG g = true ∧ 0 ≤ p ∧ p < x.N ∧ len = x.S ∧ openA x.base g = true ∧ ((x.g (farN x g)).getD p.toNat []).length = 0 := by
  unfold shardE at h
  split at h
  · rename_i q1
    split at h
    · rename_i q2
      split at h
      · rename_i q3
        split at h
        · exact absurd h (by decide)
        · rename_i q4
          exact ⟨q1.1, q1.2.1, q1.2.2, q2, placeE_zero q3, by omega⟩
      · rename_i q3; exact absurd h q3
    · exact absurd h (by decide)
  · exact absurd h (by decide)

theorem shardC_ok {x : Col} (h : x.Ok) (g p : Int) {bs : List Nat} (hb : Byt bs) : (shardC x g p bs).Ok := by
  unfold shardC
  split
  · rename_i q
    obtain ⟨_, q2, q3, q4, q5, _⟩ := shardE_zero q
    exact putS_ok h (open_far q5).2 (by omega) q4 hb
  · exact h

theorem skipC_ok {x : Col} (h : x.Ok) (g : Int) : (skipC x g).Ok := by
  unfold skipC
  split
  · exact goneS_ok h _
  · exact h

theorem dueC_ok {x : Col} (h : x.Ok) : (dueC x).Ok := shiftN_ok h _

/-- What Decode answers of a group. -/
theorem dec_part {x : Col} (h : x.Ok) : (x.K ≤ cnt (x.g 0) → decE x.K x.N x.S (x.g 0) = 0 ∧ decA x.K x.N x.S (x.g 0) = (partOf x).data ∧ (partOf x).gap = false) ∧
    (¬ x.K ≤ cnt (x.g 0) → decE x.K x.N x.S (x.g 0) = 8 ∧ decA x.K x.N x.S (x.g 0) = (partOf x).data ∧ (partOf x).gap = true) := by
  have hl : ((x.g 0).length : Int) = (x.N : Int) := by rw [h.len 0 (by omega)]
  have hs : ∀ r, r < (x.g 0).length → ((x.g 0).getD r []).length = 0 ∨ (((x.g 0).getD r []).length : Int) = (x.S : Int) := fun r hr => by
    rcases h.size 0 (by omega) r (by rw [h.len 0 (by omega)] at hr; exact hr) with q | q
    · exact .inl q
    · exact .inr (by rw [q])
  refine ⟨fun q => ?_, fun q => ?_⟩
  · have e := decE_ok h.may hl hs (by unfold cnt at q; omega : (x.K : Int) ≤ ((there (x.g 0)).length : Int))
    unfold partOf
    rw [if_pos q]
    exact ⟨e, by unfold decA; rw [e, if_pos rfl]; rfl, rfl⟩
  · have e := decE_few h.may hl hs (by unfold cnt at q; omega)
    unfold partOf
    rw [if_neg q]
    exact ⟨e, by unfold decA; rw [e, if_neg (by decide)], rfl⟩

end Go.Proofs.Ytceekoifljeddaa.Bt

/- Plain: a collector that holds some shards of texts; no program is named here. -/
namespace Go.Proofs.Ytceekoifljeddaa.Bt

/-- Some of the rows. -/
def rowsH (N : Nat) (R : Nat → List Nat) (H : Nat → Bool) : List (List Nat) := (List.range N).map (fun r => if H r = true then R r else [])

theorem rowsH_length (N : Nat) (R : Nat → List Nat) (H : Nat → Bool) : (rowsH N R H).length = N := by simp [rowsH]

theorem rowsH_getD {N : Nat} {R : Nat → List Nat} {H : Nat → Bool} {r : Nat} (hr : r < N) : (rowsH N R H).getD r [] = if H r = true then R r else [] := by
  rw [← List.getElem_eq_getD (h := by rw [rowsH_length]; exact hr) []]
  simp [rowsH]

theorem rowsH_none (N : Nat) (R : Nat → List Nat) : rowsH N R (fun _ => false) = List.replicate N [] := by
  apply List.ext_getElem
  · simp [rowsH]
  · intro j h1 h2; simp [rowsH]

theorem rowsH_set {N : Nat} {R : Nat → List Nat} {H : Nat → Bool} {k : Nat} : (rowsH N R H).set k (R k) = rowsH N R (fun r => decide (r = k) || H r) := by
  apply List.ext_getElem
  · simp [rowsH]
  · intro j h1 h2
    rw [List.getElem_set]
    simp only [rowsH, List.getElem_map, List.getElem_range]
    by_cases e : k = j
    · subst e; simp
    · rw [if_neg e, decide_eq_false (fun q => e q.symm), Bool.false_or]

/-- How many. -/
def cntH (N : Nat) (H : Nat → Bool) : Nat := ((List.range N).filter H).length

theorem cntH_succ (N : Nat) (H : Nat → Bool) : cntH (N + 1) H = cntH N H + (if H N = true then 1 else 0) := by
  unfold cntH
  rw [List.range_succ, List.filter_append, List.length_append]
  congr 1
  by_cases h : H N = true
  · simp [h]
  · simp [h]

theorem cntH_le (N : Nat) (H : Nat → Bool) : cntH N H ≤ N := by
  unfold cntH
  exact Nat.le_trans (List.length_filter_le _ _) (by simp)

theorem cntH_none (N : Nat) : cntH N (fun _ => false) = 0 := by simp [cntH]

theorem cntH_out {N k : Nat} (H : Nat → Bool) (hk : N ≤ k) : cntH N (fun r => decide (r = k) || H r) = cntH N H := by
  induction N with
  | zero => rfl
  | succ N ih => rw [cntH_succ, cntH_succ, ih (by omega), decide_eq_false (by omega), Bool.false_or]

theorem cntH_put {N k : Nat} {H : Nat → Bool} (hk : k < N) (h : H k = false) : cntH N (fun r => decide (r = k) || H r) = cntH N H + 1 := by
  induction N with
  | zero => omega
  | succ N ih =>
    rw [cntH_succ, cntH_succ]
    by_cases e : k = N
    · subst e
      rw [cntH_out H (Nat.le_refl _), h]
      simp
    · rw [ih (by omega), decide_eq_false (by omega), Bool.false_or]
      omega

theorem cntH_congr {N : Nat} {H G : Nat → Bool} (h : ∀ r, r < N → H r = G r) : cntH N H = cntH N G := by
  induction N with
  | zero => rfl
  | succ N ih => rw [cntH_succ, cntH_succ, ih (fun r hr => h r (by omega)), h N (by omega)]

theorem cntH_all {N : Nat} {H : Nat → Bool} (h : ∀ r, r < N → H r = true) : cntH N H = N := by
  induction N with
  | zero => rfl
  | succ N ih => rw [cntH_succ, ih (fun r hr => h r (by omega)), h N (by omega)]; rfl

theorem there_rowsH {N : Nat} {R : Nat → List Nat} {H : Nat → Bool} (hR : ∀ r, r < N → 0 < (R r).length) : there (rowsH N R H) = (List.range N).filter H := by
  unfold there
  rw [rowsH_length]
  refine List.filter_congr (fun r hr => ?_)
  have hr := List.mem_range.1 hr
  rw [rowsH_getD hr]
  by_cases h : H r = true
  · rw [if_pos h, h]; simpa using hR r hr
  · rw [if_neg h]; simpa using h

theorem cnt_rowsH {N : Nat} {R : Nat → List Nat} {H : Nat → Bool} (hR : ∀ r, r < N → 0 < (R r).length) : cnt (rowsH N R H) = cntH N H := by
  unfold cnt cntH; rw [there_rowsH hR]

/-- A collector that holds some of the rows of each open group. -/
structure Held (K N S G : Nat) (R : Nat → Nat → List Nat) (H : Nat → Nat → Bool) (D : Nat → Bool) (x : Col) : Prop where
  k : x.K = K
  n : x.N = N
  s : x.S = S
  base : x.base = G
  rows : ∀ i, i < 4 → x.g i = rowsH N (R i) (H i)
  gone : ∀ i, i < 4 → x.gone i = D i

theorem held_new (K N S G : Nat) (R : Nat → Nat → List Nat) : Held K N S G R (fun _ _ => false) (fun _ => false) (col0 K N S G) :=
  ⟨rfl, rfl, rfl, rfl, fun i _ => by rw [rowsH_none]; rfl, fun _ _ => rfl⟩

theorem far_of {G i : Nat} (hG : G < 256) (hi : i < 256) : farA (G : Int) (((G + i) % 256 : Nat) : Int) = (i : Int) := by
  rw [farA_in (by omega) (by omega)]
  omega

variable {K N S G : Nat} {R : Nat → Nat → List Nat} {H : Nat → Nat → Bool} {D : Nat → Bool} {x : Col}

theorem Held.congr {H' : Nat → Nat → Bool} {D' : Nat → Bool} (h : Held K N S G R H D x) (hH : ∀ i r, i < 4 → H i r = H' i r) (hD : ∀ i, i < 4 → D i = D' i) : Held K N S G R H' D' x :=
  ⟨h.k, h.n, h.s, h.base, fun i hi => by rw [h.rows i hi, show H i = H' i from funext fun r => hH i r hi], fun i hi => by rw [h.gone i hi, hD i hi]⟩

theorem Held.farN (h : Held K N S G R H D x) (hG : G < 256) {i : Nat} (hi : i < 4) : farN x (((G + i) % 256 : Nat) : Int) = i := by
  unfold Bt.farN
  rw [h.base, far_of hG (by omega)]
  rfl

theorem Held.open_ (h : Held K N S G R H D x) (hG : G < 256) {i : Nat} (hi : i < 4) : openA x.base (((G + i) % 256 : Nat) : Int) = true := by
  unfold openA
  rw [h.base, far_of hG (by omega)]
  simp; omega

theorem Held.place (h : Held K N S G R H D x) (hG : G < 256) {i : Nat} (hi : i < 4) : placeE x (((G + i) % 256 : Nat) : Int) = 0 := by
  unfold placeE
  have hb : behindA x.base (((G + i) % 256 : Nat) : Int) = false := by
    unfold behindA
    rw [h.base, far_of hG (by omega)]
    simp; omega
  rw [hb, h.open_ hG hi]
  rfl

/-- A shard comes. -/
theorem Held.shard (h : Held K N S G R H D x) (hG : G < 256) {i k : Nat} (hi : i < 4) (hk : k < N) (hS : 1 ≤ S) (hl : (R i k).length = S) :
    shardE x (((G + i) % 256 : Nat) : Int) (k : Int) (R i k).length = (if H i k = true then 9 else 0) ∧ Held K N S G R (fun j r => (decide (j = i) && decide (r = k)) || H j r) D (shardC x (((G + i) % 256 : Nat) : Int) (k : Int) (R i k)) := by
  have hp := h.place hG hi
  have hf := h.farN hG hi
  have hrow : (x.g i).getD k [] = if H i k = true then R i k else [] := by rw [h.rows i hi, rowsH_getD hk]
  have he : shardE x (((G + i) % 256 : Nat) : Int) (k : Int) (R i k).length = (if H i k = true then 9 else 0) := by
    unfold shardE
    rw [if_pos ⟨isG_of (by omega), by omega, by rw [h.n]; omega⟩, if_pos (by rw [h.s]; exact hl), if_pos hp, hf, Int.toNat_natCast, hrow]
    by_cases q : H i k = true
    · rw [if_pos q, if_pos (by omega)]; simp [q]
    · rw [if_neg q, if_neg (by simp)]; simp [q]
  refine ⟨he, ?_⟩
  unfold shardC
  by_cases q : H i k = true
  · rw [if_neg (by rw [he, if_pos q]; decide)]
    refine ⟨h.k, h.n, h.s, h.base, fun j hj => ?_, h.gone⟩
    rw [h.rows j hj]
    unfold rowsH
    refine List.map_congr_left (fun r _ => ?_)
    by_cases e : j = i ∧ r = k
    · obtain ⟨rfl, rfl⟩ := e
      simp [q]
    · have : (decide (j = i) && decide (r = k)) = false := by
        rw [Bool.and_eq_false_iff]
        by_cases e1 : j = i
        · exact .inr (decide_eq_false (fun e2 => e ⟨e1, e2⟩))
        · exact .inl (decide_eq_false e1)
      simp only [this, Bool.false_or]
  · rw [if_pos (by rw [he, if_neg q]), hf, Int.toNat_natCast]
    refine ⟨h.k, h.n, h.s, h.base, fun j hj => ?_, h.gone⟩
    show (if j = i then (x.g i).set k (R i k) else x.g j) = _
    by_cases e : j = i
    · rw [if_pos e, h.rows i hi, rowsH_set]
      subst e
      unfold rowsH
      refine List.map_congr_left (fun r _ => ?_)
      simp
    · rw [if_neg e, h.rows j hj]
      unfold rowsH
      refine List.map_congr_left (fun r _ => ?_)
      simp only [decide_eq_false e, Bool.false_and, Bool.false_or]

/-- A group is given up. -/
theorem Held.skip (h : Held K N S G R H D x) (hG : G < 256) {i : Nat} (hi : i < 4) :
    skipE x (((G + i) % 256 : Nat) : Int) = (if D i = true then 9 else 0) ∧ Held K N S G R H (fun j => decide (j = i) || D j) (skipC x (((G + i) % 256 : Nat) : Int)) := by
  have hp := h.place hG hi
  have hf := h.farN hG hi
  have he : skipE x (((G + i) % 256 : Nat) : Int) = (if D i = true then 9 else 0) := by
    unfold skipE
    rw [if_pos (isG_of (by omega)), if_pos hp, hf, h.gone i hi]
  refine ⟨he, ?_⟩
  unfold skipC
  by_cases q : D i = true
  · rw [if_neg (by rw [he, if_pos q]; decide)]
    refine ⟨h.k, h.n, h.s, h.base, h.rows, fun j hj => ?_⟩
    rw [h.gone j hj]
    by_cases e : j = i
    · subst e; simp [q]
    · simp [e]
  · rw [if_pos (by rw [he, if_neg q]), hf]
    refine ⟨h.k, h.n, h.s, h.base, h.rows, fun j hj => ?_⟩
    show (if j = i then true else x.gone j) = _
    by_cases e : j = i
    · simp [e]
    · rw [if_neg e, h.gone j hj]; simp [e]

theorem Held.rdy (h : Held K N S G R H D x) (hR : ∀ i r, i < 4 → r < N → 0 < (R i r).length) {i : Nat} (hi : i < 4) : Bt.rdy x i = (D i || decide (K ≤ cntH N (H i))) := by
  unfold Bt.rdy
  rw [h.gone i hi, h.rows i hi, cnt_rowsH (fun r hr => hR i r hi hr), h.k]

theorem Held.have_ (h : Held K N S G R H D x) (hG : G < 256) (hR : ∀ i r, i < 4 → r < N → 0 < (R i r).length) {i : Nat} (hi : i < 4) : haveN x (((G + i) % 256 : Nat) : Int) = cntH N (H i) := by
  unfold haveN
  rw [if_pos (h.open_ hG hi), h.farN hG hi, h.rows i hi, cnt_rowsH (fun r hr => hR i r hi hr)]

end Go.Proofs.Ytceekoifljeddaa.Bt

/- Plain: what is due of a collector; no program is named here. -/
namespace Go.Proofs.Ytceekoifljeddaa.Bt

theorem shiftN_base {x : Col} (hb : x.base < 256) (t : Nat) : (shiftN t x).base = (x.base + t) % 256 := by
  cases t with
  | zero => show x.base = _; omega
  | succ t =>
    have h := (shiftN_parts (t + 1) x).2.2.2.1
    have : (shiftN (t + 1) x).base < 256 := Nat.mod_lt _ (by decide)
    omega

theorem shiftN_g (x : Col) {t i : Nat} (h : i + t < 4) : (shiftN t x).g i = x.g (i + t) := by
  rw [(shiftN_parts t x).2.2.2.2.1 i (by omega), if_pos h]

theorem shiftN_gone (x : Col) {t i : Nat} (h : i + t < 4) : (shiftN t x).gone i = x.gone (i + t) := by
  rw [(shiftN_parts t x).2.2.2.2.2 i (by omega), if_pos h]

theorem rdy_shift (x : Col) {t i : Nat} (h : i + t < 4) : rdy (shiftN t x) i = rdy x (i + t) := by
  unfold rdy
  rw [shiftN_g x h, shiftN_gone x h, (shiftN_parts t x).1]

theorem rdy_past {x : Col} (hK : 1 ≤ x.K) {t i : Nat} (hi : i < 4) (h : 4 ≤ i + t) : rdy (shiftN t x) i = false := by
  obtain ⟨h1, h2, _, _, h5, h6⟩ := shiftN_parts t x
  exact rdy_empty (by rw [h1]; exact hK) (by rw [h5 i hi, if_neg (by omega), h2]) (by rw [h6 i hi, if_neg (by omega)])

/-- How many are due: as many as are ready, one behind the other. -/
theorem dueM_of {x : Col} {m : Nat} (hm : m ≤ 4) (h1 : ∀ t, t < m → rdy x t = true) (h2 : m < 4 → rdy x m = false) : dueM 4 x = m := by
  have hle := dueM_le 4 x
  rcases Nat.lt_trichotomy (dueM 4 x) m with q | q | q
  · have e := dueM_end 4 x (by omega)
    have e2 := rdy_shift x (t := dueM 4 x) (i := 0) (by omega)
    rw [Nat.zero_add, h1 _ q] at e2
    rw [e2] at e
    cases e
  · exact q
  · have e := dueM_rdy 4 x m q
    have e2 := rdy_shift x (t := m) (i := 0) (by omega)
    rw [Nat.zero_add, h2 (by omega)] at e2
    rw [e2] at e
    cases e

/-- A part. -/
def prtAt (x : Col) (t : Nat) : Prt := if x.K ≤ cnt (x.g t) then ⟨(x.base + t) % 256, false, decT x.K x.S (x.g t)⟩ else ⟨(x.base + t) % 256, true, []⟩

theorem part_at {x : Col} (hb : x.base < 256) {t : Nat} (ht : t < 4) : partOf (shiftN t x) = prtAt x t := by
  have hg := shiftN_g x (t := t) (i := 0) (by omega)
  rw [Nat.zero_add] at hg
  obtain ⟨h1, _, h3, _⟩ := shiftN_parts t x
  unfold partOf prtAt
  rw [hg, h1, h3, shiftN_base hb]

theorem dueP_of {x : Col} (hb : x.base < 256) {m : Nat} (hm : dueM 4 x = m) : dueP x = (List.range m).map (prtAt x) := by
  have := dueM_le 4 x
  unfold dueP
  rw [hm]
  refine List.map_congr_left (fun t ht => part_at hb ?_)
  have := List.mem_range.1 ht
  omega

/-- What is decoded of enough shards of a text. -/
theorem decT_rowsH {K N S : Nat} {text : List Nat} {H : Nat → Bool} (hmay : mayC K N S = true) (ht : Byt text) (hl : text.length = K * S) (hn : K ≤ cntH N H) : decT K S (rowsH N (shL K S text S) H) = text := by
  obtain ⟨h1, h2, h3, h4, h5, h6⟩ := mayC_true hmay
  have hR : ∀ r, r < N → 0 < (shL K S text S r).length := fun r _ => by rw [shL_length]; omega
  refine dec_back (by omega) (by omega) (by rw [rowsH_length]; omega) ht hl ?_ (fun j hj => ?_)
  · rw [there_rowsH hR]; exact hn
  · rw [there_rowsH hR] at hj
    obtain ⟨q1, q2⟩ := List.mem_filter.1 hj
    rw [rowsH_getD (List.mem_range.1 q1), if_pos q2]

theorem readyN_mod (x : Col) : readyN x % 2 = bitN (rdy x 0) := by
  unfold readyN
  have : bitN (rdy x 0) < 2 := by unfold bitN; split <;> omega
  omega

theorem ready_bit (x : Col) {k : Nat} (hk : k < 4) : readyN x / 2 ^ k % 2 = bitN (rdy x k) := by
  have hb : ∀ i, bitN (rdy x i) < 2 := fun i => by unfold bitN; split <;> omega
  have b0 := hb 0
  have b1 := hb 1
  have b2 := hb 2
  have b3 := hb 3
  unfold readyN
  match k, hk with
  | 0, _ => simp only [Nat.pow_zero, Nat.div_one]; omega
  | 1, _ => simp only [Nat.pow_one]; omega
  | 2, _ => show _ / 4 % 2 = _; omega
  | 3, _ => show _ / 8 % 2 = _; omega

theorem ready_none {x : Col} (h : ∀ i, i < 4 → rdy x i = false) : readyN x = 0 := by
  unfold readyN
  rw [h 0 (by omega), h 1 (by omega), h 2 (by omega), h 3 (by omega)]
  rfl

end Go.Proofs.Ytceekoifljeddaa.Bt
