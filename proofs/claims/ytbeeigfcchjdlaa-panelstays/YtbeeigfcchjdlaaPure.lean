/- Plain lemmas on rows of bits and bytes: no program is named here. -/
namespace Go.Proofs.Ytbeeigfcchjdlaa.Bt

def Bits (l : List Nat) : Prop := ∀ b ∈ l, b < 2

def fld : Nat → Nat → List Nat
  | 0, _ => []
  | w + 1, n => fld w (n / 2) ++ [n % 2]

def num (l : List Nat) : Nat := l.foldl (fun a b => 2 * a + b) 0

def packAt (l : List Nat) (j : Nat) : Nat :=
  128 * l.getD (8 * j) 0 + 64 * l.getD (8 * j + 1) 0 + 32 * l.getD (8 * j + 2) 0 + 16 * l.getD (8 * j + 3) 0 + 8 * l.getD (8 * j + 4) 0 + 4 * l.getD (8 * j + 5) 0 + 2 * l.getD (8 * j + 6) 0 + l.getD (8 * j + 7) 0

def pack (l : List Nat) : List Nat := (List.range ((l.length + 7) / 8)).map (packAt l)

def unpack (bs : List Nat) : List Nat := bs.flatMap (fld 8)

theorem fld_length (w n : Nat) : (fld w n).length = w := by
  induction w generalizing n with
  | zero => rfl
  | succ w ih => simp [fld, ih]

theorem fld_bits (w n : Nat) : Bits (fld w n) := by
  induction w generalizing n with
  | zero => intro b h; simp [fld] at h
  | succ w ih =>
    intro b h
    rw [fld, List.mem_append] at h
    rcases h with h | h
    · exact ih _ b h
    · simp at h; omega

theorem bits_append {a b : List Nat} (h : Bits a) (k : Bits b) : Bits (a ++ b) := by
  intro x hx; rw [List.mem_append] at hx; exact hx.elim (h x) (k x)

theorem bits_snoc {a : List Nat} (h : Bits a) {b : Nat} (k : b < 2) : Bits (a ++ [b]) :=
  bits_append h (by intro x hx; simp at hx; omega)

theorem bits_nil : Bits [] := by intro b h; simp at h

theorem num_nil : num [] = 0 := rfl

theorem num_snoc (l : List Nat) (b : Nat) : num (l ++ [b]) = 2 * num l + b := by simp [num]

theorem num_fld (w n : Nat) : num (fld w n) = n % 2 ^ w := by
  induction w generalizing n with
  | zero => simp [fld, num, Nat.mod_one]
  | succ w ih =>
    rw [fld, num_snoc, ih, Nat.pow_succ, Nat.mul_comm (2 ^ w) 2, Nat.mod_mul]
    omega

theorem num_lt (l : List Nat) (h : Bits l) : num l < 2 ^ l.length := by
  have key : ∀ (m : List Nat), Bits m.reverse → num m.reverse < 2 ^ m.reverse.length := by
    intro m
    induction m with
    | nil => intro _; simp [num]
    | cons x xs ih =>
      intro hb
      rw [List.reverse_cons] at hb ⊢
      have h1 := ih (fun b hm => hb b (List.mem_append.2 (Or.inl hm)))
      have h2 := hb x (by simp)
      rw [num_snoc]; simp only [List.length_append, List.length_reverse, List.length_cons, List.length_nil, Nat.pow_add] at h1 ⊢
      omega
  have := key l.reverse
  rw [List.reverse_reverse] at this
  exact this h

/-- Put's step: so many bits are written, and one more. -/
theorem fld_step (w n i : Nat) (h : i < w) : fld (i + 1) (n / 2 ^ (w - (i + 1))) = fld i (n / 2 ^ (w - i)) ++ [n / 2 ^ (w - 1 - i) % 2] := by
  rw [fld, Nat.div_div_eq_div_mul, ← Nat.pow_succ]
  have e1 : (w - (i + 1)).succ = w - i := by omega
  have e2 : w - (i + 1) = w - 1 - i := by omega
  rw [e1, e2]

theorem fld_getD (w n i : Nat) (h : i < w) : (fld w n).getD i 0 = n / 2 ^ (w - 1 - i) % 2 := by
  induction w generalizing n i with
  | zero => omega
  | succ w ih =>
    rw [fld, List.getD_eq_getElem?_getD]
    by_cases hi : i < w
    · rw [List.getElem?_append_left (by rw [fld_length]; exact hi), ← List.getD_eq_getElem?_getD, ih (n / 2) i hi, Nat.div_div_eq_div_mul]
      have e : w + 1 - 1 - i = (w - 1 - i) + 1 := by omega
      rw [e, Nat.pow_succ, Nat.mul_comm]
    · have : i = w := by omega
      subst this
      rw [List.getElem?_append_right (by rw [fld_length]; exact Nat.le_refl _)]
      simp [fld_length]

theorem getD_snoc (l : List Nat) (b i : Nat) : (l ++ [b]).getD i 0 = l.getD i 0 + (if i = l.length then b else 0) := by
  simp only [List.getD_eq_getElem?_getD]
  by_cases h : i < l.length
  · rw [List.getElem?_append_left h, if_neg (by omega)]; rfl
  · rw [List.getElem?_append_right (by omega)]
    by_cases e : i = l.length
    · subst e; simp
    · rw [if_neg e]
      have e1 : i - l.length = (i - l.length - 1) + 1 := by omega
      rw [e1]; simp
      rw [List.getElem?_eq_none (by omega)]; rfl

theorem getD_far (l : List Nat) (i : Nat) (h : l.length ≤ i) : l.getD i 0 = 0 := by
  rw [List.getD_eq_getElem?_getD, List.getElem?_eq_none h]; rfl

theorem getD_bit (l : List Nat) (h : Bits l) (i : Nat) : l.getD i 0 < 2 := by
  rw [List.getD_eq_getElem?_getD]
  by_cases hi : i < l.length
  · rw [List.getElem?_eq_getElem hi]; exact h _ (List.getElem_mem hi)
  · rw [List.getElem?_eq_none (by omega)]; decide

theorem packAt_lt (l : List Nat) (h : Bits l) (j : Nat) : packAt l j < 256 := by
  have h0 := getD_bit l h (8 * j); have h1 := getD_bit l h (8 * j + 1); have h2 := getD_bit l h (8 * j + 2); have h3 := getD_bit l h (8 * j + 3)
  have h4 := getD_bit l h (8 * j + 4); have h5 := getD_bit l h (8 * j + 5); have h6 := getD_bit l h (8 * j + 6); have h7 := getD_bit l h (8 * j + 7)
  unfold packAt; omega

theorem pack_length (l : List Nat) : (pack l).length = (l.length + 7) / 8 := by simp [pack]

theorem pack_getD (l : List Nat) (j : Nat) (h : j < (l.length + 7) / 8) : (pack l).getD j 0 = packAt l j := by
  simp [pack, List.getD_eq_getElem?_getD, h]

theorem pack_nil : pack [] = [] := rfl

theorem packAt_snoc (l : List Nat) (b j : Nat) : packAt (l ++ [b]) j = packAt l j + (if j = l.length / 8 then b * 2 ^ (7 - l.length % 8) else 0) := by
  simp only [packAt, getD_snoc]
  by_cases hj : j = l.length / 8
  · rw [if_pos hj]
    have hr : l.length % 8 < 8 := Nat.mod_lt _ (by decide)
    have hl : l.length = 8 * j + l.length % 8 := by omega
    generalize l.length % 8 = r at hr hl ⊢
    rw [hl]
    match r, hr with
    | 0, _ => simp; omega
    | 1, _ => simp; omega
    | 2, _ => simp; omega
    | 3, _ => simp; omega
    | 4, _ => simp; omega
    | 5, _ => simp; omega
    | 6, _ => simp; omega
    | 7, _ => simp; omega
  · rw [if_neg hj, if_neg (by omega), if_neg (by omega), if_neg (by omega), if_neg (by omega), if_neg (by omega), if_neg (by omega), if_neg (by omega), if_neg (by omega)]
    simp

theorem packAt_far (l : List Nat) (j : Nat) (h : (l.length + 7) / 8 ≤ j) : packAt l j = 0 := by
  simp only [packAt]
  rw [getD_far _ _ (by omega), getD_far _ _ (by omega), getD_far _ _ (by omega), getD_far _ _ (by omega), getD_far _ _ (by omega), getD_far _ _ (by omega), getD_far _ _ (by omega), getD_far _ _ (by omega)]

/-- The row ahead of the store: a byte 0 more where the last one is full. -/
theorem pack_zero_new (l : List Nat) (h : l.length % 8 = 0) : pack (l ++ [0]) = pack l ++ [0] := by
  apply List.ext_getElem
  · simp [pack_length]; omega
  · intro i h1 h2
    rw [pack_length] at h1
    simp at h1
    by_cases hi : i < (l.length + 7) / 8
    · rw [List.getElem_append_left (by rw [pack_length]; exact hi)]
      simp [pack, packAt_snoc]
    · rw [List.getElem_append_right (by rw [pack_length]; omega)]
      simp [pack, packAt_snoc]
      exact packAt_far l i (by omega)

theorem pack_zero_old (l : List Nat) (h : ¬ l.length % 8 = 0) : pack (l ++ [0]) = pack l := by
  apply List.ext_getElem
  · simp [pack_length]; omega
  · intro i h1 h2
    simp [pack, packAt_snoc]

theorem pack_set (l : List Nat) (b : Nat) : pack (l ++ [b]) = (pack (l ++ [0])).set (l.length / 8) (packAt l (l.length / 8) + b * 2 ^ (7 - l.length % 8)) := by
  apply List.ext_getElem
  · simp [pack_length]
  · intro i h1 h2
    rw [List.getElem_set]
    by_cases hi : l.length / 8 = i
    · rw [if_pos hi]; simp [pack, packAt_snoc, hi]
    · rw [if_neg hi]; simp [pack, packAt_snoc, Ne.symm hi]

theorem pack_zero_at (l : List Nat) : (pack (l ++ [0])).getD (l.length / 8) 0 = packAt l (l.length / 8) := by
  rw [pack_getD _ _ (by simp; omega), packAt_snoc]; simp

theorem packAt_or (l : List Nat) (b : Nat) (hb : b < 2) : packAt l (l.length / 8) ||| b * 2 ^ (7 - l.length % 8) = packAt l (l.length / 8) + b * 2 ^ (7 - l.length % 8) := by
  have hr : l.length % 8 < 8 := Nat.mod_lt _ (by decide)
  have hl : l.length = 8 * (l.length / 8) + l.length % 8 := by omega
  have key : ∃ y, packAt l (l.length / 8) = 2 ^ (8 - l.length % 8) * y := by
    generalize hj : l.length / 8 = j at *
    have g0 := getD_far l (8 * j); have g1 := getD_far l (8 * j + 1); have g2 := getD_far l (8 * j + 2); have g3 := getD_far l (8 * j + 3)
    have g4 := getD_far l (8 * j + 4); have g5 := getD_far l (8 * j + 5); have g6 := getD_far l (8 * j + 6); have g7 := getD_far l (8 * j + 7)
    generalize l.length % 8 = r at hr hl ⊢
    unfold packAt
    match r, hr with
    | 0, _ => exact ⟨0, by rw [g0 (by omega), g1 (by omega), g2 (by omega), g3 (by omega), g4 (by omega), g5 (by omega), g6 (by omega), g7 (by omega)]⟩
    | 1, _ => exact ⟨l.getD (8 * j) 0, by rw [g1 (by omega), g2 (by omega), g3 (by omega), g4 (by omega), g5 (by omega), g6 (by omega), g7 (by omega)]; simp⟩
    | 2, _ => exact ⟨2 * l.getD (8 * j) 0 + l.getD (8 * j + 1) 0, by rw [g2 (by omega), g3 (by omega), g4 (by omega), g5 (by omega), g6 (by omega), g7 (by omega)]; simp; omega⟩
    | 3, _ => exact ⟨4 * l.getD (8 * j) 0 + 2 * l.getD (8 * j + 1) 0 + l.getD (8 * j + 2) 0, by rw [g3 (by omega), g4 (by omega), g5 (by omega), g6 (by omega), g7 (by omega)]; simp; omega⟩
    | 4, _ => exact ⟨8 * l.getD (8 * j) 0 + 4 * l.getD (8 * j + 1) 0 + 2 * l.getD (8 * j + 2) 0 + l.getD (8 * j + 3) 0, by rw [g4 (by omega), g5 (by omega), g6 (by omega), g7 (by omega)]; simp; omega⟩
    | 5, _ => exact ⟨16 * l.getD (8 * j) 0 + 8 * l.getD (8 * j + 1) 0 + 4 * l.getD (8 * j + 2) 0 + 2 * l.getD (8 * j + 3) 0 + l.getD (8 * j + 4) 0, by rw [g5 (by omega), g6 (by omega), g7 (by omega)]; simp; omega⟩
    | 6, _ => exact ⟨32 * l.getD (8 * j) 0 + 16 * l.getD (8 * j + 1) 0 + 8 * l.getD (8 * j + 2) 0 + 4 * l.getD (8 * j + 3) 0 + 2 * l.getD (8 * j + 4) 0 + l.getD (8 * j + 5) 0, by rw [g6 (by omega), g7 (by omega)]; simp; omega⟩
    | 7, _ => exact ⟨64 * l.getD (8 * j) 0 + 32 * l.getD (8 * j + 1) 0 + 16 * l.getD (8 * j + 2) 0 + 8 * l.getD (8 * j + 3) 0 + 4 * l.getD (8 * j + 4) 0 + 2 * l.getD (8 * j + 5) 0 + l.getD (8 * j + 6) 0, by rw [g7 (by omega)]; simp; omega⟩
  obtain ⟨y, hy⟩ := key
  rw [hy]
  refine (Nat.two_pow_add_eq_or_of_lt ?_ y).symm
  have e : 8 - l.length % 8 = (7 - l.length % 8) + 1 := by omega
  rw [e, Nat.pow_succ]
  have hp : 0 < 2 ^ (7 - l.length % 8) := Nat.pow_pos (by decide)
  rcases (show b = 0 ∨ b = 1 by omega) with rfl | rfl <;> omega

theorem unpack_length (bs : List Nat) : (unpack bs).length = 8 * bs.length := by
  induction bs with
  | nil => rfl
  | cons x xs ih => simp only [unpack, List.flatMap_cons, List.length_append, fld_length, List.length_cons] at *; omega

theorem unpack_bits (bs : List Nat) : Bits (unpack bs) := by
  intro b h; simp only [unpack, List.mem_flatMap] at h
  obtain ⟨x, _, h⟩ := h; exact fld_bits _ _ b h

theorem unpack_cons (x : Nat) (xs : List Nat) : unpack (x :: xs) = fld 8 x ++ unpack xs := by simp [unpack]

theorem unpack_append (a b : List Nat) : unpack (a ++ b) = unpack a ++ unpack b := by simp [unpack]

theorem unpack_getD (bs : List Nat) (i : Nat) (h : i < 8 * bs.length) : (unpack bs).getD i 0 = bs.getD (i / 8) 0 / 2 ^ (7 - i % 8) % 2 := by
  induction bs generalizing i with
  | nil => simp at h
  | cons x xs ih =>
    rw [unpack_cons, List.getD_eq_getElem?_getD]
    by_cases hi : i < 8
    · rw [List.getElem?_append_left (by rw [fld_length]; exact hi), ← List.getD_eq_getElem?_getD, fld_getD 8 x i hi]
      have e1 : i / 8 = 0 := by omega
      have e2 : i % 8 = i := by omega
      rw [e1, e2]; simp
    · rw [List.getElem?_append_right (by rw [fld_length]; omega), fld_length, ← List.getD_eq_getElem?_getD, ih (i - 8) (by simp at h; omega)]
      have e1 : i / 8 = (i - 8) / 8 + 1 := by omega
      have e2 : (i - 8) % 8 = i % 8 := by omega
      rw [e1, e2]; simp

/-- A bit more that is read. -/
theorem num_take_succ (u : List Nat) (pos k : Nat) (h : pos + k < u.length) : num ((u.drop pos).take (k + 1)) = 2 * num ((u.drop pos).take k) + u.getD (pos + k) 0 := by
  rw [List.take_succ_eq_append_getElem (by simp; omega), num_snoc]
  simp [List.getD_eq_getElem?_getD, h]

theorem bits_take {l : List Nat} (h : Bits l) (k : Nat) : Bits (l.take k) := fun b hb => h b (List.mem_of_mem_take hb)
theorem bits_drop {l : List Nat} (h : Bits l) (k : Nat) : Bits (l.drop k) := fun b hb => h b (List.mem_of_mem_drop hb)

theorem num_take_lt (u : List Nat) (hu : Bits u) (pos k : Nat) (hk : k ≤ 32) : num ((u.drop pos).take k) < 2 ^ 32 := by
  refine Nat.lt_of_lt_of_le (num_lt _ (bits_take (bits_drop hu _) _)) (Nat.pow_le_pow_right (by decide) ?_)
  simp; omega

/-- A field as two. -/
theorem fld_split (a b n : Nat) : fld (a + b) n = fld a (n / 2 ^ b) ++ fld b (n % 2 ^ b) := by
  induction b generalizing n with
  | zero => simp [fld]
  | succ b ih =>
    rw [← Nat.add_assoc, fld, ih, fld, Nat.div_div_eq_div_mul, List.append_assoc]
    have e1 : 2 * 2 ^ b = 2 ^ (b + 1) := by rw [Nat.pow_succ, Nat.mul_comm]
    have e2 : n % 2 ^ (b + 1) / 2 = n / 2 % 2 ^ b := by
      rw [← e1, Nat.mod_mul]; omega
    have e3 : n % 2 ^ (b + 1) % 2 = n % 2 := by
      rw [← e1]; exact Nat.mod_mul_right_mod n 2 (2 ^ b)
    rw [e1, e2, e3]

theorem unpack_take_succ (bs : List Nat) (k : Nat) (h : k < bs.length) : unpack (bs.take (k + 1)) = unpack (bs.take k) ++ fld 8 bs[k] := by
  rw [List.take_succ_eq_append_getElem h, unpack_append]
  simp [unpack]

/-- A byte's bits. -/
theorem unpack_chunk (bs : List Nat) (k : Nat) (h : k < bs.length) : ((unpack bs).drop (8 * k)).take 8 = fld 8 bs[k] := by
  have e : unpack bs = unpack (bs.take k) ++ (fld 8 bs[k] ++ unpack (bs.drop (k + 1))) := by
    rw [← unpack_cons, ← unpack_append]
    simp
  have hl : (unpack (bs.take k)).length = 8 * k := by rw [unpack_length]; simp; omega
  rw [e, List.drop_append_of_le_length (by omega), ← hl, List.drop_length, List.nil_append, List.take_append_of_le_length (by rw [fld_length]; exact Nat.le_refl _)]
  exact List.take_of_length_le (by rw [fld_length]; exact Nat.le_refl _)

theorem byte_sum : ∀ x, x < 256 → 128 * (x / 128 % 2) + 64 * (x / 64 % 2) + 32 * (x / 32 % 2) + 16 * (x / 16 % 2) + 8 * (x / 8 % 2) + 4 * (x / 4 % 2) + 2 * (x / 2 % 2) + x / 1 % 2 = x := by
  set_option maxRecDepth 10000 in decide

theorem pack_unpack (bs : List Nat) (h : ∀ b ∈ bs, b < 256) : pack (unpack bs) = bs := by
  apply List.ext_getElem
  · rw [pack_length, unpack_length]; omega
  · intro j h1 h2
    have hb := h bs[j] (List.getElem_mem h2)
    simp only [pack, List.getElem_map, List.getElem_range, packAt]
    have g : ∀ k, k < 8 → (unpack bs).getD (8 * j + k) 0 = bs[j] / 2 ^ (7 - k) % 2 := by
      intro k hk
      rw [unpack_getD bs _ (by omega)]
      have e1 : (8 * j + k) / 8 = j := by omega
      have e2 : (8 * j + k) % 8 = k := by omega
      rw [e1, e2, List.getD_eq_getElem?_getD, List.getElem?_eq_getElem h2]; rfl
    have g0 := g 0 (by omega); have g1 := g 1 (by omega); have g2 := g 2 (by omega); have g3 := g 3 (by omega)
    have g4 := g 4 (by omega); have g5 := g 5 (by omega); have g6 := g 6 (by omega); have g7 := g 7 (by omega)
    simp only [Nat.add_zero] at g0
    rw [g0, g1, g2, g3, g4, g5, g6, g7]
    exact byte_sum bs[j] hb

end Go.Proofs.Ytbeeigfcchjdlaa.Bt
