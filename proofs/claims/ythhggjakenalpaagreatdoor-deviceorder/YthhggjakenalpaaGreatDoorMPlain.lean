/- Several texts, one behind the other: Pure Order0 CrcPure CrcRev CrcNear FramePure FieldPure RsPure RsElim RsSolve RsAns SqPure SnPure RcPure DvPure RcBits RsDecP SnRightP DvOut SnTk SnAck CoPure CoHeld CoDue DvOrdP. -/
import GoSem.Op.String
/- Plain lemmas on rows of bits and bytes: no program is named here. -/
namespace Go.Proofs.YthhggjakenalpaaGreatDoor.Bt
set_option maxRecDepth 100000

def Bits (l : List Nat) : Prop := ∀ b ∈ l, b < 2

def fld : Nat → Nat → List Nat
  | 0, _ => []
  | w + 1, n => fld w (n / 2) ++ [n % 2]

def num (l : List Nat) : Nat := l.foldl (fun a b => 2 * a + b) 0

def packAt (l : List Nat) (j : Nat) : Nat :=
  128 * l.getD (8 * j) 0 + 64 * l.getD (8 * j + 1) 0 + 32 * l.getD (8 * j + 2) 0 + 16 * l.getD (8 * j + 3) 0 + 8 * l.getD (8 * j + 4) 0 + 4 * l.getD (8 * j + 5) 0 + 2 * l.getD (8 * j + 6) 0 + l.getD (8 * j + 7) 0

def pack (l : List Nat) : List Nat := (List.range ((l.length + 7) / 8)).map (packAt l)

def unpack (bs : List Nat) : List Nat := bs.flatMap (fld 8)

theorem fld_length (w n : Nat) : (fld w n).length = w := by
  induction w generalizing n with
  | zero => rfl
  | succ w ih => simp [fld, ih]

theorem fld_bits (w n : Nat) : Bits (fld w n) := by
  induction w generalizing n with
  | zero => intro b h; simp [fld] at h
  | succ w ih =>
    intro b h
    rw [fld, List.mem_append] at h
    rcases h with h | h
    · exact ih _ b h
    · simp at h; omega

theorem bits_append {a b : List Nat} (h : Bits a) (k : Bits b) : Bits (a ++ b) := by
  intro x hx; rw [List.mem_append] at hx; exact hx.elim (h x) (k x)

theorem bits_snoc {a : List Nat} (h : Bits a) {b : Nat} (k : b < 2) : Bits (a ++ [b]) :=
  bits_append h (by intro x hx; simp at hx; omega)

theorem bits_nil : Bits [] := by intro b h; simp at h

theorem num_nil : num [] = 0 := rfl

theorem num_snoc (l : List Nat) (b : Nat) : num (l ++ [b]) = 2 * num l + b := by simp [num]

theorem num_fld (w n : Nat) : num (fld w n) = n % 2 ^ w := by
  induction w generalizing n with
  | zero => simp [fld, num, Nat.mod_one]
  | succ w ih =>
    rw [fld, num_snoc, ih, Nat.pow_succ, Nat.mul_comm (2 ^ w) 2, Nat.mod_mul]
    omega

theorem num_lt (l : List Nat) (h : Bits l) : num l < 2 ^ l.length := by
  have key : ∀ (m : List Nat), Bits m.reverse → num m.reverse < 2 ^ m.reverse.length := by
    intro m
    induction m with
    | nil => intro _; simp [num]
    | cons x xs ih =>
      intro hb
      rw [List.reverse_cons] at hb ⊢
      have h1 := ih (fun b hm => hb b (List.mem_append.2 (Or.inl hm)))
      have h2 := hb x (by simp)
      rw [num_snoc]; simp only [List.length_append, List.length_reverse, List.length_cons, List.length_nil, Nat.pow_add] at h1 ⊢
      omega
  have := key l.reverse
  rw [List.reverse_reverse] at this
  exact this h

/-- Put's step: so many bits are written, and one more. -/
theorem fld_step (w n i : Nat) (h : i < w) : fld (i + 1) (n / 2 ^ (w - (i + 1))) = fld i (n / 2 ^ (w - i)) ++ [n / 2 ^ (w - 1 - i) % 2] := by
  rw [fld, Nat.div_div_eq_div_mul, ← Nat.pow_succ]
  have e1 : (w - (i + 1)).succ = w - i := by omega
  have e2 : w - (i + 1) = w - 1 - i := by omega
  rw [e1, e2]

theorem fld_getD (w n i : Nat) (h : i < w) : (fld w n).getD i 0 = n / 2 ^ (w - 1 - i) % 2 := by
  induction w generalizing n i with
  | zero => omega
  | succ w ih =>
    rw [fld, List.getD_eq_getElem?_getD]
    by_cases hi : i < w
    · rw [List.getElem?_append_left (by rw [fld_length]; exact hi), ← List.getD_eq_getElem?_getD, ih (n / 2) i hi, Nat.div_div_eq_div_mul]
      have e : w + 1 - 1 - i = (w - 1 - i) + 1 := by omega
      rw [e, Nat.pow_succ, Nat.mul_comm]
    · have : i = w := by omega
      subst this
      rw [List.getElem?_append_right (by rw [fld_length]; exact Nat.le_refl _)]
      simp [fld_length]

theorem getD_snoc (l : List Nat) (b i : Nat) : (l ++ [b]).getD i 0 = l.getD i 0 + (if i = l.length then b else 0) := by
  simp only [List.getD_eq_getElem?_getD]
  by_cases h : i < l.length
  · rw [List.getElem?_append_left h, if_neg (by omega)]; rfl
  · rw [List.getElem?_append_right (by omega)]
    by_cases e : i = l.length
    · subst e; simp
    · rw [if_neg e]
      have e1 : i - l.length = (i - l.length - 1) + 1 := by omega
      rw [e1]; simp
      rw [List.getElem?_eq_none (by omega)]; rfl

theorem getD_far (l : List Nat) (i : Nat) (h : l.length ≤ i) : l.getD i 0 = 0 := by
  rw [List.getD_eq_getElem?_getD, List.getElem?_eq_none h]; rfl

theorem getD_bit (l : List Nat) (h : Bits l) (i : Nat) : l.getD i 0 < 2 := by
  rw [List.getD_eq_getElem?_getD]
  by_cases hi : i < l.length
  · rw [List.getElem?_eq_getElem hi]; exact h _ (List.getElem_mem hi)
  · rw [List.getElem?_eq_none (by omega)]; decide

theorem packAt_lt (l : List Nat) (h : Bits l) (j : Nat) : packAt l j < 256 := by
  have h0 := getD_bit l h (8 * j); have h1 := getD_bit l h (8 * j + 1); have h2 := getD_bit l h (8 * j + 2); have h3 := getD_bit l h (8 * j + 3)
  have h4 := getD_bit l h (8 * j + 4); have h5 := getD_bit l h (8 * j + 5); have h6 := getD_bit l h (8 * j + 6); have h7 := getD_bit l h (8 * j + 7)
  unfold packAt; omega

theorem pack_length (l : List Nat) : (pack l).length = (l.length + 7) / 8 := by simp [pack]

theorem pack_getD (l : List Nat) (j : Nat) (h : j < (l.length + 7) / 8) : (pack l).getD j 0 = packAt l j := by
  simp [pack, List.getD_eq_getElem?_getD, h]

theorem pack_nil : pack [] = [] := rfl

theorem packAt_snoc (l : List Nat) (b j : Nat) : packAt (l ++ [b]) j = packAt l j + (if j = l.length / 8 then b * 2 ^ (7 - l.length % 8) else 0) := by
  simp only [packAt, getD_snoc]
  by_cases hj : j = l.length / 8
  · rw [if_pos hj]
    have hr : l.length % 8 < 8 := Nat.mod_lt _ (by decide)
    have hl : l.length = 8 * j + l.length % 8 := by omega
    generalize l.length % 8 = r at hr hl ⊢
    rw [hl]
    match r, hr with
    | 0, _ => simp; omega
    | 1, _ => simp; omega
    | 2, _ => simp; omega
    | 3, _ => simp; omega
    | 4, _ => simp; omega
    | 5, _ => simp; omega
    | 6, _ => simp; omega
    | 7, _ => simp; omega
  · rw [if_neg hj, if_neg (by omega), if_neg (by omega), if_neg (by omega), if_neg (by omega), if_neg (by omega), if_neg (by omega), if_neg (by omega), if_neg (by omega)]
    simp

theorem packAt_far (l : List Nat) (j : Nat) (h : (l.length + 7) / 8 ≤ j) : packAt l j = 0 := by
  simp only [packAt]
  rw [getD_far _ _ (by omega), getD_far _ _ (by omega), getD_far _ _ (by omega), getD_far _ _ (by omega), getD_far _ _ (by omega), getD_far _ _ (by omega), getD_far _ _ (by omega), getD_far _ _ (by omega)]

/-- The row ahead of the store: a byte 0 more where the last one is full. -/
theorem pack_zero_new (l : List Nat) (h : l.length % 8 = 0) : pack (l ++ [0]) = pack l ++ [0] := by
  apply List.ext_getElem
  · simp [pack_length]; omega
  · intro i h1 h2
    rw [pack_length] at h1
    simp at h1
    by_cases hi : i < (l.length + 7) / 8
    · rw [List.getElem_append_left (by rw [pack_length]; exact hi)]
      simp [pack, packAt_snoc]
    · rw [List.getElem_append_right (by rw [pack_length]; omega)]
      simp [pack, packAt_snoc]
      exact packAt_far l i (by omega)

theorem pack_zero_old (l : List Nat) (h : ¬ l.length % 8 = 0) : pack (l ++ [0]) = pack l := by
  apply List.ext_getElem
  · simp [pack_length]; omega
  · intro i h1 h2
    simp [pack, packAt_snoc]

theorem pack_set (l : List Nat) (b : Nat) : pack (l ++ [b]) = (pack (l ++ [0])).set (l.length / 8) (packAt l (l.length / 8) + b * 2 ^ (7 - l.length % 8)) := by
  apply List.ext_getElem
  · simp [pack_length]
  · intro i h1 h2
    rw [List.getElem_set]
    by_cases hi : l.length / 8 = i
    · rw [if_pos hi]; simp [pack, packAt_snoc, hi]
    · rw [if_neg hi]; simp [pack, packAt_snoc, Ne.symm hi]

theorem pack_zero_at (l : List Nat) : (pack (l ++ [0])).getD (l.length / 8) 0 = packAt l (l.length / 8) := by
  rw [pack_getD _ _ (by simp; omega), packAt_snoc]; simp

theorem packAt_or (l : List Nat) (b : Nat) (hb : b < 2) : packAt l (l.length / 8) ||| b * 2 ^ (7 - l.length % 8) = packAt l (l.length / 8) + b * 2 ^ (7 - l.length % 8) := by
  have hr : l.length % 8 < 8 := Nat.mod_lt _ (by decide)
  have hl : l.length = 8 * (l.length / 8) + l.length % 8 := by omega
  have key : ∃ y, packAt l (l.length / 8) = 2 ^ (8 - l.length % 8) * y := by
    generalize hj : l.length / 8 = j at *
    have g0 := getD_far l (8 * j); have g1 := getD_far l (8 * j + 1); have g2 := getD_far l (8 * j + 2); have g3 := getD_far l (8 * j + 3)
    have g4 := getD_far l (8 * j + 4); have g5 := getD_far l (8 * j + 5); have g6 := getD_far l (8 * j + 6); have g7 := getD_far l (8 * j + 7)
    generalize l.length % 8 = r at hr hl ⊢
    unfold packAt
    match r, hr with
    | 0, _ => exact ⟨0, by rw [g0 (by omega), g1 (by omega), g2 (by omega), g3 (by omega), g4 (by omega), g5 (by omega), g6 (by omega), g7 (by omega)]⟩
    | 1, _ => exact ⟨l.getD (8 * j) 0, by rw [g1 (by omega), g2 (by omega), g3 (by omega), g4 (by omega), g5 (by omega), g6 (by omega), g7 (by omega)]; simp⟩
    | 2, _ => exact ⟨2 * l.getD (8 * j) 0 + l.getD (8 * j + 1) 0, by rw [g2 (by omega), g3 (by omega), g4 (by omega), g5 (by omega), g6 (by omega), g7 (by omega)]; simp; omega⟩
    | 3, _ => exact ⟨4 * l.getD (8 * j) 0 + 2 * l.getD (8 * j + 1) 0 + l.getD (8 * j + 2) 0, by rw [g3 (by omega), g4 (by omega), g5 (by omega), g6 (by omega), g7 (by omega)]; simp; omega⟩
    | 4, _ => exact ⟨8 * l.getD (8 * j) 0 + 4 * l.getD (8 * j + 1) 0 + 2 * l.getD (8 * j + 2) 0 + l.getD (8 * j + 3) 0, by rw [g4 (by omega), g5 (by omega), g6 (by omega), g7 (by omega)]; simp; omega⟩
    | 5, _ => exact ⟨16 * l.getD (8 * j) 0 + 8 * l.getD (8 * j + 1) 0 + 4 * l.getD (8 * j + 2) 0 + 2 * l.getD (8 * j + 3) 0 + l.getD (8 * j + 4) 0, by rw [g5 (by omega), g6 (by omega), g7 (by omega)]; simp; omega⟩
    | 6, _ => exact ⟨32 * l.getD (8 * j) 0 + 16 * l.getD (8 * j + 1) 0 + 8 * l.getD (8 * j + 2) 0 + 4 * l.getD (8 * j + 3) 0 + 2 * l.getD (8 * j + 4) 0 + l.getD (8 * j + 5) 0, by rw [g6 (by omega), g7 (by omega)]; simp; omega⟩
    | 7, _ => exact ⟨64 * l.getD (8 * j) 0 + 32 * l.getD (8 * j + 1) 0 + 16 * l.getD (8 * j + 2) 0 + 8 * l.getD (8 * j + 3) 0 + 4 * l.getD (8 * j + 4) 0 + 2 * l.getD (8 * j + 5) 0 + l.getD (8 * j + 6) 0, by rw [g7 (by omega)]; simp; omega⟩
  obtain ⟨y, hy⟩ := key
  rw [hy]
  refine (Nat.two_pow_add_eq_or_of_lt ?_ y).symm
  have e : 8 - l.length % 8 = (7 - l.length % 8) + 1 := by omega
  rw [e, Nat.pow_succ]
  have hp : 0 < 2 ^ (7 - l.length % 8) := Nat.pow_pos (by decide)
  rcases (show b = 0 ∨ b = 1 by omega) with rfl | rfl <;> omega

theorem unpack_length (bs : List Nat) : (unpack bs).length = 8 * bs.length := by
  induction bs with
  | nil => rfl
  | cons x xs ih => simp only [unpack, List.flatMap_cons, List.length_append, fld_length, List.length_cons] at *; omega

theorem unpack_bits (bs : List Nat) : Bits (unpack bs) := by
  intro b h; simp only [unpack, List.mem_flatMap] at h
  obtain ⟨x, _, h⟩ := h; exact fld_bits _ _ b h

theorem unpack_cons (x : Nat) (xs : List Nat) : unpack (x :: xs) = fld 8 x ++ unpack xs := by simp [unpack]

theorem unpack_append (a b : List Nat) : unpack (a ++ b) = unpack a ++ unpack b := by simp [unpack]

theorem unpack_getD (bs : List Nat) (i : Nat) (h : i < 8 * bs.length) : (unpack bs).getD i 0 = bs.getD (i / 8) 0 / 2 ^ (7 - i % 8) % 2 := by
  induction bs generalizing i with
  | nil => simp at h
  | cons x xs ih =>
    rw [unpack_cons, List.getD_eq_getElem?_getD]
    by_cases hi : i < 8
    · rw [List.getElem?_append_left (by rw [fld_length]; exact hi), ← List.getD_eq_getElem?_getD, fld_getD 8 x i hi]
      have e1 : i / 8 = 0 := by omega
      have e2 : i % 8 = i := by omega
      rw [e1, e2]; simp
    · rw [List.getElem?_append_right (by rw [fld_length]; omega), fld_length, ← List.getD_eq_getElem?_getD, ih (i - 8) (by simp at h; omega)]
      have e1 : i / 8 = (i - 8) / 8 + 1 := by omega
      have e2 : (i - 8) % 8 = i % 8 := by omega
      rw [e1, e2]; simp

/-- A bit more that is read. -/
theorem num_take_succ (u : List Nat) (pos k : Nat) (h : pos + k < u.length) : num ((u.drop pos).take (k + 1)) = 2 * num ((u.drop pos).take k) + u.getD (pos + k) 0 := by
  rw [List.take_succ_eq_append_getElem (by simp; omega), num_snoc]
  simp [List.getD_eq_getElem?_getD, h]

theorem bits_take {l : List Nat} (h : Bits l) (k : Nat) : Bits (l.take k) := fun b hb => h b (List.mem_of_mem_take hb)
theorem bits_drop {l : List Nat} (h : Bits l) (k : Nat) : Bits (l.drop k) := fun b hb => h b (List.mem_of_mem_drop hb)

theorem num_take_lt (u : List Nat) (hu : Bits u) (pos k : Nat) (hk : k ≤ 32) : num ((u.drop pos).take k) < 2 ^ 32 := by
  refine Nat.lt_of_lt_of_le (num_lt _ (bits_take (bits_drop hu _) _)) (Nat.pow_le_pow_right (by decide) ?_)
  simp; omega

/-- A field as two. -/
theorem fld_split (a b n : Nat) : fld (a + b) n = fld a (n / 2 ^ b) ++ fld b (n % 2 ^ b) := by
  induction b generalizing n with
  | zero => simp [fld]
  | succ b ih =>
    rw [← Nat.add_assoc, fld, ih, fld, Nat.div_div_eq_div_mul, List.append_assoc]
    have e1 : 2 * 2 ^ b = 2 ^ (b + 1) := by rw [Nat.pow_succ, Nat.mul_comm]
    have e2 : n % 2 ^ (b + 1) / 2 = n / 2 % 2 ^ b := by
      rw [← e1, Nat.mod_mul]; omega
    have e3 : n % 2 ^ (b + 1) % 2 = n % 2 := by
      rw [← e1]; exact Nat.mod_mul_right_mod n 2 (2 ^ b)
    rw [e1, e2, e3]

theorem unpack_take_succ (bs : List Nat) (k : Nat) (h : k < bs.length) : unpack (bs.take (k + 1)) = unpack (bs.take k) ++ fld 8 bs[k] := by
  rw [List.take_succ_eq_append_getElem h, unpack_append]
  simp [unpack]

/-- A byte's bits. -/
theorem unpack_chunk (bs : List Nat) (k : Nat) (h : k < bs.length) : ((unpack bs).drop (8 * k)).take 8 = fld 8 bs[k] := by
  have e : unpack bs = unpack (bs.take k) ++ (fld 8 bs[k] ++ unpack (bs.drop (k + 1))) := by
    rw [← unpack_cons, ← unpack_append]
    simp
  have hl : (unpack (bs.take k)).length = 8 * k := by rw [unpack_length]; simp; omega
  rw [e, List.drop_append_of_le_length (by omega), ← hl, List.drop_length, List.nil_append, List.take_append_of_le_length (by rw [fld_length]; exact Nat.le_refl _)]
  exact List.take_of_length_le (by rw [fld_length]; exact Nat.le_refl _)

theorem byte_sum : ∀ x, x < 256 → 128 * (x / 128 % 2) + 64 * (x / 64 % 2) + 32 * (x / 32 % 2) + 16 * (x / 16 % 2) + 8 * (x / 8 % 2) + 4 * (x / 4 % 2) + 2 * (x / 2 % 2) + x / 1 % 2 = x := by
  set_option maxRecDepth 10000 in decide

theorem pack_unpack (bs : List Nat) (h : ∀ b ∈ bs, b < 256) : pack (unpack bs) = bs := by
  apply List.ext_getElem
  · rw [pack_length, unpack_length]; omega
  · intro j h1 h2
    have hb := h bs[j] (List.getElem_mem h2)
    simp only [pack, List.getElem_map, List.getElem_range, packAt]
    have g : ∀ k, k < 8 → (unpack bs).getD (8 * j + k) 0 = bs[j] / 2 ^ (7 - k) % 2 := by
      intro k hk
      rw [unpack_getD bs _ (by omega)]
      have e1 : (8 * j + k) / 8 = j := by omega
      have e2 : (8 * j + k) % 8 = k := by omega
      rw [e1, e2, List.getD_eq_getElem?_getD, List.getElem?_eq_getElem h2]; rfl
    have g0 := g 0 (by omega); have g1 := g 1 (by omega); have g2 := g 2 (by omega); have g3 := g 3 (by omega)
    have g4 := g 4 (by omega); have g5 := g 5 (by omega); have g6 := g 6 (by omega); have g7 := g 7 (by omega)
    simp only [Nat.add_zero] at g0
    rw [g0, g1, g2, g3, g4, g5, g6, g7]
    exact byte_sum bs[j] hb

end Go.Proofs.YthhggjakenalpaaGreatDoor.Bt

/- Plain lemmas: bits as numbers, and the order of rows of bytes. -/
namespace Go.Proofs.YthhggjakenalpaaGreatDoor.Bt
set_option maxRecDepth 100000

theorem num_append (a b : List Nat) : num (a ++ b) = num a * 2 ^ b.length + num b := by
  have key : ∀ (m : List Nat), num (a ++ m.reverse) = num a * 2 ^ m.reverse.length + num m.reverse := by
    intro m
    induction m with
    | nil => simp [num_nil]
    | cons x xs ih =>
      rw [List.reverse_cons, ← List.append_assoc, num_snoc, num_snoc, ih]
      simp only [List.length_append, List.length_cons, List.length_nil, Nat.pow_add]
      generalize 2 ^ xs.reverse.length = P
      rw [show P * 2 ^ (0 + 1) = P * 2 from rfl, ← Nat.mul_assoc]
      omega
  have := key b.reverse
  rw [List.reverse_reverse] at this
  exact this

theorem num_zeros (l : List Nat) (z : Nat) : num (l ++ List.replicate z 0) = num l * 2 ^ z := by
  have h0 : ∀ z, num (List.replicate z 0) = 0 := by
    intro z
    induction z with
    | zero => rfl
    | succ z ih => rw [List.replicate_succ', num_snoc, ih]
  rw [num_append, h0]; simp

theorem packAt_bit (l : List Nat) (h : Bits l) (j k : Nat) (hk : k < 8) : packAt l j / 2 ^ (7 - k) % 2 = l.getD (8 * j + k) 0 := by
  have h0 := getD_bit l h (8 * j); have h1 := getD_bit l h (8 * j + 1); have h2 := getD_bit l h (8 * j + 2); have h3 := getD_bit l h (8 * j + 3)
  have h4 := getD_bit l h (8 * j + 4); have h5 := getD_bit l h (8 * j + 5); have h6 := getD_bit l h (8 * j + 6); have h7 := getD_bit l h (8 * j + 7)
  unfold packAt
  match k, hk with
  | 0, _ => simp only [Nat.add_zero]; omega
  | 1, _ => omega
  | 2, _ => omega
  | 3, _ => omega
  | 4, _ => omega
  | 5, _ => omega
  | 6, _ => omega
  | 7, _ => simp only [Nat.sub_self, Nat.pow_zero, Nat.div_one]; omega

/-- The bits of the bytes of bits: these, and noughts. -/
theorem unpack_pack (l : List Nat) (h : Bits l) : unpack (pack l) = l ++ List.replicate (8 * ((l.length + 7) / 8) - l.length) 0 := by
  apply List.ext_getElem
  · rw [unpack_length, pack_length]; simp; omega
  · intro i h1 h2
    rw [unpack_length, pack_length] at h1
    have e1 : (unpack (pack l))[i] = (unpack (pack l)).getD i 0 := by
      rw [List.getD_eq_getElem?_getD, List.getElem?_eq_getElem]; rfl
    have hp := pack_length l
    rw [e1, unpack_getD _ _ (by omega), pack_getD l _ (by omega), packAt_bit l h _ _ (Nat.mod_lt _ (by decide))]
    have e2 : 8 * (i / 8) + i % 8 = i := by omega
    rw [e2, List.getD_eq_getElem?_getD]
    by_cases hi : i < l.length
    · rw [List.getElem_append_left hi, List.getElem?_eq_getElem hi]; rfl
    · rw [List.getElem_append_right (by omega), List.getElem?_eq_none (by omega)]; simp

/-- The number of the bytes of a field. -/
theorem num_unpack_pack (w n : Nat) (h : n < 2 ^ w) : num (unpack (pack (fld w n))) = n * 2 ^ (8 * ((w + 7) / 8) - w) := by
  rw [unpack_pack _ (fld_bits w n), num_zeros, num_fld, fld_length, Nat.mod_eq_of_lt h]

def bytesOf (xs : List Nat) : List UInt8 := xs.map UInt8.ofNat

theorem less_num : ∀ (xs ys : List Nat), xs.length = ys.length → (∀ x ∈ xs, x < 256) → (∀ y ∈ ys, y < 256) →
    Op.bytesLess (bytesOf xs) (bytesOf ys) = decide (num (unpack xs) < num (unpack ys))
  | [], [], _, _, _ => by simp [bytesOf, Op.bytesLess]
  | x :: xs, y :: ys, hl, hx, hy => by
    have hl' : xs.length = ys.length := by simpa using hl
    have ih := less_num xs ys hl' (fun a h => hx a (by simp [h])) (fun a h => hy a (by simp [h]))
    have x1 := hx x (by simp)
    have y1 := hy y (by simp)
    simp only [bytesOf, List.map_cons, Op.bytesLess] at ih ⊢
    rw [ih, unpack_cons, unpack_cons, num_append, num_append, num_fld, num_fld, unpack_length, unpack_length, hl']
    rw [show (2 : Nat) ^ 8 = 256 from rfl, Nat.mod_eq_of_lt x1, Nat.mod_eq_of_lt y1]
    have u1 := num_lt (unpack xs) (unpack_bits xs)
    have v1 := num_lt (unpack ys) (unpack_bits ys)
    rw [unpack_length, hl'] at u1
    rw [unpack_length] at v1
    generalize num (unpack xs) = u at *
    generalize num (unpack ys) = v at *
    generalize 2 ^ (8 * ys.length) = P at *
    have e1 : (UInt8.ofNat x < UInt8.ofNat y) ↔ x < y := by
      rw [UInt8.lt_iff_toNat_lt]; simp; omega
    have e2 : (UInt8.ofNat x == UInt8.ofNat y) = decide (x = y) := by
      rw [Bool.eq_iff_iff]; simp [← UInt8.toNat_inj]; omega
    rw [e2, Bool.eq_iff_iff]
    simp only [Bool.or_eq_true, Bool.and_eq_true, decide_eq_true_eq, e1]
    rcases Nat.lt_trichotomy x y with h | h | h
    · have : (x + 1) * P ≤ y * P := Nat.mul_le_mul_right _ h
      rw [Nat.add_mul] at this
      constructor
      · intro _; omega
      · intro _; exact .inl h
    · subst h
      constructor
      · rintro (h | ⟨_, h⟩)
        · omega
        · omega
      · intro _; exact .inr ⟨rfl, by omega⟩
    · have : (y + 1) * P ≤ x * P := Nat.mul_le_mul_right _ h
      rw [Nat.add_mul] at this
      constructor
      · rintro (h | ⟨h, _⟩) <;> omega
      · intro _; omega

theorem pack_byte (l : List Nat) (h : Bits l) : ∀ x ∈ pack l, x < 256 := by
  intro x hx
  obtain ⟨j, _, rfl⟩ := List.mem_map.1 hx
  exact packAt_lt l h j

/-- Of two fields of a width the lesser one's bytes stand ahead. -/
theorem less_fields (w n m : Nat) (hn : n < 2 ^ w) (hm : m < 2 ^ w) : Op.bytesLess (bytesOf (pack (fld w n))) (bytesOf (pack (fld w m))) = decide (n < m) := by
  rw [less_num _ _ (by rw [pack_length, pack_length, fld_length, fld_length]) (pack_byte _ (fld_bits _ _)) (pack_byte _ (fld_bits _ _)), num_unpack_pack w n hn, num_unpack_pack w m hm]
  have hp : 0 < 2 ^ (8 * ((w + 7) / 8) - w) := Nat.pow_pos (by decide)
  rw [Bool.eq_iff_iff]
  simp only [decide_eq_true_eq]
  exact Nat.mul_lt_mul_right hp

theorem eq_fields (w n m : Nat) (hn : n < 2 ^ w) (hm : m < 2 ^ w) : (bytesOf (pack (fld w n)) == bytesOf (pack (fld w m))) = decide (n = m) := by
  rw [Bool.eq_iff_iff]
  simp only [beq_iff_eq, decide_eq_true_eq]
  constructor
  · intro h
    have h1 := less_fields w n m hn hm
    have h2 := less_fields w m n hm hn
    rw [h] at h1
    rw [h] at h2
    rw [h1] at h2
    have : ¬ n < m ∨ ¬ m < n := by omega
    by_cases a : n < m
    · have b : ¬ m < n := by omega
      simp [a, b] at h2
    · by_cases b : m < n
      · simp [a, b] at h2
      · omega
  · intro h; rw [h]

end Go.Proofs.YthhggjakenalpaaGreatDoor.Bt

/- Plain lemmas on check sums: a state is a number, bits come one behind the other; no program is named here. -/
namespace Go.Proofs.YthhggjakenalpaaGreatDoor.Bt
set_option maxRecDepth 100000

theorem xor_zero_eq {a b : Nat} (h : a ^^^ b = 0) : a = b := by
  have : (a ^^^ b) ^^^ b = 0 ^^^ b := by rw [h]
  rw [Nat.xor_assoc, Nat.xor_self] at this
  simpa using this

theorem two_xor (a b : Nat) : 2 * (a ^^^ b) = 2 * a ^^^ 2 * b := by
  have := Nat.shiftLeft_xor_distrib (i := 1) (a := a) (b := b)
  simp only [Nat.shiftLeft_eq] at this
  rw [Nat.mul_comm 2, Nat.mul_comm 2, Nat.mul_comm 2]
  simpa using this

theorem xor_mul_pow (a b n : Nat) : (a ^^^ b) * 2 ^ n = a * 2 ^ n ^^^ b * 2 ^ n := by
  have := Nat.shiftLeft_xor_distrib (i := n) (a := a) (b := b)
  simpa only [Nat.shiftLeft_eq] using this

theorem add_eq_xor (b y n : Nat) (h : y < 2 ^ n) : b * 2 ^ n + y = b * 2 ^ n ^^^ y := by
  apply Nat.eq_of_testBit_eq
  intro j
  rw [Nat.mul_comm b, Nat.testBit_two_pow_mul_add _ h, Nat.testBit_xor, Nat.testBit_two_pow_mul]
  by_cases hj : j < n
  · have hj' : ¬ n ≤ j := by omega
    simp [hj, hj']
  · have hy : y.testBit j = false := Nat.testBit_lt_two_pow (Nat.lt_of_lt_of_le h (Nat.pow_le_pow_right (by decide) (by omega)))
    simp [hj, hy]; omega

/-- A state moved up by one bit; what falls off comes back as the polynomial. The width is n + 1. -/
def Z (n P s : Nat) : Nat := if s / 2 ^ n % 2 = 1 then (2 * s % 2 ^ (n + 1)) ^^^ P else 2 * s % 2 ^ (n + 1)

def stp (n P s b : Nat) : Nat := Z n P (s ^^^ b * 2 ^ n)

def run (n P s : Nat) (l : List Nat) : Nat := l.foldl (stp n P) s

def Zk (n P : Nat) : Nat → Nat → Nat
  | 0, s => s
  | k + 1, s => Zk n P k (Z n P s)

theorem Z_lt {n P : Nat} (hP : P < 2 ^ (n + 1)) (s : Nat) : Z n P s < 2 ^ (n + 1) := by
  have h : 2 * s % 2 ^ (n + 1) < 2 ^ (n + 1) := Nat.mod_lt _ (Nat.pow_pos (by decide))
  unfold Z
  split
  · exact Nat.xor_lt_two_pow h hP
  · exact h

theorem Z_zero (n P : Nat) : Z n P 0 = 0 := by simp [Z]

theorem Z_xor (n P s t : Nat) : Z n P (s ^^^ t) = Z n P s ^^^ Z n P t := by
  unfold Z
  rw [two_xor, Nat.xor_mod_two_pow, Nat.xor_div_two_pow]
  have e := Nat.xor_mod_two_eq_one (a := s / 2 ^ n) (b := t / 2 ^ n)
  generalize 2 * s % 2 ^ (n + 1) = A
  generalize 2 * t % 2 ^ (n + 1) = B
  by_cases hs : s / 2 ^ n % 2 = 1
  · by_cases ht : t / 2 ^ n % 2 = 1
    · have : ¬ (s / 2 ^ n ^^^ t / 2 ^ n) % 2 = 1 := by rw [e]; simp [hs, ht]
      rw [if_neg this, if_pos hs, if_pos ht]
      rw [Nat.xor_assoc, Nat.xor_comm B P, ← Nat.xor_assoc P, Nat.xor_self]; simp
    · have : (s / 2 ^ n ^^^ t / 2 ^ n) % 2 = 1 := by rw [e]; simp [hs, ht]
      rw [if_pos this, if_pos hs, if_neg ht]
      rw [Nat.xor_assoc, Nat.xor_assoc, Nat.xor_comm B P]
  · by_cases ht : t / 2 ^ n % 2 = 1
    · have : (s / 2 ^ n ^^^ t / 2 ^ n) % 2 = 1 := by rw [e]; simp [hs, ht]
      rw [if_pos this, if_neg hs, if_pos ht, Nat.xor_assoc]
    · have : ¬ (s / 2 ^ n ^^^ t / 2 ^ n) % 2 = 1 := by rw [e]; simp [hs, ht]
      rw [if_neg this, if_neg hs, if_neg ht]

theorem Z_eq_zero {n P s : Nat} (hodd : P % 2 = 1) (hs : s < 2 ^ (n + 1)) (h : Z n P s = 0) : s = 0 := by
  unfold Z at h
  rw [Nat.pow_succ] at hs
  split at h
  · have h1 := xor_zero_eq h
    have h2 : 2 * s % 2 ^ (n + 1) % 2 = 0 := by
      rw [Nat.pow_succ, Nat.mul_comm (2 ^ n) 2, Nat.mod_mul_right_mod]; omega
    rw [h1] at h2; omega
  · rename_i hn
    have hlt : s < 2 ^ n := by
      rcases Nat.lt_or_ge s (2 ^ n) with h' | h'
      · exact h'
      · exfalso
        apply hn
        have : s / 2 ^ n = 1 := Nat.div_eq_of_lt_le (by omega) (by omega)
        rw [this]
    rw [Nat.mod_eq_of_lt (by rw [Nat.pow_succ]; omega)] at h
    omega

theorem Zk_lt {n P : Nat} (hP : P < 2 ^ (n + 1)) (k s : Nat) (hs : s < 2 ^ (n + 1)) : Zk n P k s < 2 ^ (n + 1) := by
  induction k generalizing s with
  | zero => exact hs
  | succ k ih => exact ih _ (Z_lt hP s)

theorem Zk_zero (n P k : Nat) : Zk n P k 0 = 0 := by
  induction k with
  | zero => rfl
  | succ k ih => rw [Zk, Z_zero, ih]

theorem Zk_eq_zero {n P : Nat} (hodd : P % 2 = 1) (hP : P < 2 ^ (n + 1)) (k s : Nat) (hs : s < 2 ^ (n + 1)) (h : Zk n P k s = 0) : s = 0 := by
  induction k generalizing s with
  | zero => exact h
  | succ k ih => exact Z_eq_zero hodd hs (ih _ (Z_lt hP s) h)

theorem run_nil (n P s : Nat) : run n P s [] = s := rfl
theorem run_cons (n P s b : Nat) (l : List Nat) : run n P s (b :: l) = run n P (stp n P s b) l := rfl
theorem run_append (n P s : Nat) (l m : List Nat) : run n P s (l ++ m) = run n P (run n P s l) m := by simp [run]

theorem run_zeros (n P s k : Nat) : run n P s (List.replicate k 0) = Zk n P k s := by
  induction k generalizing s with
  | zero => rfl
  | succ k ih => rw [List.replicate_succ, run_cons, ih]; simp [stp, Zk]

theorem run_lt {n P : Nat} (hP : P < 2 ^ (n + 1)) (s : Nat) (hs : s < 2 ^ (n + 1)) (l : List Nat) : run n P s l < 2 ^ (n + 1) := by
  induction l generalizing s with
  | nil => exact hs
  | cons b l ih => rw [run_cons]; exact ih _ (Z_lt hP _)

/-- Bits put together, place by place. -/
def zx (l m : List Nat) : List Nat := List.zipWith (· ^^^ ·) l m

theorem run_xor (n P s t : Nat) (l m : List Nat) (h : l.length = m.length) : run n P (s ^^^ t) (zx l m) = run n P s l ^^^ run n P t m := by
  induction l generalizing s t m with
  | nil =>
    match m, h with
    | [], _ => rfl
  | cons a l ih =>
    match m, h with
    | b :: m, h =>
      have e : zx (a :: l) (b :: m) = (a ^^^ b) :: zx l m := rfl
      rw [e, run_cons, run_cons, run_cons, ← ih _ _ m (by simpa using h)]
      congr 1
      simp only [stp]
      rw [← Z_xor, xor_mul_pow]
      congr 1
      rw [Nat.xor_assoc, Nat.xor_assoc, ← Nat.xor_assoc t, Nat.xor_comm t (a * 2 ^ n), Nat.xor_assoc (a * 2 ^ n)]

theorem num_cons (b : Nat) (l : List Nat) : num (b :: l) = b * 2 ^ l.length + num l := by
  have := num_append [b] l
  simpa [num] using this

/-- So many bits, no more than the width, are as good as laid upon the state ahead of as many steps. -/
theorem run_feed {n P : Nat} (s : Nat) (l : List Nat) (hb : Bits l) (hk : l.length ≤ n + 1) : run n P s l = Zk n P l.length (s ^^^ num l * 2 ^ (n + 1 - l.length)) := by
  induction l generalizing s with
  | nil => simp [run, Zk, num]
  | cons b l ih =>
    have hk' : l.length ≤ n := by simpa using hk
    have hbl : Bits l := fun x hx => hb x (by simp [hx])
    have hb2 : b < 2 := hb b (by simp)
    have hnum := num_lt l hbl
    rw [run_cons, ih _ hbl (by omega), List.length_cons, Zk]
    congr 1
    have e1 : n + 1 - (l.length + 1) = n - l.length := by omega
    have e2 : 2 ^ l.length * 2 ^ (n - l.length) = 2 ^ n := by rw [← Nat.pow_add]; congr 1; omega
    have hy : num l * 2 ^ (n - l.length) < 2 ^ n := by
      rw [← e2]; exact Nat.mul_lt_mul_of_pos_right hnum (Nat.pow_pos (by decide))
    have e3 : num (b :: l) * 2 ^ (n - l.length) = b * 2 ^ n ^^^ num l * 2 ^ (n - l.length) := by
      rw [num_cons, Nat.add_mul, Nat.mul_assoc, e2]
      exact add_eq_xor b _ n hy
    have e4 : Z n P (num l * 2 ^ (n - l.length)) = num l * 2 ^ (n + 1 - l.length) := by
      have e5 : n + 1 - l.length = (n - l.length) + 1 := by omega
      unfold Z
      rw [Nat.div_eq_of_lt hy]
      simp only [Nat.zero_mod, Nat.zero_ne_one, if_false]
      rw [e5, Nat.pow_succ 2 n, Nat.mod_eq_of_lt (by omega), Nat.pow_succ, ← Nat.mul_assoc (num l), Nat.mul_comm 2]
    rw [e1, e3, ← Nat.xor_assoc, Z_xor, e4]
    rfl

/-- Turned bits near one another are found. -/
theorem burst {n P : Nat} (hodd : P % 2 = 1) (hP : P < 2 ^ (n + 1)) (a c : Nat) (v : List Nat) (hv : Bits v) (hk : v.length ≤ n + 1) (h0 : num v ≠ 0) :
    run n P 0 (List.replicate a 0 ++ (v ++ List.replicate c 0)) ≠ 0 := by
  intro h
  rw [run_append, run_append, run_zeros, run_zeros, Zk_zero, run_feed 0 v hv hk] at h
  have hn := num_lt v hv
  have e : 2 ^ v.length * 2 ^ (n + 1 - v.length) = 2 ^ (n + 1) := by rw [← Nat.pow_add]; congr 1; omega
  have hp : 0 < 2 ^ (n + 1 - v.length) := Nat.pow_pos (by decide)
  have hlt : 0 ^^^ num v * 2 ^ (n + 1 - v.length) < 2 ^ (n + 1) := by
    rw [Nat.zero_xor, ← e]; exact Nat.mul_lt_mul_of_pos_right hn hp
  have h1 := Zk_eq_zero hodd hP _ _ (Zk_lt hP _ _ hlt) h
  have h2 := Zk_eq_zero hodd hP _ _ hlt h1
  rw [Nat.zero_xor] at h2
  rcases Nat.mul_eq_zero.1 h2 with h3 | h3
  · exact h0 h3
  · omega

/-- Two rows of bits whose difference is such have other sums. -/
theorem run_ne {n P : Nat} (hodd : P % 2 = 1) (hP : P < 2 ^ (n + 1)) (s a c : Nat) (v l m : List Nat) (hlen : l.length = m.length) (hv : Bits v) (hk : v.length ≤ n + 1) (h0 : num v ≠ 0)
    (hd : zx l m = List.replicate a 0 ++ (v ++ List.replicate c 0)) : run n P s l ≠ run n P s m := by
  intro h
  have := run_xor n P s s l m hlen
  rw [Nat.xor_self, h, Nat.xor_self, hd] at this
  exact burst hodd hP a c v hv hk h0 this

/-- A state's own bits behind it bring it to nought. -/
theorem run_tail {n P : Nat} (s : Nat) (v : List Nat) (hv : Bits v) (hk : v.length = n + 1) (h : num v = s) : run n P s v = 0 := by
  rw [run_feed s v hv (by omega), hk, h]
  simp [Zk_zero]

theorem num_inj (l m : List Nat) (hl : Bits l) (hm : Bits m) (hlen : l.length = m.length) (h : num l = num m) : l = m := by
  induction l generalizing m with
  | nil =>
    match m, hlen with
    | [], _ => rfl
  | cons a l ih =>
    match m, hlen with
    | b :: m, hlen =>
      have hlen' : l.length = m.length := by simpa using hlen
      have hl' : Bits l := fun x hx => hl x (by simp [hx])
      have hm' : Bits m := fun x hx => hm x (by simp [hx])
      have n1 := num_lt l hl'
      have n2 := num_lt m hm'
      rw [num_cons, num_cons, hlen'] at h
      rw [hlen'] at n1
      have ha := hl a (by simp)
      have hb := hm b (by simp)
      generalize 2 ^ m.length = Q at *
      have : a = b := by
        rcases (show a = 0 ∨ a = 1 by omega) with rfl | rfl <;> rcases (show b = 0 ∨ b = 1 by omega) with rfl | rfl <;> omega
      subst this
      rw [ih m hl' hm' hlen' (by omega)]

/-- The number of bits that are put together. -/
theorem num_zx (l m : List Nat) (hl : Bits l) (hm : Bits m) (hlen : l.length = m.length) : num (zx l m) = num l ^^^ num m := by
  induction l generalizing m with
  | nil =>
    match m, hlen with
    | [], _ => rfl
  | cons a l ih =>
    match m, hlen with
    | b :: m, hlen =>
      have hlen' : l.length = m.length := by simpa using hlen
      have hl' : Bits l := fun x hx => hl x (by simp [hx])
      have hm' : Bits m := fun x hx => hm x (by simp [hx])
      have e : zx (a :: l) (b :: m) = (a ^^^ b) :: zx l m := rfl
      have hz : (zx l m).length = l.length := by simp [zx, hlen']
      have n1 := num_lt l hl'
      have n2 := num_lt m hm'
      have n3 : num l ^^^ num m < 2 ^ m.length := Nat.xor_lt_two_pow (by rw [← hlen']; exact n1) n2
      rw [e, num_cons, num_cons, num_cons, hz, ih m hl' hm' hlen', hlen', add_eq_xor _ _ _ n3, add_eq_xor _ _ _ n2, add_eq_xor a _ _ (by rw [← hlen']; exact n1), xor_mul_pow]
      rw [Nat.xor_assoc, Nat.xor_assoc, ← Nat.xor_assoc (b * 2 ^ m.length), Nat.xor_comm (b * 2 ^ m.length) (num l), Nat.xor_assoc (num l)]

/-- One step of the document's own sum, over a list of bits. -/
def lstep (poly s : List Nat) (b : Nat) : List Nat :=
  if (s.headD 0 + b) % 2 = 1 then List.zipWith (fun x y => (x + y) % 2) (s.tail ++ [0]) poly else s.tail ++ [0]

theorem bit_xor (a b : Nat) (ha : a < 2) (hb : b < 2) : a ^^^ b = (a + b) % 2 := by
  rcases (show a = 0 ∨ a = 1 by omega) with rfl | rfl <;> rcases (show b = 0 ∨ b = 1 by omega) with rfl | rfl <;> rfl

theorem zip_xor (l m : List Nat) (hl : Bits l) (hm : Bits m) : List.zipWith (fun x y => (x + y) % 2) l m = zx l m := by
  induction l generalizing m with
  | nil => simp [zx]
  | cons a l ih =>
    match m with
    | [] => rfl
    | b :: m =>
      have e : zx (a :: l) (b :: m) = (a ^^^ b) :: zx l m := rfl
      rw [e, List.zipWith_cons_cons, bit_xor a b (hl a (by simp)) (hm b (by simp)), ih m (fun x hx => hl x (by simp [hx])) (fun x hx => hm x (by simp [hx]))]

theorem zx_bits (l m : List Nat) (hl : Bits l) (hm : Bits m) : Bits (zx l m) := by
  rw [← zip_xor l m hl hm]
  intro b hb
  obtain ⟨i, hi, rfl⟩ := List.getElem_of_mem hb
  simp only [List.getElem_zipWith]
  omega

theorem lstep_num (n : Nat) (poly s : List Nat) (b : Nat) (hs : Bits s) (hp : Bits poly) (hls : s.length = n + 1) (hlp : poly.length = n + 1) (hb : b < 2) :
    num (lstep poly s b) = stp n (num poly) (num s) b ∧ (lstep poly s b).length = n + 1 ∧ Bits (lstep poly s b) := by
  match s, hls with
  | a :: t, hls =>
    have hlt : t.length = n := by simpa using hls
    have ht : Bits t := fun x hx => hs x (by simp [hx])
    have ha : a < 2 := hs a (by simp)
    have hnt := num_lt t ht
    rw [hlt] at hnt
    have hz : Bits (t ++ [0]) := bits_snoc ht (by decide)
    have hx : a * 2 ^ n ^^^ num t ^^^ b * 2 ^ n = (a ^^^ b) * 2 ^ n + num t := by
      rw [add_eq_xor _ _ _ hnt, xor_mul_pow, Nat.xor_assoc, Nat.xor_comm (num t), ← Nat.xor_assoc]
    have hab : a ^^^ b < 2 := by rw [bit_xor a b ha hb]; omega
    have e1 : ((a ^^^ b) * 2 ^ n + num t) / 2 ^ n = a ^^^ b := by
      rw [Nat.mul_comm, Nat.mul_add_div (Nat.pow_pos (by decide)), Nat.div_eq_of_lt hnt]; rfl
    have e2 : 2 * ((a ^^^ b) * 2 ^ n + num t) % 2 ^ (n + 1) = num (t ++ [0]) := by
      rw [num_snoc, Nat.pow_succ, Nat.mul_add, Nat.add_zero]
      have : 2 * ((a ^^^ b) * 2 ^ n) = (2 ^ n * 2) * (a ^^^ b) := by
        rw [Nat.mul_comm (a ^^^ b), ← Nat.mul_assoc, Nat.mul_comm 2]
      rw [this, Nat.mul_add_mod, Nat.mod_eq_of_lt (by omega)]
    have e3 : stp n (num poly) (num (a :: t)) b = if (a + b) % 2 = 1 then num (t ++ [0]) ^^^ num poly else num (t ++ [0]) := by
      unfold stp
      rw [num_cons, hlt, add_eq_xor _ _ _ hnt, hx]
      unfold Z
      rw [e1, e2, Nat.mod_eq_of_lt hab, bit_xor a b ha hb]
    rw [e3]
    have e4 : lstep poly (a :: t) b = if (a + b) % 2 = 1 then zx (t ++ [0]) poly else t ++ [0] := by
      rw [← zip_xor _ _ hz hp]; rfl
    rw [e4]
    have hl0 : (t ++ [0]).length = poly.length := by simp [hlt, hlp]
    by_cases h : (a + b) % 2 = 1
    · rw [if_pos h, if_pos h]
      refine ⟨num_zx _ _ hz hp hl0, ?_, zx_bits _ _ hz hp⟩
      simp [zx, hlt, hlp]
    · rw [if_neg h, if_neg h]
      exact ⟨rfl, by simp [hlt], hz⟩

/-- The document's own sum is the number's. -/
theorem lrun_num (n : Nat) (poly s : List Nat) (l : List Nat) (hs : Bits s) (hp : Bits poly) (hl : Bits l) (hls : s.length = n + 1) (hlp : poly.length = n + 1) :
    num (l.foldl (lstep poly) s) = run n (num poly) (num s) l ∧ (l.foldl (lstep poly) s).length = n + 1 ∧ Bits (l.foldl (lstep poly) s) := by
  induction l generalizing s with
  | nil => exact ⟨rfl, hls, hs⟩
  | cons b l ih =>
    obtain ⟨h1, h2, h3⟩ := lstep_num n poly s b hs hp hls hlp (hl b (by simp))
    have := ih (lstep poly s b) h3 (fun x hx => hl x (by simp [hx])) h2
    rw [List.foldl_cons, run_cons, ← h1]
    exact this

theorem fld_num (W : Nat) (l : List Nat) (hl : Bits l) (h : l.length = W) : fld W (num l) = l := by
  apply num_inj _ _ (fld_bits _ _) hl (by rw [fld_length, h])
  have := num_lt l hl
  rw [h] at this
  rw [num_fld, Nat.mod_eq_of_lt this]

theorem num_ones16 : num (List.replicate 16 1) = 65535 := by decide
theorem num_ones32 : num (List.replicate 32 1) = 4294967295 := by decide

/-- The document's CRC-16. -/
def crc16 (bs : List Nat) : Nat := run 15 4129 65535 (unpack bs)
/-- Bits of bytes, each byte's lowest first. -/
def lows (bs : List Nat) : List Nat := bs.flatMap fun b => (fld 8 b).reverse
/-- A state's bits in the other order, each turned. -/
def turned (s : Nat) : Nat := num ((fld 32 s).reverse.map fun x => 1 - x)
/-- The document's CRC-32. -/
def crc32 (bs : List Nat) : Nat := turned (run 31 79764919 4294967295 (lows bs))

theorem lows_length (bs : List Nat) : (lows bs).length = 8 * bs.length := by
  induction bs with
  | nil => rfl
  | cons x xs ih => simp only [lows, List.flatMap_cons, List.length_append, List.length_reverse, fld_length, List.length_cons] at *; omega

theorem bits_reverse {l : List Nat} (h : Bits l) : Bits l.reverse := fun b hb => h b (List.mem_reverse.1 hb)

theorem lows_bits (bs : List Nat) : Bits (lows bs) := by
  intro b h; simp only [lows, List.mem_flatMap] at h
  obtain ⟨x, _, h⟩ := h
  exact bits_reverse (fld_bits 8 x) b h

theorem lows_snoc (bs : List Nat) (b : Nat) : lows (bs ++ [b]) = lows bs ++ (fld 8 b).reverse := by simp [lows]

theorem crc16_lt (bs : List Nat) : crc16 bs < 2 ^ 16 := by
  unfold crc16
  exact run_lt (n := 15) (by omega) _ (by omega) _

theorem bits_turn (l : List Nat) : Bits (l.map fun x => 1 - x) := by
  intro b hb
  obtain ⟨x, _, rfl⟩ := List.mem_map.1 hb
  omega

def turnedW (W s : Nat) : Nat := num ((fld W s).reverse.map fun x => 1 - x)

theorem turnedW_lt (W s : Nat) : turnedW W s < 2 ^ W := by
  have := num_lt ((fld W s).reverse.map fun x => 1 - x) (bits_turn _)
  rw [List.length_map, List.length_reverse, fld_length] at this
  exact this

theorem map_turn_inj (l m : List Nat) (hl : Bits l) (hm : Bits m) (h : (l.map fun x => 1 - x) = m.map fun x => 1 - x) : l = m := by
  induction l generalizing m with
  | nil => match m, h with
    | [], _ => rfl
  | cons a l ih => match m, h with
    | b :: m, h =>
      simp only [List.map_cons, List.cons.injEq] at h
      have ha := hl a (by simp)
      have hb := hm b (by simp)
      rw [ih m (fun x hx => hl x (by simp [hx])) (fun x hx => hm x (by simp [hx])) h.2]
      congr 1
      omega

/-- Other states have other sums. -/
theorem turnedW_inj {W s t : Nat} (hs : s < 2 ^ W) (ht : t < 2 ^ W) (h : turnedW W s = turnedW W t) : s = t := by
  have h1 := num_inj _ _ (bits_turn _) (bits_turn _) (by simp [fld_length]) h
  have h2 := map_turn_inj _ _ (bits_reverse (fld_bits W s)) (bits_reverse (fld_bits W t)) h1
  have h3 : fld W s = fld W t := by rw [← List.reverse_reverse (fld W s), h2, List.reverse_reverse]
  have e1 := num_fld W s
  have e2 := num_fld W t
  rw [Nat.mod_eq_of_lt hs] at e1
  rw [Nat.mod_eq_of_lt ht] at e2
  rw [← e1, ← e2, h3]

theorem turned_eq (s : Nat) : turned s = turnedW 32 s := rfl

theorem crc32_lt (bs : List Nat) : crc32 bs < 2 ^ 32 := by
  unfold crc32
  rw [turned_eq]
  exact turnedW_lt 32 _

theorem turned_inj {s t : Nat} (hs : s < 2 ^ 32) (ht : t < 2 ^ 32) (h : turned s = turned t) : s = t := by
  rw [turned_eq, turned_eq] at h
  exact turnedW_inj hs ht h

/-- A number's low bytes, the highest first. -/
def numB (u m : Nat) : List Nat := (List.range m).map fun i => u / 256 ^ (m - 1 - i) % 256
/-- The number of bytes, the highest first. -/
def readB (bs : List Nat) : Nat := bs.foldl (fun a b => a * 256 + b) 0

theorem numB_length (u m : Nat) : (numB u m).length = m := by simp [numB]
theorem numB_byte (u m : Nat) : ∀ b ∈ numB u m, b < 256 := by
  intro b hb
  obtain ⟨i, _, rfl⟩ := List.mem_map.1 hb
  exact Nat.mod_lt _ (by decide)
theorem readB_snoc (l : List Nat) (b : Nat) : readB (l ++ [b]) = readB l * 256 + b := by simp [readB]
theorem readB_lt (l : List Nat) (h : ∀ b ∈ l, b < 256) : readB l < 256 ^ l.length := by
  have key : ∀ m : List Nat, (∀ b ∈ m, b < 256) → readB m.reverse < 256 ^ m.length := by
    intro m
    induction m with
    | nil => intro _; simp [readB]
    | cons x xs ih =>
      intro hm
      have h1 := ih (fun b hb => hm b (by simp [hb]))
      have h2 := hm x (by simp)
      rw [List.reverse_cons, readB_snoc, List.length_cons, Nat.pow_succ]
      omega
  have := key l.reverse (fun b hb => h b (List.mem_reverse.1 hb))
  rw [List.reverse_reverse, List.length_reverse] at this
  exact this
theorem numB_succ (u m : Nat) : numB u (m + 1) = numB (u / 256) m ++ [u % 256] := by
  apply List.ext_getElem
  · simp [numB]
  · intro i h1 h2
    simp only [numB, List.length_map, List.length_range] at h1
    by_cases hi : i < m
    · rw [List.getElem_append_left (by simpa [numB] using hi)]
      simp only [numB, List.getElem_map, List.getElem_range]
      have e : m + 1 - 1 - i = (m - 1 - i) + 1 := by omega
      rw [e, Nat.pow_succ, Nat.mul_comm, Nat.div_div_eq_div_mul]
    · have e : i = m := by omega
      subst e
      rw [List.getElem_append_right (by simp [numB])]
      simp [numB]
theorem readB_numB (u m : Nat) : readB (numB u m) = u % 256 ^ m := by
  induction m generalizing u with
  | zero => simp [numB, readB, Nat.mod_one]
  | succ m ih =>
    rw [numB_succ, readB_snoc, ih, Nat.pow_succ, Nat.mul_comm (256 ^ m) 256, Nat.mod_mul]
    omega

/-- The bytes as far as they are laid: so many from the end on. -/
def laidB (u m j : Nat) : List Nat := (List.range m).map fun i => if i < m - j then 0 else u / 256 ^ (m - 1 - i) % 256
theorem laidB_length (u m j : Nat) : (laidB u m j).length = m := by simp [laidB]
theorem laidB_zero (u m : Nat) : laidB u m 0 = List.replicate m 0 := by
  apply List.ext_getElem
  · simp [laidB]
  · intro i h1 h2
    simp only [List.length_replicate] at h2
    simp only [laidB, List.getElem_map, List.getElem_range, List.getElem_replicate]
    rw [if_pos (by omega)]
theorem laidB_all (u m : Nat) : laidB u m m = numB u m := by
  apply List.ext_getElem
  · simp [laidB, numB]
  · intro i h1 h2
    simp only [laidB, numB, List.getElem_map, List.getElem_range]
    rw [if_neg (by omega)]
theorem laidB_step (u m j : Nat) (h : j < m) : (laidB u m j).set (m - 1 - j) (u / 256 ^ j % 256) = laidB u m (j + 1) := by
  apply List.ext_getElem
  · simp [laidB]
  · intro i h1 h2
    rw [laidB_length] at h2
    rw [List.getElem_set]
    simp only [laidB, List.getElem_map, List.getElem_range]
    by_cases hi : m - 1 - j = i
    · have e : m - 1 - i = j := by omega
      rw [if_pos hi, if_neg (by omega), e]
    · rw [if_neg hi]
      by_cases hlt : i < m - (j + 1)
      · rw [if_pos (by omega), if_pos (by omega)]
      · rw [if_neg (by omega), if_neg (by omega)]

end Go.Proofs.YthhggjakenalpaaGreatDoor.Bt

/- Plain: thirty-two bits in the other order, by swapping halves. -/
namespace Go.Proofs.YthhggjakenalpaaGreatDoor.Bt
set_option maxRecDepth 100000

/-- Neighbours that lie so far apart change places. -/
def sw (k M x : Nat) : Nat := (x / 2 ^ k &&& M) ||| ((x &&& M) * 2 ^ k % 4294967296)

def halves (x : Nat) : Nat := x / 65536 ||| x * 65536 % 4294967296

def rev32 (x : Nat) : Nat := halves (sw 8 16711935 (sw 4 252645135 (sw 2 858993459 (sw 1 1431655765 x))))

theorem sw_lt (k M x : Nat) (hM : M < 4294967296) : sw k M x < 4294967296 := by
  have h1 : x / 2 ^ k &&& M < 2 ^ 32 := Nat.and_lt_two_pow _ hM
  have h2 : (x &&& M) * 2 ^ k % 4294967296 < 2 ^ 32 := Nat.mod_lt _ (by decide)
  exact Nat.or_lt_two_pow h1 h2

theorem halves_lt (x : Nat) (hx : x < 4294967296) : halves x < 4294967296 := by
  have h1 : x / 65536 < 2 ^ 32 := by omega
  have h2 : x * 65536 % 4294967296 < 2 ^ 32 := Nat.mod_lt _ (by decide)
  exact Nat.or_lt_two_pow h1 h2

theorem rev32_lt (x : Nat) : rev32 x < 4294967296 := halves_lt _ (sw_lt _ _ _ (by decide))

theorem sw_bit (k M x i : Nat) (hi : i < 32) (h0 : M.testBit i = true → k ≤ i → M.testBit (i - k) = false) (h1 : M.testBit i = false → k ≤ i ∧ M.testBit (i - k) = true) :
    (sw k M x).testBit i = x.testBit (if M.testBit i then i + k else i - k) := by
  unfold sw
  rw [Nat.testBit_or, Nat.testBit_and, Nat.testBit_div_two_pow, show (4294967296 : Nat) = 2 ^ 32 from rfl, Nat.testBit_mod_two_pow, Nat.testBit_mul_two_pow, Nat.testBit_and]
  cases hm : M.testBit i
  · obtain ⟨h2, h3⟩ := h1 hm
    simp [h2, h3, hi]
  · by_cases hk : k ≤ i
    · simp [h0 hm hk, hi]
    · simp [hk]

theorem halves_bit (x i : Nat) (hx : x < 4294967296) (hi : i < 32) : (halves x).testBit i = x.testBit (if i < 16 then i + 16 else i - 16) := by
  unfold halves
  rw [Nat.testBit_or, show (65536 : Nat) = 2 ^ 16 from rfl, show (4294967296 : Nat) = 2 ^ 32 from rfl, Nat.testBit_div_two_pow, Nat.testBit_mod_two_pow, Nat.testBit_mul_two_pow]
  by_cases h : i < 16
  · have : ¬ 16 ≤ i := by omega
    simp [h, this]
  · have h2 : 16 ≤ i := by omega
    have h3 : x.testBit (i + 16) = false := Nat.testBit_lt_two_pow (Nat.lt_of_lt_of_le hx (Nat.pow_le_pow_right (n := 2) (by decide) (by omega : 32 ≤ i + 16)))
    simp [h, h2, hi, h3]

theorem m1 : ∀ i, i < 32 → (Nat.testBit 1431655765 i = true → 1 ≤ i → Nat.testBit 1431655765 (i - 1) = false) ∧ (Nat.testBit 1431655765 i = false → 1 ≤ i ∧ Nat.testBit 1431655765 (i - 1) = true) := by decide
theorem m2 : ∀ i, i < 32 → (Nat.testBit 858993459 i = true → 2 ≤ i → Nat.testBit 858993459 (i - 2) = false) ∧ (Nat.testBit 858993459 i = false → 2 ≤ i ∧ Nat.testBit 858993459 (i - 2) = true) := by decide
theorem m4 : ∀ i, i < 32 → (Nat.testBit 252645135 i = true → 4 ≤ i → Nat.testBit 252645135 (i - 4) = false) ∧ (Nat.testBit 252645135 i = false → 4 ≤ i ∧ Nat.testBit 252645135 (i - 4) = true) := by decide
theorem m8 : ∀ i, i < 32 → (Nat.testBit 16711935 i = true → 8 ≤ i → Nat.testBit 16711935 (i - 8) = false) ∧ (Nat.testBit 16711935 i = false → 8 ≤ i ∧ Nat.testBit 16711935 (i - 8) = true) := by decide

theorem road : ∀ i, i < 32 →
    let a := if i < 16 then i + 16 else i - 16
    let b := if Nat.testBit 16711935 a then a + 8 else a - 8
    let c := if Nat.testBit 252645135 b then b + 4 else b - 4
    let d := if Nat.testBit 858993459 c then c + 2 else c - 2
    let e := if Nat.testBit 1431655765 d then d + 1 else d - 1
    a < 32 ∧ b < 32 ∧ c < 32 ∧ d < 32 ∧ e = 31 - i := by decide

theorem rev32_bit (x i : Nat) (hi : i < 32) : (rev32 x).testBit i = x.testBit (31 - i) := by
  obtain ⟨ha, hb, hc, hd, he⟩ := road i hi
  unfold rev32
  rw [halves_bit _ i (sw_lt _ _ _ (by decide)) hi]
  rw [sw_bit _ _ _ _ ha (m8 _ ha).1 (m8 _ ha).2]
  rw [sw_bit _ _ _ _ hb (m4 _ hb).1 (m4 _ hb).2]
  rw [sw_bit _ _ _ _ hc (m2 _ hc).1 (m2 _ hc).2]
  rw [sw_bit _ _ _ _ hd (m1 _ hd).1 (m1 _ hd).2]
  exact congrArg _ he

theorem bit_testBit (x j : Nat) : x / 2 ^ j % 2 = (x.testBit j).toNat := by
  rw [Nat.testBit_eq_decide_div_mod_eq]
  rcases Nat.mod_two_eq_zero_or_one (x / 2 ^ j) with h | h <;> simp [h]

theorem fld_rev32 (s : Nat) : fld 32 (rev32 s) = (fld 32 s).reverse := by
  apply List.ext_getElem
  · rw [List.length_reverse, fld_length, fld_length]
  · intro i h1 h2
    rw [fld_length] at h1
    have e1 := fld_getD 32 (rev32 s) i h1
    have e2 := fld_getD 32 s (32 - 1 - i) (by omega)
    rw [List.getD_eq_getElem?_getD, List.getElem?_eq_getElem (by rw [fld_length]; omega), Option.getD_some] at e1 e2
    rw [e1, List.getElem_reverse]
    simp only [fld_length]
    rw [e2, bit_testBit, rev32_bit s (32 - 1 - i) (by omega), bit_testBit]

theorem num_turn (l : List Nat) (h : Bits l) : num (l.map fun x => 1 - x) + num l + 1 = 2 ^ l.length := by
  induction l with
  | nil => simp [num]
  | cons b l ih =>
    have hb := h b (by simp)
    have := ih (fun x hx => h x (by simp [hx]))
    rw [List.map_cons, num_cons, num_cons, List.length_map, List.length_cons, Nat.pow_succ]
    rcases (show b = 0 ∨ b = 1 by omega) with rfl | rfl <;> simp <;> omega

theorem turned_rev (s : Nat) : turned s = 4294967295 - rev32 s := by
  have h := num_turn (fld 32 s).reverse (bits_reverse (fld_bits 32 s))
  have e : num (fld 32 s).reverse = rev32 s := by
    rw [← fld_rev32, num_fld]; exact Nat.mod_eq_of_lt (rev32_lt s)
  rw [e, List.length_reverse, fld_length] at h
  unfold turned
  omega

/-- A step, as the bit ahead and the one that comes say. -/
theorem stp_eq (n P s b : Nat) (hs : s < 2 ^ (n + 1)) (hb : b < 2) : stp n P s b = if b ^^^ s / 2 ^ n = 1 then 2 * s % 2 ^ (n + 1) ^^^ P else 2 * s % 2 ^ (n + 1) := by
  have hp : 0 < 2 ^ n := Nat.pow_pos (by decide)
  have hq : s / 2 ^ n < 2 := by rw [Nat.div_lt_iff_lt_mul hp]; rw [Nat.pow_succ] at hs; omega
  have e1 : (s ^^^ b * 2 ^ n) / 2 ^ n % 2 = b ^^^ s / 2 ^ n := by
    rw [Nat.xor_div_two_pow, Nat.mul_div_cancel _ hp, Nat.xor_comm]
    exact Nat.mod_eq_of_lt (Nat.xor_lt_two_pow (n := 1) hb hq)
  have e2 : 2 * (s ^^^ b * 2 ^ n) % 2 ^ (n + 1) = 2 * s % 2 ^ (n + 1) := by
    rw [two_xor, Nat.xor_mod_two_pow, show 2 * (b * 2 ^ n) = b * 2 ^ (n + 1) by rw [Nat.pow_succ, Nat.mul_left_comm, Nat.mul_comm 2], Nat.mul_mod_left, Nat.xor_zero]
  unfold stp Z
  rw [e1, e2]

theorem and_low (n s : Nat) (hn : n < 32) : 2 * s % 4294967296 &&& (2 ^ (n + 1) - 1) = 2 * s % 2 ^ (n + 1) := by
  rw [Nat.and_two_pow_sub_one_eq_mod, show (4294967296 : Nat) = 2 ^ 32 from rfl]
  exact Nat.mod_mod_of_dvd _ (Nat.pow_dvd_pow 2 (by omega))

end Go.Proofs.YthhggjakenalpaaGreatDoor.Bt

/- Plain: texts that differ near one place alone have other sums; bits that are turned one behind the other. -/
namespace Go.Proofs.YthhggjakenalpaaGreatDoor.Bt
set_option maxRecDepth 100000

theorem zx_self (l : List Nat) : zx l l = List.replicate l.length 0 := by
  induction l with
  | nil => rfl
  | cons a l ih => rw [zx, List.zipWith_cons_cons, Nat.xor_self, List.length_cons, List.replicate_succ]; exact congrArg _ ih

theorem zx_append (a b c d : List Nat) (h : a.length = b.length) : zx (a ++ c) (b ++ d) = zx a b ++ zx c d := List.zipWith_append h

/-- Bits that differ within so many places alone give other states. -/
theorem run_apart {n P : Nat} (hodd : P % 2 = 1) (hP : P < 2 ^ (n + 1)) (s : Nat) (A X Y C : List Nat) (hx : Bits X) (hy : Bits Y) (hl : X.length = Y.length) (hk : X.length ≤ n + 1) (hne : X ≠ Y) :
    run n P s (A ++ (X ++ C)) ≠ run n P s (A ++ (Y ++ C)) := by
  refine run_ne hodd hP s A.length C.length (zx X Y) _ _ (by simp [hl]) (zx_bits X Y hx hy) (by simp [zx]; omega) ?_ ?_
  · rw [num_zx X Y hx hy hl]
    intro e
    exact hne (num_inj X Y hx hy hl (xor_zero_eq e))
  · rw [zx_append _ _ _ _ rfl, zx_append _ _ _ _ hl, zx_self, zx_self]

theorem split3 (l : List Nat) (a k : Nat) : l = l.take a ++ ((l.drop a).take k ++ (l.drop a).drop k) := by
  rw [List.take_append_drop, List.take_append_drop]

theorem ext_getD (l m : List Nat) (hl : l.length = m.length) (h : ∀ i, i < l.length → l.getD i 0 = m.getD i 0) : l = m := by
  apply List.ext_getElem hl
  intro i h1 h2
  have := h i h1
  simpa [List.getD_eq_getElem?_getD, h1, h2] using this

theorem getD_drop' (l : List Nat) (a i : Nat) : (l.drop a).getD i 0 = l.getD (a + i) 0 := by
  simp [List.getD_eq_getElem?_getD]

theorem getD_take' (l : List Nat) (a i : Nat) (h : i < a) : (l.take a).getD i 0 = l.getD i 0 := by
  simp [List.getD_eq_getElem?_getD, h]

/-- Two texts' bits that are the same but for places from a on, as many as the width, and aren't the same, give other states. -/
theorem run_near {n P : Nat} (hodd : P % 2 = 1) (hP : P < 2 ^ (n + 1)) (s : Nat) (l m : List Nat) (hl : Bits l) (hm : Bits m) (hlen : l.length = m.length) (a : Nat)
    (h : ∀ i, i < l.length → i < a ∨ a + (n + 1) ≤ i → l.getD i 0 = m.getD i 0) (hne : l ≠ m) : run n P s l ≠ run n P s m := by
  have e1 : l.take a = m.take a := by
    apply ext_getD
    · simp [hlen]
    · intro i hi
      have hi' : i < a ∧ i < l.length := by simpa [Nat.lt_min] using hi
      rw [getD_take' _ _ _ hi'.1, getD_take' _ _ _ hi'.1]
      exact h i hi'.2 (.inl hi'.1)
  have e3 : (l.drop a).drop (n + 1) = (m.drop a).drop (n + 1) := by
    apply ext_getD
    · simp [hlen]
    · intro i hi
      rw [getD_drop', getD_drop', getD_drop', getD_drop']
      simp at hi
      exact h _ (by omega) (.inr (by omega))
  rw [split3 l a (n + 1), split3 m a (n + 1), e1, e3]
  refine run_apart hodd hP s _ _ _ _ (bits_take (bits_drop hl _) _) (bits_take (bits_drop hm _) _) (by simp [hlen]) (by simp; omega) ?_
  intro e2
  apply hne
  rw [split3 l a (n + 1), split3 m a (n + 1), e1, e2, e3]

theorem lows_getD (bs : List Nat) (i : Nat) (h : i < 8 * bs.length) : (lows bs).getD i 0 = bs.getD (i / 8) 0 / 2 ^ (i % 8) % 2 := by
  induction bs generalizing i with
  | nil => simp at h
  | cons x xs ih =>
    have e : lows (x :: xs) = (fld 8 x).reverse ++ lows xs := by simp [lows]
    rw [e]
    by_cases hi : i < 8
    · have h0 : i / 8 = 0 := by omega
      have h1 : i % 8 = i := by omega
      rw [h0, h1]
      have hb := fld_getD 8 x (7 - i) (by omega)
      rw [show 8 - 1 - (7 - i) = i from by omega] at hb
      rw [List.getD_eq_getElem?_getD, List.getElem?_append_left (by rw [List.length_reverse, fld_length]; exact hi), List.getElem?_reverse (by rw [fld_length]; exact hi), fld_length, show 8 - 1 - i = 7 - i from by omega, ← List.getD_eq_getElem?_getD, hb]
      rfl
    · rw [List.getD_eq_getElem?_getD, List.getElem?_append_right (by rw [List.length_reverse, fld_length]; omega), List.length_reverse, fld_length, ← List.getD_eq_getElem?_getD, ih (i - 8) (by simp at h; omega)]
      rw [show i / 8 = (i - 8) / 8 + 1 from by omega, show (i - 8) % 8 = i % 8 from by omega]
      rfl

/-- Bytes with the same bits are the same. -/
theorem byte_bits (x y : Nat) (hx : x < 256) (hy : y < 256) (h : ∀ j, j < 8 → x / 2 ^ j % 2 = y / 2 ^ j % 2) : x = y := by
  have h0 := h 0 (by decide)
  have h1 := h 1 (by decide)
  have h2 := h 2 (by decide)
  have h3 := h 3 (by decide)
  have h4 := h 4 (by decide)
  have h5 := h 5 (by decide)
  have h6 := h 6 (by decide)
  have h7 := h 7 (by decide)
  simp only [Nat.reducePow] at *
  omega

theorem getD_byte {bs : List Nat} (h : ∀ b ∈ bs, b < 256) (i : Nat) : bs.getD i 0 < 256 := by
  rw [List.getD_eq_getElem?_getD]
  cases e : bs[i]? with
  | none => simp
  | some b => exact h b (List.mem_of_getElem? e)

theorem lows_inj (bs cs : List Nat) (hb : ∀ b ∈ bs, b < 256) (hc : ∀ b ∈ cs, b < 256) (hl : bs.length = cs.length) (h : lows bs = lows cs) : bs = cs := by
  apply ext_getD _ _ hl
  intro i hi
  apply byte_bits _ _ (getD_byte hb i) (getD_byte hc i)
  intro j hj
  have h1 := lows_getD bs (8 * i + j) (by omega)
  have h2 := lows_getD cs (8 * i + j) (by omega)
  rw [show (8 * i + j) / 8 = i from by omega, show (8 * i + j) % 8 = j from by omega] at h1 h2
  rw [← h1, ← h2, h]

theorem unpack_inj (bs cs : List Nat) (hb : ∀ b ∈ bs, b < 256) (hc : ∀ b ∈ cs, b < 256) (h : unpack bs = unpack cs) : bs = cs := by
  rw [← pack_unpack bs hb, ← pack_unpack cs hc, h]

/-- Texts that differ within four bytes one behind the other alone have other CRC-32. -/
theorem crc32_near (bs cs : List Nat) (hb : ∀ b ∈ bs, b < 256) (hc : ∀ b ∈ cs, b < 256) (hl : bs.length = cs.length) (a : Nat)
    (h : ∀ i, i < bs.length → i < a ∨ a + 4 ≤ i → bs.getD i 0 = cs.getD i 0) (hne : bs ≠ cs) : crc32 bs ≠ crc32 cs := by
  unfold crc32
  intro e
  have e2 := turned_inj (run_lt (n := 31) (P := 79764919) (by decide) _ (by decide) _) (run_lt (n := 31) (P := 79764919) (by decide) _ (by decide) _) e
  refine run_near (n := 31) (P := 79764919) (by decide) (by decide) 4294967295 (lows bs) (lows cs) (lows_bits _) (lows_bits _) (by rw [lows_length, lows_length, hl]) (8 * a) ?_ ?_ e2
  · intro i hi ho
    rw [lows_length] at hi
    rw [lows_getD bs i hi, lows_getD cs i (by omega), h (i / 8) (by omega) (by omega)]
  · exact fun e => hne (lows_inj bs cs hb hc hl e)

/-- Texts whose bits differ within sixteen places one behind the other alone have other CRC-16. -/
theorem crc16_near (bs cs : List Nat) (hb : ∀ b ∈ bs, b < 256) (hc : ∀ b ∈ cs, b < 256) (hl : bs.length = cs.length) (a : Nat)
    (h : ∀ i, i < 8 * bs.length → i < a ∨ a + 16 ≤ i → (unpack bs).getD i 0 = (unpack cs).getD i 0) (hne : bs ≠ cs) : crc16 bs ≠ crc16 cs := by
  unfold crc16
  refine run_near (n := 15) (P := 4129) (by decide) (by decide) 65535 (unpack bs) (unpack cs) (unpack_bits _) (unpack_bits _) (by rw [unpack_length, unpack_length, hl]) a ?_ ?_
  · intro i hi ho
    rw [unpack_length] at hi
    exact h i hi ho
  · exact fun e => hne (unpack_inj bs cs hb hc e)

theorem getD_set (l : List Nat) (k x i : Nat) : (l.set k x).getD i 0 = if i = k ∧ k < l.length then x else l.getD i 0 := by
  simp only [List.getD_eq_getElem?_getD, List.getElem?_set]
  by_cases h : k = i
  · subst h
    by_cases h2 : k < l.length
    · simp [h2]
    · simp [h2]
  · simp [h, Ne.symm h]

theorem mem_set_byte {bs : List Nat} (h : ∀ b ∈ bs, b < 256) (k x : Nat) (hx : x < 256) : ∀ b ∈ bs.set k x, b < 256 := by
  intro b hb
  rcases List.mem_or_eq_of_mem_set hb with hb | hb
  · exact h b hb
  · rw [hb]; exact hx

/-- A text with one byte turned has other sums, of both kinds. -/
theorem crc_one (bs : List Nat) (h : ∀ b ∈ bs, b < 256) (k x : Nat) (hk : k < bs.length) (hx : x < 256) (hne : x ≠ bs.getD k 0) : crc16 bs ≠ crc16 (bs.set k x) ∧ crc32 bs ≠ crc32 (bs.set k x) := by
  have hd : bs ≠ bs.set k x := by
    intro e
    have := congrArg (fun l => l.getD k 0) e
    simp only [getD_set, hk, and_self, if_true] at this
    exact hne this.symm
  refine ⟨crc16_near _ _ h (mem_set_byte h k x hx) (by simp) (8 * k) ?_ hd, crc32_near _ _ h (mem_set_byte h k x hx) (by simp) k ?_ hd⟩
  · intro i hi ho
    rw [unpack_getD bs i hi, unpack_getD _ i (by simp; exact hi), getD_set, if_neg (by omega)]
  · intro i hi ho
    rw [getD_set, if_neg (by omega)]

/-- A bit turned, by its place in the text. -/
def flip1 (bs : List Nat) (k : Nat) : List Nat := bs.set (k / 8) (bs.getD (k / 8) 0 ^^^ 128 / 2 ^ (k % 8))

/-- Bits turned from a place on, as a mask says, as many of them as told. -/
def flips (a mask : Nat) (bs : List Nat) : Nat → List Nat
  | 0 => bs
  | i + 1 => if mask / 2 ^ i % 2 = 1 then flip1 (flips a mask bs i) (a + i) else flips a mask bs i

theorem flip1_length (bs : List Nat) (k : Nat) : (flip1 bs k).length = bs.length := by simp [flip1]

theorem flips_length (a mask : Nat) (bs : List Nat) (i : Nat) : (flips a mask bs i).length = bs.length := by
  induction i with
  | zero => rfl
  | succ i ih =>
    rw [flips]
    split
    · rw [flip1_length, ih]
    · exact ih

theorem mask_lt (r : Nat) : 128 / 2 ^ r < 256 := Nat.lt_of_le_of_lt (Nat.div_le_self _ _) (by decide)

theorem flip1_byte {bs : List Nat} (h : ∀ b ∈ bs, b < 256) (k : Nat) : ∀ b ∈ flip1 bs k, b < 256 :=
  mem_set_byte h _ _ (Nat.xor_lt_two_pow (n := 8) (getD_byte h _) (mask_lt _))

theorem flips_byte {bs : List Nat} (h : ∀ b ∈ bs, b < 256) (a mask i : Nat) : ∀ b ∈ flips a mask bs i, b < 256 := by
  induction i with
  | zero => exact h
  | succ i ih =>
    rw [flips]
    split
    · exact flip1_byte ih _
    · exact ih

theorem mask_pow : ∀ r, r < 8 → 128 / 2 ^ r = 2 ^ (7 - r) := by decide

theorem flip1_bit (bs : List Nat) (k j : Nat) (hk : k < 8 * bs.length) (hj : j < 8 * bs.length) :
    (unpack (flip1 bs k)).getD j 0 = if j = k then 1 - (unpack bs).getD j 0 else (unpack bs).getD j 0 := by
  rw [unpack_getD _ j (by rw [flip1_length]; exact hj), unpack_getD bs j hj]
  unfold flip1
  rw [getD_set]
  by_cases h : j / 8 = k / 8
  · rw [if_pos ⟨h, by omega⟩, h, mask_pow _ (by omega), bit_testBit, Nat.testBit_xor, Nat.testBit_two_pow, bit_testBit]
    by_cases e : j = k
    · rw [if_pos e, show decide (7 - k % 8 = 7 - j % 8) = true from by rw [e]; simp]
      cases Nat.testBit (bs.getD (k / 8) 0) (7 - j % 8) <;> rfl
    · rw [if_neg e, show decide (7 - k % 8 = 7 - j % 8) = false from by rw [decide_eq_false_iff_not]; omega, Bool.xor_false]
  · rw [if_neg (by omega), if_neg (by intro e; exact h (by rw [e]))]

theorem flips_bit (a mask : Nat) (bs : List Nat) (i j : Nat) (hi : a + i ≤ 8 * bs.length) (hj : j < 8 * bs.length) :
    (unpack (flips a mask bs i)).getD j 0 = if a ≤ j ∧ j < a + i ∧ mask / 2 ^ (j - a) % 2 = 1 then 1 - (unpack bs).getD j 0 else (unpack bs).getD j 0 := by
  induction i with
  | zero => rw [flips, if_neg (by omega)]
  | succ i ih =>
    have ih := ih (by omega)
    rw [flips]
    by_cases hm : mask / 2 ^ i % 2 = 1
    · rw [if_pos hm, flip1_bit _ _ _ (by rw [flips_length]; omega) (by rw [flips_length]; exact hj), ih]
      by_cases e : j = a + i
      · rw [if_pos e, if_neg (by omega), if_pos ⟨by omega, by omega, by rw [e, Nat.add_sub_cancel_left]; exact hm⟩]
      · rw [if_neg e]
        by_cases c : a ≤ j ∧ j < a + i ∧ mask / 2 ^ (j - a) % 2 = 1
        · rw [if_pos c, if_pos ⟨c.1, by omega, c.2.2⟩]
        · rw [if_neg c, if_neg (fun d => c ⟨d.1, by omega, d.2.2⟩)]
    · rw [if_neg hm, ih]
      by_cases c : a ≤ j ∧ j < a + i ∧ mask / 2 ^ (j - a) % 2 = 1
      · rw [if_pos c, if_pos ⟨c.1, by omega, c.2.2⟩]
      · rw [if_neg c, if_neg]
        intro d
        by_cases e : j = a + i
        · rw [e, Nat.add_sub_cancel_left] at d; exact hm d.2.2
        · exact c ⟨d.1, by omega, d.2.2⟩

/-- Bytes outside of the turned bits' stay. -/
theorem flips_far (a mask : Nat) (bs : List Nat) (i q : Nat) (h : q < a / 8 ∨ (a + i + 7) / 8 ≤ q) : (flips a mask bs i).getD q 0 = bs.getD q 0 := by
  induction i with
  | zero => rfl
  | succ i ih =>
    rw [flips]
    split
    · unfold flip1
      rw [getD_set, if_neg (by omega), ih (by omega)]
    · exact ih (by omega)

/-- A number below a power of two with a bit of each place 0 is 0. -/
theorem zero_of_bits (m W : Nat) (hm : m < 2 ^ W) (h : ∀ i, i < W → m / 2 ^ i % 2 = 0) : m = 0 := by
  apply Nat.eq_of_testBit_eq
  intro i
  rw [Nat.zero_testBit]
  by_cases hi : i < W
  · have := h i hi
    rw [bit_testBit] at this
    cases e : m.testBit i with
    | false => rfl
    | true => rw [e] at this; cases this
  · exact Nat.testBit_lt_two_pow (Nat.lt_of_lt_of_le hm (Nat.pow_le_pow_right (by decide) (by omega)))

theorem flips_ne (a mask : Nat) (bs : List Nat) (i : Nat) (hi : a + i ≤ 8 * bs.length) (h : ∃ j, j < i ∧ mask / 2 ^ j % 2 = 1) : bs ≠ flips a mask bs i := by
  obtain ⟨j, hj, hm⟩ := h
  intro e
  have f := flips_bit a mask bs i (a + j) hi (by omega)
  rw [← e, if_pos ⟨by omega, by omega, by rw [Nat.add_sub_cancel_left]; exact hm⟩] at f
  have := getD_bit (unpack bs) (unpack_bits bs) (a + j)
  omega

/-- Some bit is there of a number that isn't nought. -/
theorem some_bit (m W : Nat) (h : m % 2 ^ W ≠ 0) : ∃ j, j < W ∧ m / 2 ^ j % 2 = 1 := by
  refine Classical.byContradiction fun hn => h ?_
  refine zero_of_bits (m % 2 ^ W) W (Nat.mod_lt _ (Nat.pow_pos (by decide))) fun i hi => ?_
  rw [bit_testBit, Nat.testBit_mod_two_pow]
  have : ¬ m / 2 ^ i % 2 = 1 := fun e => hn ⟨i, hi, e⟩
  have h2 : m / 2 ^ i % 2 = 0 := by omega
  rw [bit_testBit] at h2
  cases e : m.testBit i with
  | false => simp
  | true => rw [e] at h2; cases h2

theorem turned16 (a mask : Nat) (bs : List Nat) (hb : ∀ b ∈ bs, b < 256) (ha : a + 16 ≤ 8 * bs.length) (hm : mask % 65536 ≠ 0) : crc16 bs ≠ crc16 (flips a mask bs 16) := by
  refine crc16_near _ _ hb (flips_byte hb _ _ _) (by rw [flips_length]) a ?_ (flips_ne a mask bs 16 ha (some_bit mask 16 hm))
  intro i hi ho
  rw [flips_bit a mask bs 16 i ha hi, if_neg (by omega)]

theorem turned32 (a mask : Nat) (bs : List Nat) (hb : ∀ b ∈ bs, b < 256) (ha : a + 32 ≤ 8 * bs.length) (h8 : a % 8 = 0) (h0 : mask ≠ 0) (hm : mask < 4294967296) : crc32 bs ≠ crc32 (flips a mask bs 32) := by
  refine crc32_near _ _ hb (flips_byte hb _ _ _) (by rw [flips_length]) (a / 8) ?_ (flips_ne a mask bs 32 ha (some_bit mask 32 (by rw [Nat.mod_eq_of_lt hm]; exact h0)))
  intro i hi ho
  rw [flips_far a mask bs 32 i (by omega)]

end Go.Proofs.YthhggjakenalpaaGreatDoor.Bt

/- Plain: a frame's bytes, and what bytes say of a frame; no program is named here. -/
namespace Go.Proofs.YthhggjakenalpaaGreatDoor.Bt
set_option maxRecDepth 100000

/-- A head's fields as one number. -/
def headN (tx sq an rs kd : Nat) : Nat := (((tx * 4096 + sq) * 8 + an) * 128 + rs) * 4 + kd

/-- Is a frame right? -/
def isFrm (tx sq an rs kd : Int) (n : Nat) : Bool :=
  decide (0 ≤ tx) && (decide (tx < 256) && (decide (0 ≤ sq) && (decide (sq < 4096) && (decide (0 ≤ an) && (decide (an < 8) && (decide (0 ≤ rs) && (decide (rs < 128) && (decide (0 ≤ kd) && (decide (kd < 4) && decide (n ≤ 60))))))))))

theorem isFrm_iff {tx sq an rs kd : Int} {n : Nat} : isFrm tx sq an rs kd n = true ↔ (0 ≤ tx ∧ tx < 256) ∧ (0 ≤ sq ∧ sq < 4096) ∧ (0 ≤ an ∧ an < 8) ∧ (0 ≤ rs ∧ rs < 128) ∧ (0 ≤ kd ∧ kd < 4) ∧ n ≤ 60 := by
  simp only [isFrm, Bool.and_eq_true, decide_eq_true_eq]
  constructor
  · intro h; omega
  · intro h; omega

/-- The head: the fields, how many bytes there are, and their sum. -/
def headB (h : Nat) (n : Nat) : List Nat := numB h 4 ++ [n] ++ numB (crc16 (numB h 4 ++ [n])) 2

/-- A frame's bytes, by its head's number. -/
def frmB (h : Nat) (ds : List Nat) : List Nat := headB h ds.length ++ ds ++ numB (crc32 (headB h ds.length ++ ds)) 4

theorem headB_length (h n : Nat) : (headB h n).length = 7 := by simp [headB, numB_length]
theorem frmB_length (h : Nat) (ds : List Nat) : (frmB h ds).length = 11 + ds.length := by
  simp only [frmB, List.length_append, headB_length, numB_length]; omega

theorem headB_byte (h n : Nat) (hn : n < 256) : ∀ b ∈ headB h n, b < 256 := by
  intro b hb
  simp only [headB, List.mem_append, List.mem_singleton] at hb
  rcases hb with (hb | hb) | hb
  · exact numB_byte _ _ b hb
  · omega
  · exact numB_byte _ _ b hb

theorem frmB_byte (h : Nat) (ds : List Nat) (hd : ∀ b ∈ ds, b < 256) (hl : ds.length < 256) : ∀ b ∈ frmB h ds, b < 256 := by
  intro b hb
  simp only [frmB, List.mem_append] at hb
  rcases hb with (hb | hb) | hb
  · exact headB_byte h _ hl b hb
  · exact hd b hb
  · exact numB_byte _ _ b hb

/-- What is wrong with bytes; 0: nothing. -/
def parseE (bs : List Nat) : Nat :=
  if bs.length < 11 then 2 else
  if crc16 (bs.take 5) ≠ readB ((bs.drop 5).take 2) then 3 else
  if 60 < bs.getD 4 0 ∨ bs.length ≠ 11 + bs.getD 4 0 then 4 else
  if crc32 (bs.take (7 + bs.getD 4 0)) ≠ readB (bs.drop (7 + bs.getD 4 0)) then 5 else 0

theorem parseE_zero {bs : List Nat} (h : parseE bs = 0) :
    11 ≤ bs.length ∧ crc16 (bs.take 5) = readB ((bs.drop 5).take 2) ∧ bs.getD 4 0 ≤ 60 ∧ bs.length = 11 + bs.getD 4 0 ∧ crc32 (bs.take (7 + bs.getD 4 0)) = readB (bs.drop (7 + bs.getD 4 0)) := by
  unfold parseE at h
  split at h
  · cases h
  split at h
  · cases h
  split at h
  · cases h
  split at h
  · cases h
  rename_i h1 h2 h3 h4
  refine ⟨by omega, Classical.byContradiction h2, by omega, by omega, Classical.byContradiction h4⟩

theorem parseE_ok {bs : List Nat} (h2 : crc16 (bs.take 5) = readB ((bs.drop 5).take 2)) (h3 : bs.getD 4 0 ≤ 60) (h4 : bs.length = 11 + bs.getD 4 0)
    (h5 : crc32 (bs.take (7 + bs.getD 4 0)) = readB (bs.drop (7 + bs.getD 4 0))) : parseE bs = 0 := by
  unfold parseE
  rw [if_neg (by omega), if_neg (by rw [h2]; simp), if_neg (by omega), if_neg (by rw [h5]; simp)]

/-- The head of bytes that begin as a frame. -/
theorem frm_head (h n : Nat) (rest : List Nat) :
    (headB h n ++ rest).take 5 = numB h 4 ++ [n] ∧ ((headB h n ++ rest).drop 5).take 2 = numB (crc16 (numB h 4 ++ [n])) 2 ∧ (headB h n ++ rest).getD 4 0 = n ∧ (headB h n ++ rest).take 4 = numB h 4 := by
  have l4 := numB_length h 4
  have l2 := numB_length (crc16 (numB h 4 ++ [n])) 2
  unfold headB
  generalize numB (crc16 (numB h 4 ++ [n])) 2 = c at l2 ⊢
  generalize numB h 4 = a at l4 ⊢
  match a, l4 with
  | [a0, a1, a2, a3], _ =>
    match c, l2 with
    | [c0, c1], _ => exact ⟨rfl, rfl, rfl, rfl⟩

theorem frm_body (h : Nat) (ds : List Nat) :
    (frmB h ds).take (7 + ds.length) = headB h ds.length ++ ds ∧ (frmB h ds).drop (7 + ds.length) = numB (crc32 (headB h ds.length ++ ds)) 4 ∧ ((frmB h ds).drop 7).take ds.length = ds := by
  have l7 := headB_length h ds.length
  have l : (headB h ds.length ++ ds).length = 7 + ds.length := by rw [List.length_append, l7]
  unfold frmB
  refine ⟨?_, ?_, ?_⟩
  · rw [← l, List.take_left]
  · rw [← l, List.drop_left]
  · rw [List.append_assoc, ← l7, List.drop_left, List.take_left]

theorem read_num (u m : Nat) (h : u < 256 ^ m) : readB (numB u m) = u := by rw [readB_numB]; exact Nat.mod_eq_of_lt h

theorem parse_frm (h : Nat) (ds : List Nat) (hl : ds.length ≤ 60) : parseE (frmB h ds) = 0 := by
  have f := frm_head h ds.length (ds ++ numB (crc32 (headB h ds.length ++ ds)) 4)
  rw [← List.append_assoc] at f
  change (frmB h ds).take 5 = _ ∧ ((frmB h ds).drop 5).take 2 = _ ∧ (frmB h ds).getD 4 0 = _ ∧ (frmB h ds).take 4 = _ at f
  obtain ⟨f1, f2, f3, f4⟩ := f
  obtain ⟨g1, g2, g3⟩ := frm_body h ds
  refine parseE_ok ?_ (by rw [f3]; exact hl) (by rw [f3, frmB_length]) ?_
  · rw [f1, f2, read_num _ 2 (crc16_lt _)]
  · rw [f3, g1, g2, read_num _ 4 (crc32_lt _)]

theorem frm_fields (h : Nat) (ds : List Nat) (hh : h < 4294967296) : readB ((frmB h ds).take 4) = h ∧ (frmB h ds).getD 4 0 = ds.length ∧ ((frmB h ds).drop 7).take ds.length = ds := by
  have f := frm_head h ds.length (ds ++ numB (crc32 (headB h ds.length ++ ds)) 4)
  rw [← List.append_assoc] at f
  change (frmB h ds).take 5 = _ ∧ ((frmB h ds).drop 5).take 2 = _ ∧ (frmB h ds).getD 4 0 = _ ∧ (frmB h ds).take 4 = _ at f
  exact ⟨by rw [f.2.2.2, read_num _ 4 hh], f.2.2.1, (frm_body h ds).2.2⟩

theorem numB_readB (l : List Nat) (h : ∀ b ∈ l, b < 256) : numB (readB l) l.length = l := by
  have key : ∀ m : List Nat, (∀ b ∈ m, b < 256) → numB (readB m.reverse) m.length = m.reverse := by
    intro m
    induction m with
    | nil => intro _; rfl
    | cons a m ih =>
      intro hm
      have ha := hm a (by simp)
      rw [List.reverse_cons, readB_snoc, List.length_cons, numB_succ]
      rw [show (readB m.reverse * 256 + a) / 256 = readB m.reverse from by omega, show (readB m.reverse * 256 + a) % 256 = a from by omega, ih (fun b hb => hm b (by simp [hb]))]
  have := key l.reverse (fun b hb => h b (by simpa using hb))
  simpa using this

theorem readB_inj (l m : List Nat) (hl : ∀ b ∈ l, b < 256) (hm : ∀ b ∈ m, b < 256) (hlen : l.length = m.length) (h : readB l = readB m) : l = m := by
  rw [← numB_readB l hl, ← numB_readB m hm, h, hlen]

theorem mem_take' {l : List Nat} (h : ∀ b ∈ l, b < 256) (n : Nat) : ∀ b ∈ l.take n, b < 256 := fun b hb => h b (List.mem_of_mem_take hb)
theorem mem_drop' {l : List Nat} (h : ∀ b ∈ l, b < 256) (n : Nat) : ∀ b ∈ l.drop n, b < 256 := fun b hb => h b (List.mem_of_mem_drop hb)

theorem split_head (bs : List Nat) (h : 11 ≤ bs.length) : bs.take 7 = bs.take 4 ++ [bs.getD 4 0] ++ (bs.drop 5).take 2 := by
  match bs, h with
  | b0 :: b1 :: b2 :: b3 :: b4 :: b5 :: b6 :: r, _ => rfl

theorem split_five (bs : List Nat) (h : 11 ≤ bs.length) : bs.take 5 = bs.take 4 ++ [bs.getD 4 0] := by
  match bs, h with
  | b0 :: b1 :: b2 :: b3 :: b4 :: b5 :: b6 :: r, _ => rfl

/-- Bytes that are parsed are the frame's that they say. -/
theorem frm_parse (bs : List Nat) (hb : ∀ b ∈ bs, b < 256) (h : parseE bs = 0) : frmB (readB (bs.take 4)) ((bs.drop 7).take (bs.getD 4 0)) = bs := by
  obtain ⟨h1, h2, h3, h4, h5⟩ := parseE_zero h
  have n4 : numB (readB (bs.take 4)) 4 = bs.take 4 := by
    have := numB_readB (bs.take 4) (mem_take' hb 4)
    rwa [show (bs.take 4).length = 4 from by simp; omega] at this
  have n2 : numB (crc16 (bs.take 5)) 2 = (bs.drop 5).take 2 := by
    have := numB_readB ((bs.drop 5).take 2) (mem_take' (mem_drop' hb 5) 2)
    rw [show ((bs.drop 5).take 2).length = 2 from by simp; omega] at this
    rw [h2]; exact this
  have nd : numB (crc32 (bs.take (7 + bs.getD 4 0))) 4 = bs.drop (7 + bs.getD 4 0) := by
    have := numB_readB (bs.drop (7 + bs.getD 4 0)) (mem_drop' hb _)
    rw [show (bs.drop (7 + bs.getD 4 0)).length = 4 from by simp only [List.length_drop]; omega] at this
    rw [h5]; exact this
  have ld : ((bs.drop 7).take (bs.getD 4 0)).length = bs.getD 4 0 := by simp only [List.length_take, List.length_drop]; omega
  have hd : headB (readB (bs.take 4)) (bs.getD 4 0) = bs.take 7 := by
    unfold headB
    rw [n4, ← split_five bs h1, n2, split_five bs h1, ← split_head bs h1]
  have hbody : bs.take 7 ++ (bs.drop 7).take (bs.getD 4 0) = bs.take (7 + bs.getD 4 0) := by rw [List.take_add]
  unfold frmB
  rw [ld, hd, hbody, nd, List.take_append_drop]

/-- A frame's bytes with one byte turned are no frame's. -/
theorem frm_turned (bs : List Nat) (hb : ∀ b ∈ bs, b < 256) (h : parseE bs = 0) (k x : Nat) (hk : k < bs.length) (hx : x < 256) (hne : x ≠ bs.getD k 0) : parseE (bs.set k x) ≠ 0 := by
  intro h'
  obtain ⟨_, _, a3, a4, a5⟩ := parseE_zero h
  obtain ⟨_, _, _, b4, b5⟩ := parseE_zero h'
  rw [List.length_set] at b4
  have e4 : (bs.set k x).getD 4 0 = bs.getD 4 0 := by omega
  rw [e4] at b5
  generalize hs : 7 + bs.getD 4 0 = s at a5 b5
  by_cases hks : k < s
  · have hd : (bs.set k x).drop s = bs.drop s := by rw [List.drop_set_of_lt hks]
    have ht : (bs.set k x).take s = (bs.take s).set k x := by rw [List.take_set]
    rw [hd, ht, ← a5] at b5
    have hkl : k < (bs.take s).length := by rw [List.length_take]; omega
    have hg : (bs.take s).getD k 0 = bs.getD k 0 := getD_take' bs s k hks
    exact (crc_one (bs.take s) (mem_take' hb s) k x hkl hx (by rw [hg]; exact hne)).2 b5.symm
  · have ht : (bs.set k x).take s = bs.take s := by rw [List.take_set_of_le (by omega)]
    rw [ht, a5] at b5
    have e := readB_inj _ _ (mem_drop' hb s) (mem_drop' (mem_set_byte hb k x hx) s) (by simp) b5
    have e2 := congrArg (fun l => l.getD (k - s) 0) e
    simp only [getD_drop', show s + (k - s) = k from by omega, getD_set, hk, and_self, if_true] at e2
    exact hne e2.symm

/-- Cut off, it is none: too short, or of another length. -/
theorem frm_cut (bs : List Nat) (h : parseE bs = 0) (j : Nat) (hj : j < bs.length) : parseE (bs.take j) = 2 ∨ parseE (bs.take j) = 4 := by
  obtain ⟨a1, a2, a3, a4, _⟩ := parseE_zero h
  by_cases h11 : j < 11
  · left
    unfold parseE
    rw [if_pos (by rw [List.length_take]; omega)]
  · right
    have e5 : (bs.take j).take 5 = bs.take 5 := by rw [List.take_take, show min 5 j = 5 from by omega]
    have e2 : ((bs.take j).drop 5).take 2 = (bs.drop 5).take 2 := by rw [List.drop_take, List.take_take, show min 2 (j - 5) = 2 from by omega]
    have e4 : (bs.take j).getD 4 0 = bs.getD 4 0 := getD_take' bs j 4 (by omega)
    have el : (bs.take j).length = j := by rw [List.length_take]; omega
    unfold parseE
    rw [if_neg (by omega), e5, e2, a2, if_neg (by simp), e4, el, if_pos (by omega)]

/-- With a byte more, it is none. -/
theorem frm_more (bs : List Nat) (h : parseE bs = 0) (x : Nat) : parseE (bs ++ [x]) = 4 := by
  obtain ⟨a1, a2, a3, a4, _⟩ := parseE_zero h
  have e5 : (bs ++ [x]).take 5 = bs.take 5 := by rw [List.take_append_of_le_length (by omega)]
  have e2 : ((bs ++ [x]).drop 5).take 2 = (bs.drop 5).take 2 := by rw [List.drop_append_of_le_length (by omega), List.take_append_of_le_length (by rw [List.length_drop]; omega)]
  have e4 : (bs ++ [x]).getD 4 0 = bs.getD 4 0 := by
    rw [List.getD_eq_getElem?_getD, List.getElem?_append_left (by omega), ← List.getD_eq_getElem?_getD]
  have el : (bs ++ [x]).length = bs.length + 1 := by simp
  unfold parseE
  rw [if_neg (by omega), e5, e2, a2, if_neg (by simp), e4, el, if_pos (by omega)]

/-- A head's number and its fields. -/
theorem headN_lt (tx sq an rs kd : Nat) (h1 : tx < 256) (h2 : sq < 4096) (h3 : an < 8) (h4 : rs < 128) (h5 : kd < 4) : headN tx sq an rs kd < 4294967296 := by
  unfold headN; omega

theorem headN_fields (tx sq an rs kd : Nat) (h2 : sq < 4096) (h3 : an < 8) (h4 : rs < 128) (h5 : kd < 4) :
    headN tx sq an rs kd % 4 = kd ∧ headN tx sq an rs kd / 4 % 128 = rs ∧ headN tx sq an rs kd / 512 % 8 = an ∧ headN tx sq an rs kd / 4096 % 4096 = sq ∧ headN tx sq an rs kd / 16777216 = tx := by
  unfold headN
  refine ⟨?_, ?_, ?_, ?_, ?_⟩ <;> omega

theorem headN_of (n : Nat) : headN (n / 16777216) (n / 4096 % 4096) (n / 512 % 8) (n / 4 % 128) (n % 4) = n := by
  unfold headN; omega

theorem frmB_inj (h g : Nat) (ds es : List Nat) (hh : h < 4294967296) (hg : g < 4294967296) (e : frmB h ds = frmB g es) : h = g ∧ ds = es := by
  have a := frm_fields h ds hh
  have b := frm_fields g es hg
  rw [e] at a
  have e1 : h = g := a.1.symm.trans b.1
  have e2 : ds.length = es.length := a.2.1.symm.trans b.2.1
  refine ⟨e1, ?_⟩
  rw [← a.2.2, e2]; exact b.2.2

/-- The head as bits: five fields one behind the other. -/
theorem head_bits (tx sq an rs kd : Nat) (h2 : sq < 4096) (h3 : an < 8) (h4 : rs < 128) (h5 : kd < 4) :
    fld 8 tx ++ fld 12 sq ++ fld 3 an ++ fld 7 rs ++ fld 2 kd = fld 32 (headN tx sq an rs kd) := by
  have s1 := fld_split 30 2 (headN tx sq an rs kd)
  have s2 := fld_split 23 7 (headN tx sq an rs kd / 2 ^ 2)
  have s3 := fld_split 20 3 (headN tx sq an rs kd / 2 ^ 2 / 2 ^ 7)
  have s4 := fld_split 8 12 (headN tx sq an rs kd / 2 ^ 2 / 2 ^ 7 / 2 ^ 3)
  rw [show (32 : Nat) = 30 + 2 from rfl, s1, show (30 : Nat) = 23 + 7 from rfl, s2, show (23 : Nat) = 20 + 3 from rfl, s3, show (20 : Nat) = 8 + 12 from rfl, s4]
  have e5 : headN tx sq an rs kd % 2 ^ 2 = kd := by unfold headN; omega
  have e4 : headN tx sq an rs kd / 2 ^ 2 % 2 ^ 7 = rs := by unfold headN; omega
  have e3 : headN tx sq an rs kd / 2 ^ 2 / 2 ^ 7 % 2 ^ 3 = an := by unfold headN; omega
  have e2 : headN tx sq an rs kd / 2 ^ 2 / 2 ^ 7 / 2 ^ 3 % 2 ^ 12 = sq := by unfold headN; omega
  have e1 : headN tx sq an rs kd / 2 ^ 2 / 2 ^ 7 / 2 ^ 3 / 2 ^ 12 = tx := by unfold headN; omega
  rw [e1, e2, e3, e4, e5]

/-- Thirty-two bits as bytes. -/
theorem fld32_unpack (n : Nat) : fld 32 n = unpack (numB n 4) := by
  have e : numB n 4 = [n / 16777216 % 256, n / 65536 % 256, n / 256 % 256, n % 256] := by
    rw [numB_succ, numB_succ, numB_succ, numB_succ]
    simp only [numB, List.range_zero, List.map_nil, List.nil_append, List.cons_append, Nat.div_div_eq_div_mul]
  rw [e]
  have s1 := fld_split 24 8 n
  have s2 := fld_split 16 8 (n / 2 ^ 8)
  have s3 := fld_split 8 8 (n / 2 ^ 8 / 2 ^ 8)
  rw [show (32 : Nat) = 24 + 8 from rfl, s1, show (24 : Nat) = 16 + 8 from rfl, s2, show (16 : Nat) = 8 + 8 from rfl, s3]
  have m8 : fld 8 (n / 2 ^ 8 / 2 ^ 8 / 2 ^ 8) = fld 8 (n / 16777216 % 256) := by
    apply num_inj _ _ (fld_bits _ _) (fld_bits _ _) (by rw [fld_length, fld_length])
    rw [num_fld, num_fld]; omega
  rw [m8, show n / 2 ^ 8 / 2 ^ 8 % 2 ^ 8 = n / 65536 % 256 from by omega, show n / 2 ^ 8 % 2 ^ 8 = n / 256 % 256 from by omega, show n % 2 ^ 8 = n % 256 from rfl]
  simp [unpack]

theorem pack_fld32 (n : Nat) : pack (fld 32 n) = numB n 4 := by
  rw [fld32_unpack, pack_unpack _ (numB_byte _ _)]

end Go.Proofs.YthhggjakenalpaaGreatDoor.Bt

/- Plain: GF(256), bytes as polynomials modulo 11d; no program is named here. -/
namespace Go.Proofs.YthhggjakenalpaaGreatDoor.Bt
set_option maxRecDepth 100000

/-- Times 2. -/
def xt (x : Nat) : Nat := if x < 128 then 2 * x else (2 * x) ^^^ 285

/-- Times 2, n times. -/
def xtn : Nat → Nat → Nat
  | 0, x => x
  | n + 1, x => xt (xtn n x)

/-- What the first n bits of b make of a. -/
def gm : Nat → Nat → Nat → Nat
  | 0, _, _ => 0
  | n + 1, a, b => gm n a b ^^^ (if b / 2 ^ n % 2 = 1 then xtn n a else 0)

/-- The product. -/
def gmul (a b : Nat) : Nat := gm 8 a b

theorem all_lt {p : Nat → Bool} {n : Nat} (h : (List.range n).all p = true) : ∀ x, x < n → p x = true := fun x hx => List.all_eq_true.1 h x (List.mem_range.2 hx)

theorem xt_lt {x : Nat} (h : x < 256) : xt x < 256 := by
  have := all_lt (p := fun x => decide (xt x < 256)) (n := 256) (by decide +kernel) x h
  simpa using this

theorem xt_parts {x : Nat} (h : x < 256) : xt x = (2 * (x % 128)) ^^^ (if x / 128 % 2 = 1 then 29 else 0) := by
  have := all_lt (p := fun x => decide (xt x = (2 * (x % 128)) ^^^ (if x / 128 % 2 = 1 then 29 else 0))) (n := 256) (by decide +kernel) x h
  simpa using this

theorem xor_bit (x y k : Nat) : (x ^^^ y) / 2 ^ k % 2 = (x / 2 ^ k % 2) ^^^ (y / 2 ^ k % 2) := by
  have h := Nat.testBit_xor (x := x) (y := y) (i := k)
  simp only [Nat.testBit_eq_decide_div_mod_eq] at h
  have a : (x ^^^ y) / 2 ^ k % 2 < 2 := Nat.mod_lt _ (by decide)
  have b : x / 2 ^ k % 2 < 2 := Nat.mod_lt _ (by decide)
  have c : y / 2 ^ k % 2 < 2 := Nat.mod_lt _ (by decide)
  generalize (x ^^^ y) / 2 ^ k % 2 = u at h a ⊢
  generalize x / 2 ^ k % 2 = v at h b ⊢
  generalize y / 2 ^ k % 2 = z at h c ⊢
  match u, v, z, a, b, c with
  | 0, 0, 0, _, _, _ => rfl
  | 0, 0, 1, _, _, _ => simp at h
  | 0, 1, 0, _, _, _ => simp at h
  | 0, 1, 1, _, _, _ => rfl
  | 1, 0, 0, _, _, _ => simp at h
  | 1, 0, 1, _, _, _ => rfl
  | 1, 1, 0, _, _, _ => rfl
  | 1, 1, 1, _, _, _ => simp at h

theorem bit_two (x k : Nat) : x / 2 ^ k % 2 = 0 ∨ x / 2 ^ k % 2 = 1 := by
  have : x / 2 ^ k % 2 < 2 := Nat.mod_lt _ (by decide)
  omega

theorem xor_lt8 {x y : Nat} (hx : x < 256) (hy : y < 256) : x ^^^ y < 256 := Nat.xor_lt_two_pow (n := 8) hx hy

theorem xor4 (a b c d : Nat) : (a ^^^ b) ^^^ (c ^^^ d) = (a ^^^ c) ^^^ (b ^^^ d) := by
  rw [Nat.xor_assoc, ← Nat.xor_assoc b c d, Nat.xor_comm b c, Nat.xor_assoc c b d, ← Nat.xor_assoc]

theorem two_xorF (x y : Nat) : 2 * (x ^^^ y) = 2 * x ^^^ 2 * y := by
  have h := Nat.shiftLeft_xor_distrib (a := x) (b := y) (i := 1)
  simp only [Nat.shiftLeft_eq, Nat.pow_one] at h
  rw [Nat.mul_comm, h, Nat.mul_comm x, Nat.mul_comm y]

/-- What hangs on a bit goes over exclusive or. -/
theorem sel_xor (x y k v : Nat) : (if (x ^^^ y) / 2 ^ k % 2 = 1 then v else 0) = (if x / 2 ^ k % 2 = 1 then v else 0) ^^^ (if y / 2 ^ k % 2 = 1 then v else 0) := by
  rw [xor_bit]
  rcases bit_two x k with h | h <;> rcases bit_two y k with g | g <;> rw [h, g] <;> simp

theorem xt_xor {x y : Nat} (hx : x < 256) (hy : y < 256) : xt (x ^^^ y) = xt x ^^^ xt y := by
  rw [xt_parts hx, xt_parts hy, xt_parts (xor_lt8 hx hy), xor4]
  have e1 : (x ^^^ y) % 128 = x % 128 ^^^ y % 128 := Nat.xor_mod_two_pow (n := 7)
  have e2 := sel_xor x y 7 29
  rw [show (2 : Nat) ^ 7 = 128 from rfl] at e2
  rw [e1, e2, two_xorF]

theorem xt_zero : xt 0 = 0 := rfl

theorem xtn_lt {x : Nat} (h : x < 256) (n : Nat) : xtn n x < 256 := by
  induction n with
  | zero => exact h
  | succ n ih => exact xt_lt ih

theorem xtn_zero (n : Nat) : xtn n 0 = 0 := by
  induction n with
  | zero => rfl
  | succ n ih => rw [xtn, ih]; rfl

theorem xtn_xor {x y : Nat} (hx : x < 256) (hy : y < 256) (n : Nat) : xtn n (x ^^^ y) = xtn n x ^^^ xtn n y := by
  induction n with
  | zero => rfl
  | succ n ih => rw [xtn, ih, xt_xor (xtn_lt hx n) (xtn_lt hy n)]; rfl

theorem xtn_add (m n x : Nat) : xtn (m + n) x = xtn m (xtn n x) := by
  induction m with
  | zero => rw [Nat.zero_add]; rfl
  | succ m ih => rw [Nat.succ_add, xtn, ih]; rfl

theorem xtn_xt (n x : Nat) : xtn n (xt x) = xt (xtn n x) := by
  have := xtn_add n 1 x
  rw [xtn] at this
  exact this.symm

theorem gm_lt {a : Nat} (h : a < 256) (n b : Nat) : gm n a b < 256 := by
  induction n with
  | zero => show 0 < 256; decide
  | succ n ih =>
    rw [gm]
    split
    · exact xor_lt8 ih (xtn_lt h n)
    · exact xor_lt8 ih (by decide)

theorem gmul_lt {a : Nat} (h : a < 256) (b : Nat) : gmul a b < 256 := gm_lt h 8 b

theorem gm_xor_left {a c : Nat} (ha : a < 256) (hc : c < 256) (n b : Nat) : gm n (a ^^^ c) b = gm n a b ^^^ gm n c b := by
  induction n with
  | zero => show 0 = 0 ^^^ 0; decide
  | succ n ih =>
    rw [gm, gm, gm, ih, xor4, xtn_xor ha hc]
    split <;> simp

theorem gm_xor_right (n a b c : Nat) : gm n a (b ^^^ c) = gm n a b ^^^ gm n a c := by
  induction n with
  | zero => show 0 = 0 ^^^ 0; decide
  | succ n ih => rw [gm, gm, gm, ih, xor4, sel_xor]

theorem gm_xt {a : Nat} (ha : a < 256) (n b : Nat) : gm n (xt a) b = xt (gm n a b) := by
  induction n with
  | zero => rfl
  | succ n ih =>
    rw [gm, gm, ih, xtn_xt]
    split
    · rw [xt_xor (gm_lt ha n b) (xtn_lt ha n)]
    · rw [xt_xor (gm_lt ha n b) (by decide)]; rfl

theorem gm_xtn {a : Nat} (ha : a < 256) (k n b : Nat) : gm n (xtn k a) b = xtn k (gm n a b) := by
  induction k with
  | zero => rfl
  | succ k ih => rw [xtn, gm_xt (xtn_lt ha k), ih]; rfl

theorem gm_zero (n b : Nat) : gm n 0 b = 0 := by
  induction n with
  | zero => rfl
  | succ n ih => rw [gm, ih, xtn_zero]; split <;> rfl

theorem gmul_zero_left (b : Nat) : gmul 0 b = 0 := gm_zero 8 b

/-- A sum of shifts, multiplied. -/
theorem gm_gm {x : Nat} (hx : x < 256) (n b c : Nat) : gmul (gm n x c) b = gm n (gmul x b) c := by
  induction n with
  | zero => exact gmul_zero_left b
  | succ n ih =>
    rw [gm, gm]
    unfold gmul at ih ⊢
    rw [gm_xor_left (gm_lt hx n c) (by split; exact xtn_lt hx n; decide), ih]
    split
    · rw [gm_xtn hx]
    · rw [gm_zero]

theorem gmul_one_left {b : Nat} (h : b < 256) : gmul 1 b = b := by
  have := all_lt (p := fun b => decide (gmul 1 b = b)) (n := 256) (by decide +kernel) b h
  simpa using this

theorem gmul_comm {a b : Nat} (ha : a < 256) (hb : b < 256) : gmul a b = gmul b a := by
  have h := gm_gm (x := 1) (by decide) 8 b a
  change gmul (gmul 1 a) b = gm 8 (gmul 1 b) a at h
  rw [gmul_one_left ha, gmul_one_left hb] at h
  exact h

theorem gmul_right_comm {a b c : Nat} (ha : a < 256) : gmul (gmul a c) b = gmul (gmul a b) c := gm_gm ha 8 b c

theorem gmul_assoc {a b c : Nat} (ha : a < 256) (hb : b < 256) : gmul (gmul a b) c = gmul a (gmul b c) := by
  rw [gmul_comm ha (gmul_lt hb c), gmul_right_comm hb, gmul_comm hb ha]

theorem gmul_xor (a b c : Nat) : gmul a (b ^^^ c) = gmul a b ^^^ gmul a c := gm_xor_right 8 a b c

theorem gmul_one {a : Nat} (ha : a < 256) : gmul a 1 = a := by rw [gmul_comm ha (by decide), gmul_one_left ha]

theorem gmul_zero {a : Nat} (ha : a < 256) : gmul a 0 = 0 := by rw [gmul_comm ha (by decide), gmul_zero_left]

/-- The powers of 2. -/
def pw (i : Nat) : Nat := xtn i 1

theorem pw_lt (i : Nat) : pw i < 256 := xtn_lt (by decide) i

theorem pw_gmul {b : Nat} (hb : b < 256) (i : Nat) : gmul (pw i) b = xtn i b := by
  unfold pw gmul
  rw [gm_xtn (by decide)]
  congr 1
  exact gmul_one_left hb

theorem pw_add (i j : Nat) : gmul (pw i) (pw j) = pw (i + j) := by
  rw [pw_gmul (pw_lt j)]
  exact (xtn_add i j 1).symm

theorem pw_succ (i : Nat) : pw (i + 1) = xt (pw i) := rfl

/-- The powers one behind the other, reckoned quickly. -/
def pws : Nat → Nat → List Nat
  | 0, _ => []
  | n + 1, p => p :: pws n (xt p)

theorem pws_getD (n p i : Nat) (h : i < n) : (pws n p).getD i 0 = xtn i p := by
  induction n generalizing p i with
  | zero => omega
  | succ n ih =>
    cases i with
    | zero => rfl
    | succ i =>
      rw [pws, List.getD_cons_succ, ih (xt p) i (by omega), xtn_xt]; rfl

theorem pw_255 : pw 255 = 1 := by decide +kernel

theorem pw_mod (i : Nat) : pw i = pw (i % 255) := by
  have key : ∀ k r, pw (255 * k + r) = pw r := by
    intro k r
    induction k with
    | zero => simp
    | succ k ih =>
      rw [show 255 * (k + 1) + r = 255 + (255 * k + r) from by omega, ← pw_add, pw_255, ih, gmul_one_left (pw_lt r)]
  have := key (i / 255) (i % 255)
  rw [Nat.div_add_mod] at this
  exact this

/-- The least power of 2 that a byte is; 255 of 0. -/
def lgo : Nat → Nat → Nat → Nat → Nat
  | 0, _, i, _ => i
  | n + 1, p, i, a => if p = a then i else lgo n (xt p) (i + 1) a

def lg (a : Nat) : Nat := lgo 255 1 0 a

theorem lg_facts : ((List.range 256).all fun a => decide (a = 0) || (decide (lg a < 255) && decide ((pws 255 1).getD (lg a) 0 = a))) = true := by decide +kernel

theorem lg_lt {a : Nat} (h : a < 256) (h0 : a ≠ 0) : lg a < 255 := by
  have := all_lt lg_facts a h
  simp only [Bool.or_eq_true, Bool.and_eq_true, decide_eq_true_eq] at this
  omega

theorem pw_lg {a : Nat} (h : a < 256) (h0 : a ≠ 0) : pw (lg a) = a := by
  have := all_lt lg_facts a h
  simp only [Bool.or_eq_true, Bool.and_eq_true, decide_eq_true_eq] at this
  rcases this with h1 | ⟨h1, h2⟩
  · exact absurd h1 h0
  · rw [pws_getD 255 1 _ h1] at h2; exact h2

theorem lg_pws : ((List.range 255).all fun i => decide (lg ((pws 255 1).getD i 0) = i)) = true := by decide +kernel

theorem lg_pw {i : Nat} (h : i < 255) : lg (pw i) = i := by
  have := all_lt lg_pws i h
  simp only [decide_eq_true_eq] at this
  rwa [pws_getD 255 1 i h] at this

theorem pw_ne (i : Nat) : pw i ≠ 0 := by
  rw [pw_mod]
  have hi : i % 255 < 255 := Nat.mod_lt _ (by decide)
  have := all_lt (p := fun i => decide ((pws 255 1).getD i 0 ≠ 0)) (n := 255) (by decide +kernel) (i % 255) hi
  simp only [decide_eq_true_eq] at this
  rwa [pws_getD 255 1 _ hi] at this

theorem pw_inj {i j : Nat} (hi : i < 255) (hj : j < 255) (h : pw i = pw j) : i = j := by
  rw [← lg_pw hi, h, lg_pw hj]

theorem gmul_lg {a b : Nat} (ha : a < 256) (hb : b < 256) (a0 : a ≠ 0) (b0 : b ≠ 0) : gmul a b = pw (lg a + lg b) := by
  rw [← pw_add, pw_lg ha a0, pw_lg hb b0]

theorem gmul_ne {a b : Nat} (ha : a < 256) (hb : b < 256) (a0 : a ≠ 0) (b0 : b ≠ 0) : gmul a b ≠ 0 := by
  rw [gmul_lg ha hb a0 b0]; exact pw_ne _

theorem lg_gmul {a b : Nat} (ha : a < 256) (hb : b < 256) (a0 : a ≠ 0) (b0 : b ≠ 0) : lg (gmul a b) = (lg a + lg b) % 255 := by
  rw [gmul_lg ha hb a0 b0, pw_mod, lg_pw (Nat.mod_lt _ (by decide))]

/-- The inverse; 0 of 0. -/
def ginv (a : Nat) : Nat := if a = 0 then 0 else pw (255 - lg a)

theorem ginv_lt (a : Nat) : ginv a < 256 := by
  unfold ginv; split
  · decide
  · exact pw_lt _

theorem ginv_mul {a : Nat} (ha : a < 256) (a0 : a ≠ 0) : gmul a (ginv a) = 1 := by
  have h := lg_lt ha a0
  unfold ginv
  rw [if_neg a0]
  conv => lhs; arg 1; rw [← pw_lg ha a0]
  rw [pw_add, show lg a + (255 - lg a) = 255 from by omega, pw_255]

theorem ginv_ne {a : Nat} (ha : a < 256) (a0 : a ≠ 0) : ginv a ≠ 0 := by
  intro h
  have := ginv_mul ha a0
  rw [h, gmul_zero ha] at this
  cases this

theorem gmul_cancel {a b c : Nat} (ha : a < 256) (hb : b < 256) (hc : c < 256) (a0 : a ≠ 0) (h : gmul a b = gmul a c) : b = c := by
  have e : ∀ x, x < 256 → gmul (ginv a) (gmul a x) = x := fun x hx => by
    rw [← gmul_assoc (ginv_lt a) ha, gmul_comm (ginv_lt a) ha, ginv_mul ha a0, gmul_one_left hx]
  rw [← e b hb, h, e c hc]

/-- The inverse is the only one. -/
theorem ginv_only {a b : Nat} (ha : a < 256) (hb : b < 256) (h : gmul a b = 1) : b = ginv a := by
  have a0 : a ≠ 0 := fun e => by rw [e, gmul_zero_left] at h; cases h
  exact gmul_cancel ha hb (ginv_lt a) a0 (h.trans (ginv_mul ha a0).symm)

/-- The product of n times a byte. -/
def gpow (a : Nat) : Nat → Nat
  | 0 => 1
  | n + 1 => gmul (gpow a n) a

theorem gpow_lt {a : Nat} (_ha : a < 256) (n : Nat) : gpow a n < 256 := by
  induction n with
  | zero => show 1 < 256; decide
  | succ n ih => exact gmul_lt ih a

theorem gpow_lg {a : Nat} (ha : a < 256) (a0 : a ≠ 0) (n : Nat) : gpow a n = pw (lg a * n) := by
  induction n with
  | zero => rfl
  | succ n ih =>
    rw [gpow, ih]
    conv => lhs; arg 2; rw [← pw_lg ha a0]
    rw [pw_add]; congr 1

theorem gpow_zero {n : Nat} (h : 0 < n) : gpow 0 n = 0 := by
  cases n with
  | zero => omega
  | succ n => rw [gpow, gmul_zero (gpow_lt (by decide) n)]

theorem gpow_add {a : Nat} (ha : a < 256) (m n : Nat) : gmul (gpow a m) (gpow a n) = gpow a (m + n) := by
  induction n with
  | zero => exact gmul_one (gpow_lt ha m)
  | succ n ih => rw [gpow, ← gmul_assoc (gpow_lt ha m) (gpow_lt ha n), ih]; rfl

theorem gpow_two (n : Nat) : gpow 2 n = pw n := by
  rw [gpow_lg (by decide) (by decide), show lg 2 = 1 from by decide +kernel, Nat.one_mul]

/-- Squares. -/
theorem gsq_xor {a b : Nat} (ha : a < 256) (hb : b < 256) : gmul (a ^^^ b) (a ^^^ b) = gmul a a ^^^ gmul b b := by
  rw [gmul_xor]
  have h1 : gmul (a ^^^ b) a = gmul a a ^^^ gmul b a := gm_xor_left ha hb 8 a
  have h2 : gmul (a ^^^ b) b = gmul a b ^^^ gmul b b := gm_xor_left ha hb 8 b
  rw [h1, h2, gmul_comm hb ha, Nat.xor_assoc, ← Nat.xor_assoc (gmul a b), Nat.xor_self, Nat.zero_xor]

theorem gsq_inj {a b : Nat} (ha : a < 256) (hb : b < 256) (h : gmul a a = gmul b b) : a = b := by
  have e : gmul (a ^^^ b) (a ^^^ b) = 0 := by rw [gsq_xor ha hb, h, Nat.xor_self]
  have hx := xor_lt8 ha hb
  by_cases h0 : a ^^^ b = 0
  · have : a ^^^ (a ^^^ b) = a := by rw [h0, Nat.xor_zero]
    rw [← Nat.xor_assoc, Nat.xor_self, Nat.zero_xor] at this
    exact this.symm
  · exact absurd e (gmul_ne hx hx h0 h0)

/-- The product as a polynomial, not yet modulo 11d. -/
def raw : Nat → Nat → Nat → Nat
  | 0, _, _ => 0
  | n + 1, a, b => raw n a b ^^^ (if b / 2 ^ n % 2 = 1 then a * 2 ^ n else 0)

/-- A step of the division: the bit i goes. -/
def bst (i p : Nat) : Nat := p ^^^ (if p / 2 ^ i % 2 = 1 then 285 * 2 ^ (i - 8) else 0)

/-- The steps from the bit 15 down, n of them. -/
def bred : Nat → Nat → Nat
  | 0, p => p
  | n + 1, p => bst (15 - n) (bred n p)

theorem bst_xor (i p q : Nat) : bst i (p ^^^ q) = bst i p ^^^ bst i q := by
  unfold bst
  rw [sel_xor, xor4]

theorem bred_xor (n p q : Nat) : bred n (p ^^^ q) = bred n p ^^^ bred n q := by
  induction n with
  | zero => rfl
  | succ n ih => rw [bred, ih, bst_xor]; rfl

theorem bred_zero (n : Nat) : bred n 0 = 0 := by
  induction n with
  | zero => rfl
  | succ n ih => rw [bred, ih]; unfold bst; simp

theorem bred_shift {a : Nat} (h : a < 256) (n : Nat) (hn : n < 8) : bred 8 (a * 2 ^ n) = xtn n a := by
  have h1 := all_lt (p := fun a => (List.range 8).all fun n => decide (bred 8 (a * 2 ^ n) = xtn n a)) (n := 256) (by decide +kernel) a h
  have h2 := all_lt h1 n hn
  simpa using h2

theorem bred_raw {a : Nat} (h : a < 256) (b n : Nat) (hn : n ≤ 8) : bred 8 (raw n a b) = gm n a b := by
  induction n with
  | zero => exact bred_zero 8
  | succ n ih =>
    rw [raw, gm, bred_xor, ih (by omega)]
    split
    · rw [bred_shift h n (by omega)]
    · rw [bred_zero]

theorem raw_lt {a : Nat} (h : a < 256) (b n : Nat) (hn : n ≤ 8) : raw n a b < 2 ^ (8 + n) := by
  induction n with
  | zero => show 0 < 2 ^ 8; decide
  | succ n ih =>
    have h1 := ih (by omega)
    have e : 2 ^ (8 + (n + 1)) = 2 * 2 ^ (8 + n) := by rw [show 8 + (n + 1) = (8 + n) + 1 from rfl, Nat.pow_succ, Nat.mul_comm]
    rw [raw]
    refine Nat.xor_lt_two_pow (by omega) ?_
    split
    · have e2 : 2 ^ (8 + n) = 256 * 2 ^ n := by rw [Nat.pow_add]
      have : a * 2 ^ n < 256 * 2 ^ n := Nat.mul_lt_mul_of_pos_right h (Nat.pow_pos (by decide))
      omega
    · exact Nat.pow_pos (by decide)

/-- A step's bit is gone behind it. -/
theorem bst_lt {i p : Nat} (h8 : 8 ≤ i) (hp : p < 2 ^ (i + 1)) : bst i p < 2 ^ i := by
  have e1 : 2 ^ (i + 1) = 2 * 2 ^ i := by rw [Nat.pow_succ, Nat.mul_comm]
  have e2 : 285 * 2 ^ (i - 8) = 2 ^ i ^^^ (29 * 2 ^ (i - 8)) := by
    have k : 2 ^ i = 256 * 2 ^ (i - 8) := by
      rw [show (256 : Nat) = 2 ^ 8 from rfl, ← Nat.pow_add]; congr 1; omega
    have s := Nat.shiftLeft_xor_distrib (a := 256) (b := 29) (i := i - 8)
    simp only [Nat.shiftLeft_eq] at s
    rw [k, ← s]
    rfl
  have h29 : 29 * 2 ^ (i - 8) < 2 ^ i := by
    have k : 2 ^ i = 256 * 2 ^ (i - 8) := by
      rw [show (256 : Nat) = 2 ^ 8 from rfl, ← Nat.pow_add]; congr 1; omega
    have := Nat.pow_pos (n := i - 8) (show 0 < 2 by decide)
    omega
  have hpos := Nat.pow_pos (n := i) (show 0 < 2 by decide)
  unfold bst
  split
  · rename_i hb
    have hge : 2 ^ i ≤ p := by
      rcases Nat.lt_or_ge p (2 ^ i) with h | h
      · rw [Nat.div_eq_of_lt h] at hb; cases hb
      · exact h
    have hx : p ^^^ 2 ^ i < 2 ^ i := by
      have a := Nat.two_pow_add_eq_or_of_lt (i := i) (b := p - 2 ^ i) (by omega) 1
      have : p = 2 ^ i ^^^ (p - 2 ^ i) := by
        apply Nat.eq_of_testBit_eq
        intro j
        rw [Nat.testBit_xor, Nat.testBit_two_pow]
        have hq : p = 2 ^ i * 1 + (p - 2 ^ i) := by omega
        conv => lhs; rw [hq, a]
        rw [Nat.mul_one, Nat.testBit_or, Nat.testBit_two_pow]
        by_cases hj : i = j
        · subst hj
          have : (p - 2 ^ i).testBit i = false := Nat.testBit_lt_two_pow (by omega)
          simp [this]
        · simp [hj]
      rw [this, Nat.xor_comm, ← Nat.xor_assoc, Nat.xor_self, Nat.zero_xor]
      omega
    rw [e2, ← Nat.xor_assoc]
    exact Nat.xor_lt_two_pow hx h29
  · rename_i hb
    rw [Nat.xor_zero]
    rcases Nat.lt_or_ge p (2 ^ i) with h | h
    · exact h
    · exfalso
      apply hb
      have : p / 2 ^ i = 1 := by
        rw [Nat.div_eq_iff hpos]; omega
      rw [this]

theorem bst_if {i p : Nat} (hp : p < 2 ^ (i + 1)) : bst i p = if 2 ^ i ≤ p then p ^^^ (285 * 2 ^ (i - 8)) else p := by
  have e1 : 2 ^ (i + 1) = 2 * 2 ^ i := by rw [Nat.pow_succ, Nat.mul_comm]
  have hpos := Nat.pow_pos (n := i) (show 0 < 2 by decide)
  unfold bst
  by_cases h : 2 ^ i ≤ p
  · have : p / 2 ^ i = 1 := by rw [Nat.div_eq_iff hpos]; omega
    rw [this, if_pos h]; rfl
  · rw [Nat.div_eq_of_lt (by omega), if_neg h]; simp

theorem bred_lt {p : Nat} (hp : p < 2 ^ 16) (n : Nat) (hn : n ≤ 8) : bred n p < 2 ^ (16 - n) := by
  induction n with
  | zero => exact hp
  | succ n ih =>
    rw [bred, show 16 - (n + 1) = 15 - n from by omega]
    refine bst_lt (by omega) ?_
    rw [show 15 - n + 1 = 16 - n from by omega]
    exact ih (by omega)

/-- Log's answer: -1 of 0. -/
def rlog (a : Nat) : Int := if a = 0 then -1 else (lg a : Int)

/-- Exp's answer: 0 beyond the table. -/
def expA (i : Int) : Nat := if 0 ≤ i ∧ i < 510 then pw i.toNat else 0

/-- Pow's answer: 0 below 0. -/
def powA (a : Nat) (n : Int) : Nat := if n < 0 then 0 else gpow a n.toNat

theorem rlog_ne {a : Nat} (h : a ≠ 0) : rlog a = (lg a : Int) := by unfold rlog; rw [if_neg h]

theorem expA_nat {k : Nat} (h : k < 510) : expA (k : Int) = pw k := by
  unfold expA; rw [if_pos (by omega), Int.toNat_natCast]

theorem powA_nat (a n : Nat) : powA a (n : Int) = gpow a n := by
  unfold powA; rw [if_neg (by omega), Int.toNat_natCast]

theorem powA_lt {a : Nat} (ha : a < 256) (n : Int) : powA a n < 256 := by
  unfold powA; split
  · decide
  · exact gpow_lt ha _

end Go.Proofs.YthhggjakenalpaaGreatDoor.Bt

/- Plain: polynomials over GF(256), by their factors, the lowest first; that one is told by its values; factors of values. No program is named here. -/
namespace Go.Proofs.YthhggjakenalpaaGreatDoor.Bt
set_option maxRecDepth 100000

def Byt (f : List Nat) : Prop := ∀ c ∈ f, c < 256

theorem Byt.nil : Byt [] := fun _ h => by cases h
theorem Byt.head {c : Nat} {f : List Nat} (h : Byt (c :: f)) : c < 256 := h c (by simp)
theorem Byt.tail {c : Nat} {f : List Nat} (h : Byt (c :: f)) : Byt f := fun x hx => h x (by simp [hx])
theorem Byt.cons {c : Nat} {f : List Nat} (hc : c < 256) (h : Byt f) : Byt (c :: f) := fun x hx => by
  rcases List.mem_cons.1 hx with rfl | hx
  · exact hc
  · exact h x hx

/-- A polynomial's value. -/
def pev : List Nat → Nat → Nat
  | [], _ => 0
  | c :: f, x => c ^^^ gmul x (pev f x)

theorem pev_lt {f : List Nat} (hf : Byt f) {x : Nat} (hx : x < 256) : pev f x < 256 := by
  induction f with
  | nil => show 0 < 256; decide
  | cons c f ih => exact xor_lt8 hf.head (gmul_lt hx _)

theorem xor_self_zero {a b : Nat} (h : a ^^^ b = 0) : a = b := by
  have : a ^^^ (a ^^^ b) = a := by rw [h, Nat.xor_zero]
  rw [← Nat.xor_assoc, Nat.xor_self, Nat.zero_xor] at this
  exact this.symm

theorem gmul_xor_left {a c : Nat} (ha : a < 256) (hc : c < 256) (b : Nat) : gmul (a ^^^ c) b = gmul a b ^^^ gmul c b := gm_xor_left ha hc 8 b

/-- Divided by (X - r). -/
def qt (r : Nat) : List Nat → List Nat
  | [] => []
  | [_] => []
  | _ :: d :: f => pev (d :: f) r :: qt r (d :: f)

theorem qt_length (r : Nat) (f : List Nat) : (qt r f).length = f.length - 1 := by
  match f with
  | [] => rfl
  | [_] => rfl
  | c :: d :: f => rw [qt, List.length_cons, qt_length r (d :: f)]; simp

theorem qt_byt {r : Nat} (hr : r < 256) {f : List Nat} (hf : Byt f) : Byt (qt r f) := by
  match f, hf with
  | [], _ => exact Byt.nil
  | [_], _ => exact Byt.nil
  | c :: d :: f, hf => exact Byt.cons (pev_lt hf.tail hr) (qt_byt hr hf.tail)

theorem qt_spec {r x : Nat} (hr : r < 256) (hx : x < 256) (f : List Nat) (hf : Byt f) : pev f x ^^^ pev f r = gmul (x ^^^ r) (pev (qt r f) x) := by
  match f, hf with
  | [], _ => show 0 ^^^ 0 = gmul (x ^^^ r) 0; rw [gmul_zero (xor_lt8 hx hr)]; rfl
  | [c], _ =>
    show (c ^^^ gmul x 0) ^^^ (c ^^^ gmul r 0) = gmul (x ^^^ r) 0
    rw [gmul_zero (xor_lt8 hx hr), gmul_zero hx, gmul_zero hr, Nat.xor_zero, Nat.xor_self]
  | c :: d :: f, hf =>
    have ih := qt_spec hr hx (d :: f) hf.tail
    have hg := pev_lt hf.tail hx
    have hh := pev_lt hf.tail hr
    have hq := pev_lt (qt_byt hr hf.tail) hx
    rw [qt]
    show (c ^^^ gmul x (pev (d :: f) x)) ^^^ (c ^^^ gmul r (pev (d :: f) r)) = gmul (x ^^^ r) (pev (d :: f) r ^^^ gmul x (pev (qt r (d :: f)) x))
    generalize pev (d :: f) x = G at ih hg ⊢
    generalize pev (d :: f) r = H at ih hh ⊢
    generalize pev (qt r (d :: f)) x = Q at ih hq ⊢
    rw [xor4, Nat.xor_self, Nat.zero_xor, gmul_xor]
    have e1 : gmul (x ^^^ r) (gmul x Q) = gmul x (G ^^^ H) := by
      rw [← gmul_assoc (xor_lt8 hx hr) hx, gmul_comm (xor_lt8 hx hr) hx, gmul_assoc hx (xor_lt8 hx hr), ← ih]
    rw [e1, gmul_xor, gmul_xor_left hx hr]
    generalize gmul x G = A
    generalize gmul r H = B
    generalize gmul x H = C
    rw [Nat.xor_comm A C, ← Nat.xor_assoc, Nat.xor_comm C B, Nat.xor_assoc B C C, Nat.xor_self, Nat.xor_zero, Nat.xor_comm]

def Zer (f : List Nat) : Prop := ∀ c ∈ f, c = 0

theorem zer_of_qt {r : Nat} (hr : r < 256) (f : List Nat) (hf : Byt f) (h0 : pev f r = 0) (hq : Zer (qt r f)) : Zer f := by
  match f, hf, h0, hq with
  | [], _, _, _ => exact fun _ h => by cases h
  | [c], _, h0, _ =>
    have : c ^^^ gmul r 0 = 0 := h0
    rw [gmul_zero hr, Nat.xor_zero] at this
    intro x hx
    simp at hx
    rw [hx, this]
  | c :: d :: f, hf, h0, hq =>
    have h1 : pev (d :: f) r = 0 := hq _ (by rw [qt]; simp)
    have ih := zer_of_qt hr (d :: f) hf.tail h1 (fun x hx => hq x (by rw [qt]; simp [hx]))
    have hc : c = 0 := by
      have : c ^^^ gmul r (pev (d :: f) r) = 0 := h0
      rw [h1, gmul_zero hr, Nat.xor_zero] at this
      exact this
    intro x hx
    rcases List.mem_cons.1 hx with rfl | hx
    · exact hc
    · exact ih x hx

/-- A polynomial of degree below n that is nought at n unlike bytes is nought. -/
theorem roots (xs : List Nat) (hx : Byt xs) (hd : xs.Nodup) (f : List Nat) (hf : Byt f) (hl : f.length ≤ xs.length) (h : ∀ x ∈ xs, pev f x = 0) : Zer f := by
  induction xs generalizing f with
  | nil =>
    have : f = [] := List.eq_nil_of_length_eq_zero (by simpa using hl)
    subst this
    exact fun _ h => by cases h
  | cons r ys ih =>
    have hr := hx.head
    have h0 := h r (by simp)
    refine zer_of_qt hr f hf h0 (ih hx.tail (List.nodup_cons.1 hd).2 (qt r f) (qt_byt hr hf) (by rw [qt_length]; simp at hl; omega) (fun y hy => ?_))
    have hyl := hx y (by simp [hy])
    have hne : y ≠ r := fun e => (List.nodup_cons.1 hd).1 (e ▸ hy)
    have e := qt_spec hr hyl f hf
    rw [h y (by simp [hy]), h0, Nat.xor_self] at e
    have hq := pev_lt (qt_byt hr hf) hyl
    exact Classical.byContradiction fun hn => gmul_ne (xor_lt8 hyl hr) hq (fun e2 => hne (xor_self_zero e2)) hn e.symm

/-- Sums. -/
def padd : List Nat → List Nat → List Nat
  | [], g => g
  | f, [] => f
  | a :: f, b :: g => (a ^^^ b) :: padd f g

theorem padd_byt {f g : List Nat} (hf : Byt f) (hg : Byt g) : Byt (padd f g) := by
  match f, g, hf, hg with
  | [], g, _, hg => exact hg
  | a :: f, [], hf, _ => exact hf
  | a :: f, b :: g, hf, hg => exact Byt.cons (xor_lt8 hf.head hg.head) (padd_byt hf.tail hg.tail)

theorem padd_length (f g : List Nat) : (padd f g).length = max f.length g.length := by
  match f, g with
  | [], g => simp [padd]
  | a :: f, [] => simp [padd]
  | a :: f, b :: g => rw [padd, List.length_cons, padd_length f g]; simp only [List.length_cons]; omega

theorem pev_padd {x : Nat} (f g : List Nat) : pev (padd f g) x = pev f x ^^^ pev g x := by
  match f, g with
  | [], g => rw [padd]; show pev g x = 0 ^^^ pev g x; rw [Nat.zero_xor]
  | a :: f, [] => show pev (a :: f) x = pev (a :: f) x ^^^ 0; rw [Nat.xor_zero]
  | a :: f, b :: g =>
    rw [padd, pev, pev_padd f g, gmul_xor, xor4]; rfl

def pscale (k : Nat) (f : List Nat) : List Nat := f.map (gmul k)

theorem pscale_byt {k : Nat} (hk : k < 256) (f : List Nat) : Byt (pscale k f) := fun c hc => by
  obtain ⟨d, _, rfl⟩ := List.mem_map.1 hc
  exact gmul_lt hk d

theorem pev_pscale {k x : Nat} (hk : k < 256) (hx : x < 256) (f : List Nat) (hf : Byt f) : pev (pscale k f) x = gmul k (pev f x) := by
  induction f with
  | nil => show 0 = gmul k 0; rw [gmul_zero hk]
  | cons c f ih =>
    show gmul k c ^^^ gmul x (pev (pscale k f) x) = gmul k (c ^^^ gmul x (pev f x))
    rw [ih hf.tail, gmul_xor, ← gmul_assoc hx hk, gmul_comm hx hk, gmul_assoc hk hx]

/-- Times (X - r). -/
def mlin (r : Nat) (f : List Nat) : List Nat := padd (0 :: f) (pscale r f)

theorem mlin_byt {r : Nat} (hr : r < 256) {f : List Nat} (hf : Byt f) : Byt (mlin r f) := padd_byt (Byt.cons (by decide) hf) (pscale_byt hr f)

theorem mlin_length (r : Nat) (f : List Nat) : (mlin r f).length = f.length + 1 := by
  rw [mlin, padd_length]; simp [pscale]

theorem pev_mlin {r x : Nat} (hr : r < 256) (hx : x < 256) (f : List Nat) (hf : Byt f) : pev (mlin r f) x = gmul (x ^^^ r) (pev f x) := by
  rw [mlin, pev_padd, pev_pscale hr hx f hf, gmul_xor_left hx hr]
  show (0 ^^^ gmul x (pev f x)) ^^^ _ = _
  rw [Nat.zero_xor]

/-- The product, over bytes y, of (x - y) / (s - y). -/
def wt (x s : Nat) : List Nat → Nat
  | [] => 1
  | y :: ys => gmul (gmul (x ^^^ y) (ginv (s ^^^ y))) (wt x s ys)

theorem wt_lt {x s : Nat} (hx : x < 256) (ys : List Nat) (hy : Byt ys) : wt x s ys < 256 := by
  cases ys with
  | nil => show 1 < 256; decide
  | cons y ys => exact gmul_lt (gmul_lt (xor_lt8 hx hy.head) _) _

def wpol (s : Nat) : List Nat → List Nat
  | [] => [1]
  | y :: ys => pscale (ginv (s ^^^ y)) (mlin y (wpol s ys))

theorem wpol_byt {s : Nat} (ys : List Nat) (hy : Byt ys) : Byt (wpol s ys) := by
  cases ys with
  | nil => exact Byt.cons (by decide) Byt.nil
  | cons y ys => exact pscale_byt (ginv_lt _) _

theorem wpol_length (s : Nat) (ys : List Nat) : (wpol s ys).length = ys.length + 1 := by
  induction ys with
  | nil => rfl
  | cons y ys ih => rw [wpol, pscale, List.length_map, mlin_length, ih]; rfl

theorem pev_wpol {x s : Nat} (hx : x < 256) (ys : List Nat) (hy : Byt ys) : pev (wpol s ys) x = wt x s ys := by
  induction ys with
  | nil => show 1 ^^^ gmul x 0 = 1; rw [gmul_zero hx]; rfl
  | cons y ys ih =>
    have h1 := wpol_byt (s := s) ys hy.tail
    rw [wpol, pev_pscale (ginv_lt _) hx _ (mlin_byt hy.head h1), pev_mlin hy.head hx _ h1, ih hy.tail, wt,
      ← gmul_assoc (ginv_lt _) (xor_lt8 hx hy.head), gmul_comm (ginv_lt _) (xor_lt8 hx hy.head)]

theorem wt_one {s : Nat} (hs : s < 256) (ys : List Nat) (hy : Byt ys) (h : s ∉ ys) : wt s s ys = 1 := by
  induction ys with
  | nil => rfl
  | cons y ys ih =>
    have hne : s ^^^ y ≠ 0 := fun e => h (by rw [xor_self_zero e]; simp)
    rw [wt, ginv_mul (xor_lt8 hs hy.head) hne, ih hy.tail (fun hm => h (by simp [hm])), gmul_one_left (by decide)]

theorem wt_zero {x s : Nat} (hx : x < 256) (ys : List Nat) (hy : Byt ys) (h : x ∈ ys) : wt x s ys = 0 := by
  induction ys with
  | nil => cases h
  | cons y ys ih =>
    rw [wt]
    rcases List.mem_cons.1 h with rfl | h
    · rw [Nat.xor_self, gmul_zero_left, gmul_zero_left]
    · rw [ih hy.tail h, gmul_zero (gmul_lt (xor_lt8 hx hy.head) _)]

/-- All others. -/
def oth (s : Nat) (all : List Nat) : List Nat := all.filter (fun y => decide (y ≠ s))

theorem oth_byt {s : Nat} {all : List Nat} (h : Byt all) : Byt (oth s all) := fun x hx => h x (List.mem_filter.1 hx).1

theorem oth_not (s : Nat) (all : List Nat) : s ∉ oth s all := fun h => by
  have := (List.mem_filter.1 h).2
  simp at this

theorem oth_mem {x s : Nat} {all : List Nat} (h : x ∈ all) (hne : x ≠ s) : x ∈ oth s all := List.mem_filter.2 ⟨h, by simpa using hne⟩

theorem oth_length {s : Nat} {all : List Nat} (hd : all.Nodup) (h : s ∈ all) : (oth s all).length + 1 = all.length := by
  induction all with
  | nil => cases h
  | cons y ys ih =>
    obtain ⟨h1, h2⟩ := List.nodup_cons.1 hd
    unfold oth
    rw [List.filter_cons]
    by_cases e : y = s
    · subst e
      simp only [ne_eq, not_true_eq_false, decide_false, Bool.false_eq_true, if_false]
      rw [List.filter_eq_self.2 (fun z hz => by
        have : z ≠ y := fun e => h1 (e ▸ hz)
        simpa using this)]
      rfl
    · have hs : s ∈ ys := by
        rcases List.mem_cons.1 h with h | h
        · exact absurd h.symm e
        · exact h
      have := ih h2 hs
      unfold oth at this
      simp [e]
      simpa using this

/-- The value at x of the polynomial that is at bytes what is told. -/
def lsum (all : List Nat) (x : Nat) : List (Nat × Nat) → Nat
  | [] => 0
  | (s, v) :: r => gmul (wt x s (oth s all)) v ^^^ lsum all x r

/-- Its factors. -/
def lpol (all : List Nat) : List (Nat × Nat) → List Nat
  | [] => []
  | (s, v) :: r => padd (pscale v (wpol s (oth s all))) (lpol all r)

theorem lpol_byt (all : List Nat) (ps : List (Nat × Nat)) (hv : ∀ p ∈ ps, p.2 < 256) : Byt (lpol all ps) := by
  induction ps with
  | nil => exact Byt.nil
  | cons p r ih => exact padd_byt (pscale_byt (hv p (by simp)) _) (ih (fun q hq => hv q (by simp [hq])))

theorem lpol_length {all : List Nat} (hd : all.Nodup) (ps : List (Nat × Nat)) (hs : ∀ p ∈ ps, p.1 ∈ all) (h0 : ps ≠ []) : (lpol all ps).length = all.length := by
  induction ps with
  | nil => exact absurd rfl h0
  | cons p r ih =>
    have h1 := oth_length hd (hs p (by simp))
    rw [lpol, padd_length, pscale, List.length_map, wpol_length, h1]
    cases r with
    | nil => simp [lpol]
    | cons q r => rw [ih (fun t ht => hs t (by simp [ht])) (by simp), Nat.max_self]

theorem pev_lpol {all : List Nat} (ha : Byt all) {x : Nat} (hx : x < 256) (ps : List (Nat × Nat)) (hv : ∀ p ∈ ps, p.2 < 256) : pev (lpol all ps) x = lsum all x ps := by
  induction ps with
  | nil => rfl
  | cons p r ih =>
    have hw := wpol_byt (s := p.1) (oth p.1 all) (oth_byt ha)
    rw [lpol, pev_padd, pev_pscale (hv p (by simp)) hx _ hw, ih (fun q hq => hv q (by simp [hq])), pev_wpol hx _ (oth_byt ha), lsum,
      gmul_comm (hv p (by simp)) (wt_lt hx _ (oth_byt ha))]

theorem lsum_off {all : List Nat} (ha : Byt all) {x : Nat} (hx : x < 256) (hm : x ∈ all) (ps : List (Nat × Nat)) (h : ∀ p ∈ ps, p.1 ≠ x) : lsum all x ps = 0 := by
  induction ps with
  | nil => rfl
  | cons p r ih =>
    rw [lsum, wt_zero hx _ (oth_byt ha) (oth_mem hm (fun e => h p (by simp) e.symm)), gmul_zero_left, ih (fun q hq => h q (by simp [hq]))]
    rfl

/-- At a byte that is told, it is what is told. -/
theorem lsum_at {all : List Nat} (ha : Byt all) {ps : List (Nat × Nat)} (hs : ∀ p ∈ ps, p.1 ∈ all) (hv : ∀ p ∈ ps, p.2 < 256) (hd : (ps.map (·.1)).Nodup) {s v : Nat} (h : (s, v) ∈ ps) : lsum all s ps = v := by
  have hm := hs _ h
  have hsl := ha s hm
  induction ps with
  | nil => cases h
  | cons p r ih =>
    obtain ⟨h1, h2⟩ := List.nodup_cons.1 hd
    rcases List.mem_cons.1 h with rfl | h
    · rw [lsum, wt_one hsl _ (oth_byt ha) (oth_not _ _), gmul_one_left (hv (s, v) (by simp)), lsum_off ha hsl hm r (fun q hq e => h1 (List.mem_map.2 ⟨q, hq, e⟩)), Nat.xor_zero]
    · have hne : s ≠ p.1 := fun e => h1 (List.mem_map.2 ⟨(s, v), h, e⟩)
      rw [lsum, wt_zero hsl _ (oth_byt ha) (oth_mem hm hne), gmul_zero_left, Nat.zero_xor]
      exact ih (fun q hq => hs q (by simp [hq])) (fun q hq => hv q (by simp [hq])) h2 h

/-- Two that agree at as many bytes as they have factors are the same. -/
theorem pev_only (xs : List Nat) (hx : Byt xs) (hd : xs.Nodup) (f g : List Nat) (hf : Byt f) (hg : Byt g) (hl : f.length ≤ xs.length) (hk : g.length = f.length) (h : ∀ x ∈ xs, pev f x = pev g x) : f = g := by
  have z := roots xs hx hd (padd f g) (padd_byt hf hg) (by rw [padd_length]; omega) (fun x hm => by rw [pev_padd, h x hm, Nat.xor_self])
  clear hx hd hl h hf hg
  induction f generalizing g with
  | nil => exact (List.eq_nil_of_length_eq_zero hk).symm
  | cons a f ih =>
    cases g with
    | nil => cases hk
    | cons b g =>
      have e := xor_self_zero (z (a ^^^ b) (by simp [padd]))
      rw [e, ih g (by simpa using hk) (fun c hc => z c (by rw [padd]; simp [hc]))]

/-- The value as the document reckons it: a sum of powers. -/
def psum : Nat → List Nat → Nat → Nat
  | _, [], _ => 0
  | i, c :: f, x => gmul c (gpow x i) ^^^ psum (i + 1) f x

theorem psum_shift {x : Nat} (hx : x < 256) (f : List Nat) (hf : Byt f) (i : Nat) : psum (i + 1) f x = gmul x (psum i f x) := by
  induction f generalizing i with
  | nil => show 0 = gmul x 0; rw [gmul_zero hx]
  | cons c f ih =>
    rw [psum, psum, ih hf.tail (i + 1), ih hf.tail i, gmul_xor]
    congr 1
    show gmul c (gmul (gpow x i) x) = gmul x (gmul c (gpow x i))
    rw [← gmul_assoc hf.head (gpow_lt hx i), gmul_comm (gmul_lt hf.head _) hx]

theorem psum_pev {x : Nat} (hx : x < 256) (f : List Nat) (hf : Byt f) : psum 0 f x = pev f x := by
  induction f with
  | nil => rfl
  | cons c f ih =>
    rw [psum, psum_shift hx f hf.tail 0, ih hf.tail]
    show gmul c 1 ^^^ _ = _
    rw [gmul_one hf.head]; rfl

end Go.Proofs.YthhggjakenalpaaGreatDoor.Bt

/- Plain: equations over GF(256), solved by elimination: a table's rows are the equations, its last column what is told. No program is named here. -/
namespace Go.Proofs.YthhggjakenalpaaGreatDoor.Bt
set_option maxRecDepth 100000

/-- A sum. -/
def fs : Nat → (Nat → Nat) → Nat
  | 0, _ => 0
  | n + 1, F => fs n F ^^^ F n

theorem fs_congr {n : Nat} {F G : Nat → Nat} (h : ∀ k, k < n → F k = G k) : fs n F = fs n G := by
  induction n with
  | zero => rfl
  | succ n ih => rw [fs, fs, ih (fun k hk => h k (by omega)), h n (by omega)]

theorem fs_lt {n : Nat} {F : Nat → Nat} (h : ∀ k, k < n → F k < 256) : fs n F < 256 := by
  induction n with
  | zero => show 0 < 256; decide
  | succ n ih => exact xor_lt8 (ih (fun k hk => h k (by omega))) (h n (by omega))

theorem fs_xor (n : Nat) (F G : Nat → Nat) : fs n (fun k => F k ^^^ G k) = fs n F ^^^ fs n G := by
  induction n with
  | zero => show 0 = 0 ^^^ 0; decide
  | succ n ih => rw [fs, fs, fs, ih, xor4]

theorem fs_scale {v : Nat} (hv : v < 256) (n : Nat) (F : Nat → Nat) : fs n (fun k => gmul v (F k)) = gmul v (fs n F) := by
  induction n with
  | zero => show 0 = gmul v 0; rw [gmul_zero hv]
  | succ n ih => rw [fs, fs, ih, gmul_xor]

theorem fs_zero {n : Nat} {F : Nat → Nat} (h : ∀ k, k < n → F k = 0) : fs n F = 0 := by
  induction n with
  | zero => rfl
  | succ n ih => rw [fs, ih (fun k hk => h k (by omega)), h n (by omega)]; rfl

theorem fs_one {n j : Nat} (hj : j < n) {F : Nat → Nat} (h : ∀ k, k < n → k ≠ j → F k = 0) : fs n F = F j := by
  induction n with
  | zero => omega
  | succ n ih =>
    rw [fs]
    by_cases e : n = j
    · subst e
      rw [fs_zero (fun k hk => h k (by omega) (by omega)), Nat.zero_xor]
    · rw [ih (by omega) (fun k hk hne => h k (by omega) hne), h n (by omega) e, Nat.xor_zero]

/-- A row, held against what is asked for. -/
def dot (n : Nat) (M : Nat → Nat → Nat) (r : Nat) (f : Nat → Nat) : Nat := fs (n + 1) (fun k => gmul (M r k) (f k))

def Bm (M : Nat → Nat → Nat) : Prop := ∀ r k, M r k < 256

def Ker (n : Nat) (M : Nat → Nat → Nat) (f : Nat → Nat) : Prop := ∀ r, r < n → dot n M r f = 0

def swapM (c p : Nat) (M : Nat → Nat → Nat) : Nat → Nat → Nat := fun r k => if r = c then M p k else if r = p then M c k else M r k
def scaleM (c v : Nat) (M : Nat → Nat → Nat) : Nat → Nat → Nat := fun r k => if r = c then gmul (M c k) v else M r k
def elimM (c : Nat) (M : Nat → Nat → Nat) : Nat → Nat → Nat := fun r k => if r = c then M c k else M r k ^^^ gmul (M r c) (M c k)

theorem Bm.swap {M : Nat → Nat → Nat} (h : Bm M) (c p : Nat) : Bm (swapM c p M) := fun r k => by
  unfold swapM; split
  · exact h p k
  · split
    · exact h c k
    · exact h r k

theorem Bm.scale {M : Nat → Nat → Nat} (h : Bm M) (c v : Nat) : Bm (scaleM c v M) := fun r k => by
  unfold scaleM; split
  · exact gmul_lt (h c k) v
  · exact h r k

theorem Bm.elim {M : Nat → Nat → Nat} (h : Bm M) (c : Nat) : Bm (elimM c M) := fun r k => by
  unfold elimM; split
  · exact h c k
  · exact xor_lt8 (h r k) (gmul_lt (h r c) _)

theorem ker_swap {n c p : Nat} (hc : c < n) (hp : p < n) (M : Nat → Nat → Nat) (f : Nat → Nat) : Ker n (swapM c p M) f ↔ Ker n M f := by
  have e : ∀ r, dot n (swapM c p M) r f = if r = c then dot n M p f else if r = p then dot n M c f else dot n M r f := by
    intro r
    unfold dot swapM
    by_cases h1 : r = c
    · simp [h1]
    · by_cases h2 : r = p
      · subst h2; simp [h1]
      · simp [h1, h2]
  constructor
  · intro h r hr
    by_cases h1 : r = p
    · have := h c hc; rw [e, if_pos rfl] at this; rw [h1]; exact this
    · by_cases h2 : r = c
      · have := h p hp
        rw [e] at this
        by_cases h3 : p = c
        · exact absurd (h2.trans h3.symm) h1
        · rw [if_neg h3, if_pos rfl] at this; rw [h2]; exact this
      · have := h r hr; rw [e, if_neg h2, if_neg h1] at this; exact this
  · intro h r hr
    rw [e]
    split
    · exact h p hp
    · split
      · exact h c hc
      · exact h r hr

theorem ker_scale {n c v : Nat} (hv : v < 256) (v0 : v ≠ 0) {M : Nat → Nat → Nat} (hM : Bm M) (f : Nat → Nat) : Ker n (scaleM c v M) f ↔ Ker n M f := by
  have e : ∀ r, dot n (scaleM c v M) r f = if r = c then gmul v (dot n M c f) else dot n M r f := by
    intro r
    unfold dot scaleM
    by_cases h1 : r = c
    · rw [if_pos h1, ← fs_scale hv]
      refine fs_congr (fun k _ => ?_)
      show gmul (if r = c then gmul (M c k) v else M r k) (f k) = _
      rw [if_pos h1, gmul_comm (hM c k) hv, gmul_assoc hv (hM c k)]
    · simp [h1]
  have hd : ∀ r, dot n M r f < 256 := fun r => fs_lt (fun k _ => gmul_lt (hM r k) _)
  constructor
  · intro h r hr
    have := h r hr
    rw [e] at this
    split at this
    · rename_i h1
      rw [h1]
      exact Classical.byContradiction fun hn => gmul_ne hv (hd c) v0 hn this
    · exact this
  · intro h r hr
    rw [e]
    split
    · rename_i h1
      rw [h c (h1 ▸ hr), gmul_zero hv]
    · exact h r hr

theorem ker_elim {n c : Nat} (hc : c < n) {M : Nat → Nat → Nat} (hM : Bm M) (f : Nat → Nat) : Ker n (elimM c M) f ↔ Ker n M f := by
  have e : ∀ r, dot n (elimM c M) r f = if r = c then dot n M c f else dot n M r f ^^^ gmul (M r c) (dot n M c f) := by
    intro r
    unfold dot elimM
    by_cases h1 : r = c
    · simp [h1]
    · rw [if_neg h1, ← fs_scale (hM r c), ← fs_xor]
      refine fs_congr (fun k _ => ?_)
      show gmul (if r = c then M c k else M r k ^^^ gmul (M r c) (M c k)) (f k) = _
      rw [if_neg h1, gmul_xor_left (hM r k) (gmul_lt (hM r c) _), gmul_assoc (hM r c) (hM c k)]
  constructor
  · intro h r hr
    have hcc := h c hc
    rw [e, if_pos rfl] at hcc
    have := h r hr
    rw [e] at this
    split at this
    · rename_i h1; rw [h1]; exact hcc
    · rw [hcc, gmul_zero (hM r c), Nat.xor_zero] at this; exact this
  · intro h r hr
    rw [e]
    split
    · exact h c hc
    · rw [h r hr, h c hc, gmul_zero (hM r c)]; rfl

/-- One column done: row p comes to c's place, is divided, and taken off all others. -/
def stepM (c p : Nat) (M : Nat → Nat → Nat) : Nat → Nat → Nat := elimM c (scaleM c (ginv (M p c)) (swapM c p M))

theorem Bm.step {M : Nat → Nat → Nat} (h : Bm M) (c p : Nat) : Bm (stepM c p M) := ((h.swap c p).scale c _).elim c

theorem ker_step {n c p : Nat} (hc : c < n) (hp : p < n) {M : Nat → Nat → Nat} (hM : Bm M) (h0 : M p c ≠ 0) (f : Nat → Nat) : Ker n (stepM c p M) f ↔ Ker n M f := by
  unfold stepM
  rw [ker_elim hc ((hM.swap c p).scale c _), ker_scale (ginv_lt _) (ginv_ne (hM p c) h0) (hM.swap c p) f, ker_swap hc hp]

/-- The first c columns are done. -/
def Uc (n : Nat) (M : Nat → Nat → Nat) (c : Nat) : Prop := ∀ j, j < c → ∀ r, r < n → M r j = if r = j then 1 else 0

theorem uc_step {n c p : Nat} (hc : c < n) (hcp : c ≤ p) (hp : p < n) {M : Nat → Nat → Nat} (hM : Bm M) (h0 : M p c ≠ 0) (h : Uc n M c) : Uc n (stepM c p M) (c + 1) := by
  intro j hj r hr
  have hi := ginv_lt (M p c)
  -- row c behind the division
  have hrow : ∀ k, scaleM c (ginv (M p c)) (swapM c p M) c k = gmul (M p k) (ginv (M p c)) := by
    intro k; unfold scaleM swapM; simp
  have hoth : ∀ r k, r ≠ c → scaleM c (ginv (M p c)) (swapM c p M) r k = if r = p then M c k else M r k := by
    intro r k hne; unfold scaleM swapM; simp [hne]
  have hone : gmul (M p c) (ginv (M p c)) = 1 := ginv_mul (hM p c) h0
  unfold stepM elimM
  by_cases hrc : r = c
  · rw [if_pos hrc, hrow]
    by_cases hjc : j = c
    · rw [hjc, hone, if_pos hrc]
    · have hpj : M p j = 0 := by
        rw [h j (by omega) p hp, if_neg (by omega)]
      rw [hpj, gmul_zero_left, if_neg (by omega)]
  · rw [if_neg hrc, hrow, hoth r j hrc, hoth r c hrc]
    by_cases hjc : j = c
    · rw [hjc, hone, if_neg hrc]
      have hb : (if r = p then M c c else M r c) < 256 := by split; exact hM c c; exact hM r c
      rw [gmul_one hb, Nat.xor_self]
    · have hpj : M p j = 0 := by
        rw [h j (by omega) p hp, if_neg (by omega)]
      have hb : (if r = p then M c c else M r c) < 256 := by split; exact hM c c; exact hM r c
      rw [hpj, gmul_zero_left, gmul_zero hb, Nat.xor_zero]
      split
      · rename_i hrp
        rw [h j (by omega) c hc, if_neg (by omega), if_neg (by omega)]
      · rw [h j (by omega) r hr]

/-- Where a column has nothing at or below its place, another answer to nought is there. -/
theorem no_pivot {n c : Nat} (hc : c < n) {M : Nat → Nat → Nat} (hM : Bm M) (h : Uc n M c) (h0 : ∀ p, c ≤ p → p < n → M p c = 0) :
    Ker n M (fun k => if k = c then 1 else if k < c then M k c else 0) := by
  intro r hr
  unfold dot
  -- the sum over all columns: those below c, then c itself, then nought
  have hlo : fs c (fun k => gmul (M r k) (if k = c then 1 else if k < c then M k c else 0)) = if r < c then M r c else 0 := by
    have e : fs c (fun k => gmul (M r k) (if k = c then 1 else if k < c then M k c else 0)) = fs c (fun k => if r = k then M k c else 0) := by
      refine fs_congr (fun k hk => ?_)
      show gmul (M r k) (if k = c then 1 else if k < c then M k c else 0) = if r = k then M k c else 0
      rw [if_neg (by omega), if_pos hk, h k hk r hr]
      split
      · rw [gmul_one_left (hM k c)]
      · rw [gmul_zero_left]
    rw [e]
    by_cases hrc : r < c
    · rw [if_pos hrc, fs_one hrc (fun k _ hne => if_neg (fun e => hne e.symm)), if_pos rfl]
    · rw [if_neg hrc]
      exact fs_zero (fun k hk => if_neg (by omega))
  have hup : ∀ m, fs (c + 1 + m) (fun k => gmul (M r k) (if k = c then 1 else if k < c then M k c else 0)) = (if r < c then M r c else 0) ^^^ M r c := by
    intro m
    induction m with
    | zero =>
      rw [Nat.add_zero, fs, hlo]
      show _ ^^^ gmul (M r c) (if c = c then 1 else _) = _
      rw [if_pos rfl, gmul_one (hM r c)]
    | succ m ih =>
      rw [← Nat.add_assoc, fs, ih]
      have e : (if c + 1 + m = c then 1 else if c + 1 + m < c then M (c + 1 + m) c else 0) = 0 := by
        rw [if_neg (by omega), if_neg (by omega)]
      show _ ^^^ gmul (M r (c + 1 + m)) (if c + 1 + m = c then 1 else if c + 1 + m < c then M (c + 1 + m) c else 0) = _
      rw [e, gmul_zero (hM r _), Nat.xor_zero]
  have := hup (n - c)
  rw [show c + 1 + (n - c) = n + 1 from by omega] at this
  rw [this]
  by_cases hrc : r < c
  · rw [if_pos hrc, Nat.xor_self]
  · rw [if_neg hrc, h0 r (by omega) hr]; rfl

/-- When all columns are done, what is asked for stands in the last one. -/
theorem all_done {n : Nat} {M : Nat → Nat → Nat} (hM : Bm M) (h : Uc n M n) {f : Nat → Nat} (hf : ∀ k, f k < 256) (h1 : f n = 1) (hk : Ker n M f) (r : Nat) (hr : r < n) : f r = M r n := by
  have := hk r hr
  unfold dot at this
  rw [fs] at this
  rw [fs_one hr (fun k hk hne => by show gmul (M r k) (f k) = 0; rw [h k hk r hr, if_neg (fun e => hne e.symm), gmul_zero_left]), h r hr r hr, if_pos rfl, gmul_one_left (hf r), h1, gmul_one (hM r n)] at this
  exact xor_self_zero this

end Go.Proofs.YthhggjakenalpaaGreatDoor.Bt

/- Plain: the equations of a polynomial that is at bytes what is told: they have one answer, and elimination finds it. No program is named here. -/
namespace Go.Proofs.YthhggjakenalpaaGreatDoor.Bt
set_option maxRecDepth 100000

theorem fs_psum {x : Nat} (hx : x < 256) (F : Nat → Nat) (hF : ∀ k, F k < 256) (n i : Nat) :
    fs n (fun k => gmul (gpow x (i + k)) (F k)) = psum i ((List.range n).map F) x := by
  have step : ∀ (n i : Nat) (G : Nat → Nat), fs (n + 1) G = G 0 ^^^ fs n (fun k => G (k + 1)) := by
    intro n i G
    induction n with
    | zero => show 0 ^^^ G 0 = G 0 ^^^ 0; rw [Nat.zero_xor, Nat.xor_zero]
    | succ n ih => rw [fs, ih, fs, Nat.xor_assoc]
  induction n generalizing i F with
  | zero => rfl
  | succ n ih =>
    rw [step n i, List.range_succ_eq_map, List.map_cons, psum, List.map_map]
    rw [← ih (F ∘ Nat.succ) (fun k => hF (k + 1)) (i + 1)]
    congr 1
    · exact gmul_comm (gpow_lt hx _) (hF 0)
    · refine fs_congr (fun k _ => ?_)
      show gmul (gpow x (i + (k + 1))) (F (k + 1)) = gmul (gpow x (i + 1 + k)) (F (k + 1))
      rw [show i + (k + 1) = i + 1 + k from by omega]

/-- The value at x of the polynomial with factors F. -/
theorem fs_pev {x : Nat} (hx : x < 256) (F : Nat → Nat) (hF : ∀ k, F k < 256) (n : Nat) :
    fs n (fun k => gmul (gpow x k) (F k)) = pev ((List.range n).map F) x := by
  have h := fs_psum hx F hF n 0
  rw [psum_pev hx _ (fun c hc => by obtain ⟨k, _, rfl⟩ := List.mem_map.1 hc; exact hF k)] at h
  rw [← h]
  exact fs_congr (fun k _ => by rw [Nat.zero_add])

/-- The equations, as they are laid. -/
def vand (at_ vals : List Nat) : Nat → Nat → Nat := fun r k => if k < at_.length then gpow (at_.getD r 0) k else vals.getD r 0

theorem getD_byt {l : List Nat} (h : Byt l) (r : Nat) : l.getD r 0 < 256 := by
  by_cases hr : r < l.length
  · rw [← List.getElem_eq_getD (h := hr) 0]; exact h _ (List.getElem_mem hr)
  · have : l.getD r 0 = 0 := by simp [List.getD, List.getElem?_eq_none (Nat.le_of_not_lt hr)]
    rw [this]; decide

theorem vand_bm {at_ vals : List Nat} (ha : Byt at_) (hv : Byt vals) : Bm (vand at_ vals) := fun r k => by
  unfold vand; split
  · exact gpow_lt (getD_byt ha r) k
  · exact getD_byt hv r

theorem vand_dot {at_ vals : List Nat} (ha : Byt at_) (r : Nat) {f : Nat → Nat} (hf : ∀ k, f k < 256) :
    dot at_.length (vand at_ vals) r f = pev ((List.range at_.length).map f) (at_.getD r 0) ^^^ gmul (vals.getD r 0) (f at_.length) := by
  unfold dot
  rw [fs, ← fs_pev (getD_byt ha r) f hf]
  congr 1
  · refine fs_congr (fun k hk => ?_)
    show gmul (vand at_ vals r k) (f k) = _
    unfold vand; rw [if_pos hk]
  · show gmul (vand at_ vals r at_.length) (f at_.length) = _
    unfold vand; rw [if_neg (by omega)]

theorem mem_getD {l : List Nat} {x : Nat} (h : x ∈ l) : ∃ r, r < l.length ∧ l.getD r 0 = x := by
  obtain ⟨r, hr, e⟩ := List.mem_iff_getElem.1 h
  exact ⟨r, hr, by rw [← List.getElem_eq_getD (h := hr) 0]; exact e⟩

/-- Nought alone answers to nought. -/
theorem vand_only {at_ vals : List Nat} (ha : Byt at_) (hd : at_.Nodup) {f : Nat → Nat} (hf : ∀ k, f k < 256) (h0 : f at_.length = 0) (hk : Ker at_.length (vand at_ vals) f)
    (k : Nat) (hkn : k < at_.length) : f k = 0 := by
  have hz := roots at_ ha hd ((List.range at_.length).map f) (fun c hc => by obtain ⟨k, _, rfl⟩ := List.mem_map.1 hc; exact hf k) (by simp) (fun x hx => by
    obtain ⟨r, hr, e⟩ := mem_getD hx
    have := hk r hr
    rw [vand_dot ha r hf, h0] at this
    rw [e] at this
    have hv : gmul (vals.getD r 0) 0 = 0 := by
      have := gmul_xor (vals.getD r 0) 0 0
      rw [Nat.xor_self, Nat.xor_self] at this
      exact this
    rw [hv, Nat.xor_zero] at this
    exact this)
  exact hz _ (List.mem_map.2 ⟨k, List.mem_range.2 hkn, rfl⟩)

/-- The polynomial that is at bytes what is told. -/
def poly (at_ vals : List Nat) : List Nat := lpol at_ (at_.zip vals)

theorem poly_spec {at_ vals : List Nat} (ha : Byt at_) (hd : at_.Nodup) (hv : Byt vals) (hl : vals.length = at_.length) :
    Byt (poly at_ vals) ∧ (poly at_ vals).length = at_.length ∧ ∀ r, r < at_.length → pev (poly at_ vals) (at_.getD r 0) = vals.getD r 0 := by
  by_cases h0 : at_ = []
  · subst h0; exact ⟨Byt.nil, rfl, fun r hr => absurd hr (by simp)⟩
  have hz : at_.zip vals ≠ [] := fun e => h0 (by
    have := congrArg List.length e
    rw [List.length_zip, hl, Nat.min_self] at this
    exact List.eq_nil_of_length_eq_zero this)
  have hm1 : ∀ p ∈ at_.zip vals, p.1 ∈ at_ := fun p hp => (List.of_mem_zip (a := p.1) (b := p.2) hp).1
  have hm2 : ∀ p ∈ at_.zip vals, p.2 < 256 := fun p hp => hv _ (List.of_mem_zip (a := p.1) (b := p.2) hp).2
  refine ⟨lpol_byt _ _ hm2, lpol_length hd _ hm1 hz, fun r hr => ?_⟩
  have hrv : r < vals.length := by omega
  unfold poly
  rw [pev_lpol ha (getD_byt ha r) _ hm2, ← List.getElem_eq_getD (h := hr) 0, ← List.getElem_eq_getD (h := hrv) 0]
  refine lsum_at ha hm1 hm2 ?_ ?_
  · rw [List.map_fst_zip (by omega)]; exact hd
  · refine List.mem_iff_getElem.2 ⟨r, by rw [List.length_zip]; omega, ?_⟩
    rw [List.getElem_zip]

theorem poly_only {at_ vals q : List Nat} (ha : Byt at_) (hd : at_.Nodup) (hv : Byt vals) (hl : vals.length = at_.length)
    (hq : Byt q) (hn : q.length = at_.length) (h : ∀ r, r < at_.length → pev q (at_.getD r 0) = vals.getD r 0) : q = poly at_ vals := by
  obtain ⟨h1, h2, h3⟩ := poly_spec ha hd hv hl
  refine pev_only at_ ha hd q _ hq h1 (by omega) (by omega) (fun x hx => ?_)
  obtain ⟨r, hr, rfl⟩ := mem_getD hx
  rw [h r hr, h3 r hr]

/-- How far elimination is: c columns done, and no answer turned. -/
structure Elim (at_ vals : List Nat) (M : Nat → Nat → Nat) (c : Nat) : Prop where
  byt : Bm M
  uc : Uc at_.length M c
  ker : ∀ f, Ker at_.length M f ↔ Ker at_.length (vand at_ vals) f

theorem Elim.start {at_ vals : List Nat} (ha : Byt at_) (hv : Byt vals) : Elim at_ vals (vand at_ vals) 0 :=
  ⟨vand_bm ha hv, fun j hj => absurd hj (by omega), fun _ => Iff.rfl⟩

/-- A row with something in column c is there. -/
theorem Elim.pivot {at_ vals : List Nat} (ha : Byt at_) (hd : at_.Nodup) {M : Nat → Nat → Nat} {c : Nat} (h : Elim at_ vals M c) (hc : c < at_.length) : ∃ p, c ≤ p ∧ p < at_.length ∧ M p c ≠ 0 := by
  refine Classical.byContradiction fun hn => ?_
  have h0 : ∀ p, c ≤ p → p < at_.length → M p c = 0 := fun p h1 h2 => Classical.byContradiction fun h3 => hn ⟨p, h1, h2, h3⟩
  have hk := (h.ker _).1 (no_pivot hc h.byt h.uc h0)
  have := vand_only ha hd (fun k => by
    show (if k = c then 1 else if k < c then M k c else 0) < 256
    split
    · decide
    · split
      · exact h.byt _ _
      · decide) (by show (if at_.length = c then 1 else if at_.length < c then M at_.length c else 0) = 0; rw [if_neg (by omega), if_neg (by omega)]) hk c hc
  rw [if_pos rfl] at this
  exact absurd this (by decide)

theorem Elim.step {at_ vals : List Nat} {M : Nat → Nat → Nat} {c p : Nat} (h : Elim at_ vals M c) (hcp : c ≤ p) (hp : p < at_.length) (h0 : M p c ≠ 0) : Elim at_ vals (stepM c p M) (c + 1) :=
  ⟨h.byt.step c p, uc_step (by omega) hcp hp h.byt h0 h.uc, fun f => (ker_step (by omega) hp h.byt h0 f).trans (h.ker f)⟩

/-- In the end the last column is the polynomial. -/
theorem Elim.done {at_ vals : List Nat} (ha : Byt at_) (hd : at_.Nodup) (hv : Byt vals) (hl : vals.length = at_.length) {M : Nat → Nat → Nat} (h : Elim at_ vals M at_.length) :
    (List.range at_.length).map (fun r => M r at_.length) = poly at_ vals := by
  obtain ⟨q1, q2, q3⟩ := poly_spec ha hd hv hl
  generalize hq : poly at_ vals = q at q1 q2 q3 ⊢
  let f : Nat → Nat := fun k => if k = at_.length then 1 else q.getD k 0
  have hf : ∀ k, f k < 256 := fun k => by
    show (if k = at_.length then 1 else q.getD k 0) < 256
    split
    · decide
    · exact getD_byt q1 k
  have hn : f at_.length = 1 := if_pos rfl
  have hm : (List.range at_.length).map f = q := by
    apply List.ext_getElem
    · simp [q2]
    · intro k h1 h2
      rw [List.getElem_map, List.getElem_range]
      show (if k = at_.length then 1 else q.getD k 0) = _
      rw [if_neg (by omega), ← List.getElem_eq_getD (h := h2) 0]
  have hk : Ker at_.length (vand at_ vals) f := fun r hr => by
    rw [vand_dot ha r hf, hm, hn, q3 r hr, gmul_one (getD_byt hv r), Nat.xor_self]
  rw [← hm]
  refine List.map_congr_left (fun r hr => ?_)
  exact (all_done h.byt h.uc hf hn ((h.ker f).2 hk) r (List.mem_range.1 hr)).symm

end Go.Proofs.YthhggjakenalpaaGreatDoor.Bt

/- Plain: what layer 5 answers, and what follows of it; no program is named here. -/
namespace Go.Proofs.YthhggjakenalpaaGreatDoor.Bt
set_option maxRecDepth 100000

/-- May it be? -/
def mayC (k n s : Int) : Bool := decide (1 ≤ k) && decide (k ≤ 6) && decide (k ≤ n) && decide (n ≤ 10) && decide (1 ≤ s) && decide (s ≤ 24)

theorem mayC_true {k n s : Int} (h : mayC k n s = true) : 1 ≤ k ∧ k ≤ 6 ∧ k ≤ n ∧ n ≤ 10 ∧ 1 ≤ s ∧ s ≤ 24 := by
  simp [mayC] at h; omega

theorem mayC_false {k n s : Int} (h : ¬ (1 ≤ k ∧ k ≤ 6 ∧ k ≤ n ∧ n ≤ 10 ∧ 1 ≤ s ∧ s ≤ 24)) : mayC k n s = false := by
  rcases e : mayC k n s with _ | _
  · rfl
  · exact absurd (mayC_true e) h

/-- What Pad answers. -/
def padB (k n s : Int) (bs : List Nat) : List Nat := if mayC k n s = true ∧ (bs.length : Int) ≤ k * s then bs ++ List.replicate ((k * s).toNat - bs.length) 0 else []

/-- What is told at a place. -/
def valsP (S : Nat) (text : List Nat) (p t : Nat) : List Nat := (List.range t).map (fun k => text.getD (k * S + p) 0)

/-- A shard's byte. -/
def shB (K S : Nat) (text : List Nat) (i p : Nat) : Nat := if i < K then text.getD (i * S + p) 0 else pev (poly (List.range K) (valsP S text p K)) i

/-- A shard's bytes, so far. -/
def shL (K S : Nat) (text : List Nat) (P i : Nat) : List Nat := (List.range P).map (shB K S text i)

theorem shL_succ (K S : Nat) (text : List Nat) (P i : Nat) : shL K S text (P + 1) i = shL K S text P i ++ [shB K S text i P] := by simp [shL, List.range_succ]

theorem shL_length (K S : Nat) (text : List Nat) (P i : Nat) : (shL K S text P i).length = P := by simp [shL]

theorem range_byt (K : Nat) (h : K ≤ 256) : Byt (List.range K) := fun x hx => by have := List.mem_range.1 hx; omega

theorem valsP_byt {S : Nat} {text : List Nat} (h : Byt text) (p t : Nat) : Byt (valsP S text p t) := fun x hx => by
  obtain ⟨k, _, rfl⟩ := List.mem_map.1 hx
  exact getD_byt h _

theorem valsP_length (S : Nat) (text : List Nat) (p t : Nat) : (valsP S text p t).length = t := by simp [valsP]

theorem valsP_succ (S : Nat) (text : List Nat) (p t : Nat) : valsP S text p (t + 1) = valsP S text p t ++ [text.getD (t * S + p) 0] := by simp [valsP, List.range_succ]

theorem mul_in {K S i p : Nat} (hi : i < K) (hp : p < S) : i * S + p < K * S := by
  have := Nat.mul_le_mul_right S (show i + 1 ≤ K from hi)
  rw [Nat.succ_mul] at this
  omega


theorem valsP_getD {S : Nat} {text : List Nat} {p t r : Nat} (h : r < t) : (valsP S text p t).getD r 0 = text.getD (r * S + p) 0 := by
  rw [← List.getElem_eq_getD (h := by rw [valsP_length]; exact h) 0]
  simp [valsP]

/-- The polynomial at a place. -/
def polP (K S : Nat) (text : List Nat) (p : Nat) : List Nat := poly (List.range K) (valsP S text p K)

theorem polP_spec {K S : Nat} {text : List Nat} (hK : K ≤ 256) (ht : Byt text) (p : Nat) :
    Byt (polP K S text p) ∧ (polP K S text p).length = K ∧ ∀ i, i < K → pev (polP K S text p) i = text.getD (i * S + p) 0 := by
  obtain ⟨h1, h2, h3⟩ := poly_spec (range_byt K hK) List.nodup_range (valsP_byt (S := S) ht p K) (by rw [valsP_length, List.length_range])
  rw [List.length_range] at h2 h3
  refine ⟨h1, h2, fun i hi => ?_⟩
  have := h3 i hi
  rw [← List.getElem_eq_getD (h := by simpa using hi) 0, List.getElem_range] at this
  unfold polP
  rw [this, ← List.getElem_eq_getD (h := by rw [valsP_length]; exact hi) 0]
  simp [valsP]

theorem shB_pev {K S : Nat} {text : List Nat} (hK : K ≤ 256) (ht : Byt text) (i p : Nat) : shB K S text i p = pev (polP K S text p) i := by
  unfold shB
  split
  · rename_i h; rw [(polP_spec hK ht p).2.2 i h]
  · rfl

theorem shB_lt {K S : Nat} {text : List Nat} (hK : K ≤ 256) (ht : Byt text) {i : Nat} (hi : i < 256) (p : Nat) : shB K S text i p < 256 := by
  rw [shB_pev hK ht]; exact pev_lt (polP_spec hK ht p).1 hi

theorem shL_byt {K S : Nat} {text : List Nat} (hK : K ≤ 256) (ht : Byt text) {i : Nat} (hi : i < 256) (P : Nat) : Byt (shL K S text P i) := fun x hx => by
  obtain ⟨p, _, rfl⟩ := List.mem_map.1 hx
  exact shB_lt hK ht hi p

theorem shL_getD {K S : Nat} {text : List Nat} {P i p : Nat} (hp : p < P) : (shL K S text P i).getD p 0 = shB K S text i p := by
  rw [← List.getElem_eq_getD (h := by rw [shL_length]; exact hp) 0]
  simp [shL]

/-- Encode's error. -/
def encE (k n s : Int) (len : Nat) : Int := if mayC k n s = true then (if (len : Int) = k * s then 0 else 4) else 1

/-- All shards of a text. -/
def encL (K N S : Nat) (text : List Nat) : List (List Nat) := (List.range N).map (shL K S text S)

/-- What Encode answers. -/
def encA (k n s : Int) (text : List Nat) : List (List Nat) := if encE k n s text.length = 0 then encL k.toNat n.toNat s.toNat text else []

theorem encL_length (K N S : Nat) (text : List Nat) : (encL K N S text).length = N := by simp [encL]

theorem encL_getD {K N S : Nat} {text : List Nat} {i : Nat} (h : i < N) : (encL K N S text).getD i [] = shL K S text S i := by
  rw [← List.getElem_eq_getD (h := by rw [encL_length]; exact h) []]
  simp [encL]

theorem encE_ok {k n s : Int} {len : Nat} (h : encE k n s len = 0) : mayC k n s = true ∧ (len : Int) = k * s := by
  unfold encE at h
  split at h
  · rename_i h1
    split at h
    · rename_i h2; exact ⟨h1, h2⟩
    · exact absurd h (by decide)
  · exact absurd h (by decide)

/-- Which shards are there. -/
def there (L : List (List Nat)) : List Nat := (List.range L.length).filter (fun i => decide (0 < (L.getD i []).length))

/-- Decode's error. -/
def decE (k n s : Int) (L : List (List Nat)) : Int :=
  if mayC k n s = true then (if (L.length : Int) = n then (if L.all (fun r => decide (r.length = 0) || decide ((r.length : Int) = s)) = true then (if k ≤ ((there L).length : Int) then 0 else 8) else 4) else 4) else 1

/-- Which shards say the text. -/
def decAt (K : Nat) (L : List (List Nat)) : List Nat := (there L).take K

/-- What they have at a place. -/
def decV (L : List (List Nat)) (at_ : List Nat) (p : Nat) : List Nat := at_.map (fun j => (L.getD j []).getD p 0)

/-- A byte that is decoded. -/
def decB (K : Nat) (L : List (List Nat)) (i p : Nat) : Nat := pev (poly (decAt K L) (decV L (decAt K L) p)) i

/-- The text that is decoded. -/
def decT (K S : Nat) (L : List (List Nat)) : List Nat := (List.range (K * S)).map (fun j => decB K L (j / S) (j % S))

/-- What Decode answers. -/
def decA (k n s : Int) (L : List (List Nat)) : List Nat := if decE k n s L = 0 then decT k.toNat s.toNat L else []

theorem decT_length (K S : Nat) (L : List (List Nat)) : (decT K S L).length = K * S := by simp [decT]

theorem there_lt {L : List (List Nat)} {i : Nat} (h : i ∈ there L) : i < L.length := List.mem_range.1 (List.mem_filter.1 h).1

theorem there_pos {L : List (List Nat)} {i : Nat} (h : i ∈ there L) : 0 < (L.getD i []).length := by simpa using (List.mem_filter.1 h).2

theorem there_nodup (L : List (List Nat)) : (there L).Nodup := List.nodup_range.filter _

theorem decAt_mem {K : Nat} {L : List (List Nat)} {i : Nat} (h : i ∈ decAt K L) : i ∈ there L := List.mem_of_mem_take h

theorem decAt_byt {K : Nat} {L : List (List Nat)} (hL : L.length ≤ 256) : Byt (decAt K L) := fun x hx => by
  have := there_lt (decAt_mem hx); omega

theorem decAt_nodup (K : Nat) (L : List (List Nat)) : (decAt K L).Nodup := (there_nodup L).sublist (List.take_sublist _ _)

theorem decAt_length {K : Nat} {L : List (List Nat)} (h : K ≤ (there L).length) : (decAt K L).length = K := by simp [decAt, h]

/-- Rows of bytes. -/
def BytL (L : List (List Nat)) : Prop := ∀ r ∈ L, Byt r

theorem getD_bytL {L : List (List Nat)} (h : BytL L) (j : Nat) : Byt (L.getD j []) := by
  by_cases hj : j < L.length
  · rw [← List.getElem_eq_getD (h := hj) []]; exact h _ (List.getElem_mem hj)
  · rw [List.getD_eq_getElem?_getD, List.getElem?_eq_none (by omega)]; exact Byt.nil

theorem decV_byt {L : List (List Nat)} (h : BytL L) (at_ : List Nat) (p : Nat) : Byt (decV L at_ p) := fun x hx => by
  obtain ⟨j, _, rfl⟩ := List.mem_map.1 hx
  exact getD_byt (getD_bytL h j) p

theorem decB_lt {K : Nat} {L : List (List Nat)} (hL : L.length ≤ 256) (h : BytL L) {i : Nat} (hi : i < 256) (p : Nat) : decB K L i p < 256 := by
  obtain ⟨h1, _, _⟩ := poly_spec (decAt_byt (K := K) hL) (decAt_nodup K L) (decV_byt h (decAt K L) p) (by simp [decV])
  exact pev_lt h1 hi

theorem decT_byt {K S : Nat} {L : List (List Nat)} (hK : K ≤ 256) (hL : L.length ≤ 256) (h : BytL L) : Byt (decT K S L) := fun x hx => by
  obtain ⟨j, hj, rfl⟩ := List.mem_map.1 hx
  have hj := List.mem_range.1 hj
  refine decB_lt hL h ?_ _
  have : j / S < K := Nat.div_lt_of_lt_mul (by rw [Nat.mul_comm]; exact hj)
  omega

/-- What comes of shards that are a text's, as many as its data has: the text's polynomial. -/
theorem dec_poly {K S : Nat} {text : List Nat} {L : List (List Nat)} (hK : K ≤ 256) (hL : L.length ≤ 256) (ht : Byt text) (hn : K ≤ (there L).length)
    (hs : ∀ j, j ∈ there L → L.getD j [] = shL K S text S j) {p : Nat} (hp : p < S) : poly (decAt K L) (decV L (decAt K L) p) = polP K S text p := by
  obtain ⟨h1, h2, _⟩ := polP_spec (S := S) hK ht p
  have hl := decAt_length hn
  have hv : Byt (decV L (decAt K L) p) := fun x hx => by
    obtain ⟨j, hj, rfl⟩ := List.mem_map.1 hx
    have := there_lt (decAt_mem hj)
    rw [hs j (decAt_mem hj), shL_getD hp]
    exact shB_lt hK ht (by omega) p
  refine (poly_only (decAt_byt hL) (decAt_nodup K L) hv (by simp [decV]) h1 (by omega) (fun r hr => ?_)).symm
  have hm : (decAt K L)[r] ∈ there L := decAt_mem (List.getElem_mem hr)
  rw [← List.getElem_eq_getD (h := hr) 0, ← List.getElem_eq_getD (h := by simpa [decV] using hr) 0]
  simp only [decV, List.getElem_map]
  rw [hs _ hm, shL_getD hp, shB_pev hK ht]

theorem dec_back {K S : Nat} {text : List Nat} {L : List (List Nat)} (hK : K ≤ 256) (hS : 0 < S) (hL : L.length ≤ 256) (ht : Byt text) (hlen : text.length = K * S) (hn : K ≤ (there L).length)
    (hs : ∀ j, j ∈ there L → L.getD j [] = shL K S text S j) : decT K S L = text := by
  apply List.ext_getElem
  · rw [decT_length, hlen]
  · intro j h1 h2
    have hj : j < K * S := by rw [← hlen]; exact h2
    have hm := Nat.mod_lt j hS
    have hd : j / S < K := Nat.div_lt_of_lt_mul (by rw [Nat.mul_comm]; exact hj)
    simp only [decT, List.getElem_map, List.getElem_range, decB]
    rw [dec_poly hK hL ht hn hs hm, (polP_spec hK ht _).2.2 _ hd, Nat.mul_comm, Nat.div_add_mod, ← List.getElem_eq_getD (h := h2) 0]

/-- Shards of a sum of texts. -/
theorem shB_xor {K S : Nat} {a b c : List Nat} (hK : K ≤ 256) (ha : Byt a) (hb : Byt b) (hc : Byt c) (he : ∀ j, j < K * S → c.getD j 0 = a.getD j 0 ^^^ b.getD j 0) {i p : Nat} (hp : p < S) :
    shB K S c i p = shB K S a i p ^^^ shB K S b i p := by
  obtain ⟨a1, a2, a3⟩ := polP_spec (S := S) hK ha p
  obtain ⟨b1, b2, b3⟩ := polP_spec (S := S) hK hb p
  have e : padd (polP K S a p) (polP K S b p) = polP K S c p := by
    refine poly_only (range_byt K hK) List.nodup_range (valsP_byt hc p K) (by rw [valsP_length, List.length_range]) (padd_byt a1 b1) (by rw [padd_length, a2, b2, Nat.max_self, List.length_range]) (fun r hr => ?_)
    have hr' : r < K := by simpa using hr
    rw [valsP_getD hr', ← List.getElem_eq_getD (h := hr) 0, List.getElem_range, pev_padd, a3 r hr', b3 r hr', he _ (mul_in hr' hp)]
  rw [shB_pev hK ha, shB_pev hK hb, shB_pev hK hc, ← e, pev_padd]

/-- Of one shard of data all shards are the text. -/
theorem shL_one {S : Nat} {text : List Nat} (ht : Byt text) (hl : text.length = S) {i : Nat} (hi : i < 256) : shL 1 S text S i = text := by
  apply List.ext_getElem
  · rw [shL_length, hl]
  · intro p h1 h2
    have hp : p < S := by rw [← hl]; exact h2
    simp only [shL, List.getElem_map, List.getElem_range]
    rw [shB_pev (by decide) ht]
    have e : [text.getD p 0] = polP 1 S text p := by
      refine poly_only (range_byt 1 (by decide)) List.nodup_range (valsP_byt ht p 1) (by rw [valsP_length, List.length_range]) (Byt.cons (getD_byt ht p) Byt.nil) (by simp) (fun r hr => ?_)
      obtain rfl : r = 0 := by simp at hr; omega
      simp [valsP, pev, List.range_succ, gmul_zero_left]
    rw [← e, ← List.getElem_eq_getD (h := h2) 0]
    simp [pev, gmul_zero hi]

end Go.Proofs.YthhggjakenalpaaGreatDoor.Bt

/- Plain: groups that go round: what layer 6 answers; no program is named here. -/
namespace Go.Proofs.YthhggjakenalpaaGreatDoor.Bt
set_option maxRecDepth 100000

/-- Is a number a group? -/
def isG (g : Int) : Bool := decide (0 ≤ g) && decide (g ≤ 255)

theorem isG_true {g : Int} (h : isG g = true) : 0 ≤ g ∧ g ≤ 255 := by simpa [isG] using h

theorem isG_false {g : Int} (h : isG g = false) : g < 0 ∨ 255 < g := by
  simp [isG] at h; omega

theorem isG_of {g : Int} (h : 0 ≤ g ∧ g ≤ 255) : isG g = true := by simp [isG, h]

/-- How far. -/
def farA (b g : Int) : Int := if isG b = true ∧ isG g = true then (g - b) % 256 else -1

/-- The group some steps behind. -/
def nextA (g n : Int) : Int := if isG g = true then (g + n) % 256 else -1

def openA (b g : Int) : Bool := decide (0 ≤ farA b g) && decide (farA b g ≤ 3)

def behindA (b g : Int) : Bool := decide (128 ≤ farA b g)

/-- Are they a group and a place? -/
def isM (g p : Int) : Bool := isG g && (decide (0 ≤ p) && decide (p ≤ 15))

def makeA (g p : Int) : Int := if isM g p = true then g * 16 + p else 0

def isS (n : Int) : Bool := decide (0 ≤ n) && decide (n ≤ 4095)

def splitG (n : Int) : Int := if isS n = true then n / 16 else 0

def splitP (n : Int) : Int := if isS n = true then n % 16 else 0

theorem farA_in {b g : Int} (hb : 0 ≤ b ∧ b ≤ 255) (hg : 0 ≤ g ∧ g ≤ 255) : farA b g = (g - b) % 256 := by
  unfold farA; rw [if_pos ⟨isG_of hb, isG_of hg⟩]

theorem nextA_in {g : Int} (n : Int) (hg : 0 ≤ g ∧ g ≤ 255) : nextA g n = (g + n) % 256 := by
  unfold nextA; rw [if_pos (isG_of hg)]

end Go.Proofs.YthhggjakenalpaaGreatDoor.Bt

/- Plain: a sender of layer 8: its state, what its calls answer, and what becomes of it; no program is named here. -/
namespace Go.Proofs.YthhggjakenalpaaGreatDoor.Bt
set_option maxRecDepth 100000

/-- A frame. -/
structure FrV where
  tx : Int
  sq : Int
  an : Int
  rs : Int
  kd : Int
  data : List Nat
  deriving DecidableEq

/-- A flight: its group, how often it was sent, when last, its shards, is it there, was it given up. -/
structure Flt where
  group : Nat
  sent : Nat
  last : Int
  rows : List (List Nat)
  there : Bool
  gone : Bool

/-- A sender. -/
structure Snd where
  tx : Nat
  K : Nat
  N : Nat
  S : Nat
  wait : Nat
  most : Nat
  next : Nat
  lost : Nat
  fl : List Flt

/-- May a link be? -/
def mayL (k n s wt ms : Int) : Bool := mayC k n s && (decide (1 ≤ wt) && decide (wt ≤ 100) && (decide (1 ≤ ms) && decide (ms ≤ 9)))

theorem mayL_true {k n s wt ms : Int} (h : mayL k n s wt ms = true) : mayC k n s = true ∧ 1 ≤ wt ∧ wt ≤ 100 ∧ 1 ≤ ms ∧ ms ≤ 9 := by
  simp [mayL] at h
  exact ⟨h.1, h.2.1.1, h.2.1.2, h.2.2.1, h.2.2.2⟩

/-- Is it a transmitter? -/
def isTx (t : Int) : Bool := decide (0 ≤ t) && decide (t ≤ 255)

theorem isTx_true {t : Int} (h : isTx t = true) : 0 ≤ t ∧ t ≤ 255 := by simpa [isTx] using h

/-- What may be of a flight. -/
structure Flt.Ok (N S : Nat) (f : Flt) : Prop where
  group : f.group < 256
  rows : f.rows.length = N
  size : ∀ r, r < N → (f.rows.getD r []).length = S
  byt : BytL f.rows

/-- What may be; nothing has grown beyond M. -/
structure Snd.Ok (M : Nat) (x : Snd) : Prop where
  may : mayL x.K x.N x.S x.wait x.most = true
  tx : x.tx < 256
  next : x.next < 256
  few : x.fl.length ≤ 4
  lost : x.lost ≤ M
  each : ∀ f ∈ x.fl, f.Ok x.N x.S
  sent : ∀ f ∈ x.fl, f.sent ≤ M
  last : ∀ f ∈ x.fl, -(2 ^ 41) ≤ f.last ∧ f.last ≤ 2 ^ 41

theorem Snd.Ok.bounds {M : Nat} {x : Snd} (h : x.Ok M) : 1 ≤ x.K ∧ x.K ≤ 6 ∧ x.K ≤ x.N ∧ x.N ≤ 10 ∧ 1 ≤ x.S ∧ x.S ≤ 24 ∧ 1 ≤ x.wait ∧ x.wait ≤ 100 ∧ 1 ≤ x.most ∧ x.most ≤ 9 := by
  have h1 := mayL_true h.may
  have := mayC_true h1.1
  omega

theorem Snd.Ok.more {M M' : Nat} {x : Snd} (h : x.Ok M) (hM : M ≤ M') : x.Ok M' :=
  ⟨h.may, h.tx, h.next, h.few, Nat.le_trans h.lost hM, h.each, fun f hf => Nat.le_trans (h.sent f hf) hM, h.last⟩

/-- A new one. -/
def snd0 (tx K N S wait most : Nat) : Snd := ⟨tx, K, N, S, wait, most, 0, 0, []⟩

theorem snd0_ok {tx K N S wait most : Nat} (h : mayL K N S wait most = true) (ht : tx < 256) : (snd0 tx K N S wait most).Ok 0 :=
  ⟨h, ht, Nat.zero_lt_succ _, Nat.zero_le _, Nat.le_refl _, (fun f hf => by cases hf), (fun f hf => by cases hf), (fun f hf => by cases hf)⟩

/-- Push's error. -/
def pushE (x : Snd) (len : Nat) : Int := if len = x.K * x.S then (if x.fl.length < 4 then 0 else 7) else 4

/-- What becomes of it. -/
def pushC (x : Snd) (bs : List Nat) : Snd := if pushE x bs.length = 0 then { x with next := (x.next + 1) % 256, fl := x.fl ++ [⟨x.next, 0, 0, encL x.K x.N x.S bs, false, false⟩] } else x

/-- Is a flight due? -/
def dueF (x : Snd) (now : Int) (f : Flt) : Bool := !f.there && (decide (f.sent = 0) || decide (f.last + x.wait ≤ now))

/-- Its frames. -/
def frmsOf (x : Snd) (f : Flt) : List FrV :=
  if x.most ≤ f.sent then [⟨x.tx, 16 * f.group, 0, 0, 2, []⟩] else (List.range x.N).map (fun (r : Nat) => ⟨x.tx, 16 * f.group + (r : Int), 0, 0, 0, f.rows.getD r []⟩)

/-- What a tick makes of it. -/
def tickF (x : Snd) (now : Int) (f : Flt) : Flt := if dueF x now f = true then { f with sent := f.sent + 1, last := now, gone := f.gone || decide (x.most ≤ f.sent) } else f

def tickP (x : Snd) (now : Int) : List FrV := x.fl.flatMap (fun f => if dueF x now f = true then frmsOf x f else [])

def tickC (x : Snd) (now : Int) : Snd := { x with fl := x.fl.map (tickF x now) }

/-- Is a frame an ack of it? -/
def hearA (x : Snd) (f : FrV) : Bool := isFrm f.tx f.sq f.an f.rs f.kd f.data.length && (decide (f.tx = x.tx) && decide (f.kd = 1) && decide (f.data.length = 2))

/-- What an ack makes of a flight that stays: it is there just if its group is open from the base, and its bit is 1. -/
def ackF (base bits : Nat) (f : Flt) : Flt := { f with there := openA base f.group && decide (bits / 2 ^ (farA base f.group).toNat % 2 = 1) }

def ackC (x : Snd) (base bits : Nat) : Snd :=
  { x with lost := x.lost + (x.fl.filter (fun f => behindA base f.group && f.gone)).length, fl := (x.fl.filter (fun f => !behindA base f.group)).map (ackF base bits) }

def hearC (x : Snd) (f : FrV) : Snd := if hearA x f = true then ackC x (f.data.getD 0 0) (f.data.getD 1 0) else x

/-- The greeting. -/
def helloG (x : Snd) : Nat := match x.fl with
  | [] => x.next
  | f :: _ => f.group

def helloV (x : Snd) : FrV := ⟨x.tx, 16 * (helloG x : Int), 0, 0, 3, []⟩

theorem pushE_zero {x : Snd} {len : Nat} (h : pushE x len = 0) : len = x.K * x.S ∧ x.fl.length < 4 := by
  unfold pushE at h
  split at h
  · split at h
    · rename_i q1 q2; exact ⟨q1, q2⟩
    · exact absurd h (by decide)
  · exact absurd h (by decide)

theorem encL_row {K N S : Nat} {bs : List Nat} {r : Nat} (h : r < N) : ((encL K N S bs).getD r []).length = S := by
  rw [encL_getD h, shL_length]

theorem bytL_encL {K N S : Nat} {bs : List Nat} (hK : K ≤ 256) (hN : N ≤ 256) (hY : Byt bs) : BytL (encL K N S bs) := fun x hx => by
  obtain ⟨i, hi, rfl⟩ := List.mem_map.1 hx
  have := List.mem_range.1 hi
  exact shL_byt hK hY (by omega) S

theorem pushC_ok {M : Nat} {x : Snd} (h : x.Ok M) {bs : List Nat} (hY : Byt bs) : (pushC x bs).Ok M := by
  have hb := h.bounds
  unfold pushC
  split
  · rename_i q
    obtain ⟨q1, q2⟩ := pushE_zero q
    have each : ∀ f ∈ x.fl ++ [(⟨x.next, 0, 0, encL x.K x.N x.S bs, false, false⟩ : Flt)], f ∈ x.fl ∨ f = ⟨x.next, 0, 0, encL x.K x.N x.S bs, false, false⟩ := fun f hf => by
      rcases List.mem_append.1 hf with q | q
      · exact .inl q
      · exact .inr (List.mem_singleton.1 q)
    refine ⟨h.may, h.tx, Nat.mod_lt _ (by decide), by simp; omega, h.lost, fun f hf => ?_, fun f hf => ?_, fun f hf => ?_⟩
    · rcases each f hf with q | rfl
      · exact h.each f q
      · exact ⟨h.next, encL_length _ _ _ _, fun r hr => encL_row hr, bytL_encL (by omega) (by omega) hY⟩
    · rcases each f hf with q | rfl
      · exact h.sent f q
      · exact Nat.zero_le _
    · rcases each f hf with q | rfl
      · exact h.last f q
      · exact ⟨show -(2 ^ 41) ≤ (0 : Int) by decide, show (0 : Int) ≤ 2 ^ 41 by decide⟩
  · exact h

theorem tickF_parts (x : Snd) (now : Int) (f : Flt) : (tickF x now f).group = f.group ∧ (tickF x now f).rows = f.rows ∧ (tickF x now f).there = f.there ∧ (tickF x now f).sent ≤ f.sent + 1 ∧ ((tickF x now f).last = f.last ∨ (tickF x now f).last = now) := by
  unfold tickF
  split
  · exact ⟨rfl, rfl, rfl, Nat.le_refl _, .inr rfl⟩
  · exact ⟨rfl, rfl, rfl, Nat.le_succ _, .inl rfl⟩

theorem tickC_ok {M : Nat} {x : Snd} (h : x.Ok M) {now : Int} (hn : -(2 ^ 41) ≤ now ∧ now ≤ 2 ^ 41) : (tickC x now).Ok (M + 1) := by
  refine ⟨h.may, h.tx, h.next, by show (x.fl.map _).length ≤ 4; rw [List.length_map]; exact h.few, Nat.le_succ_of_le h.lost, fun f hf => ?_, fun f hf => ?_, fun f hf => ?_⟩
  · obtain ⟨g, hg, rfl⟩ := List.mem_map.1 hf
    obtain ⟨q1, q2, _⟩ := tickF_parts x now g
    have := h.each g hg
    exact ⟨by rw [q1]; exact this.group, by rw [q2]; exact this.rows, fun r hr => by rw [q2]; exact this.size r hr, by rw [q2]; exact this.byt⟩
  · obtain ⟨g, hg, rfl⟩ := List.mem_map.1 hf
    obtain ⟨_, _, _, q4, _⟩ := tickF_parts x now g
    have := h.sent g hg
    omega
  · obtain ⟨g, hg, rfl⟩ := List.mem_map.1 hf
    obtain ⟨_, _, _, _, q5⟩ := tickF_parts x now g
    rcases q5 with q | q
    · rw [q]; exact h.last g hg
    · rw [q]; exact hn

theorem ackF_parts (base bits : Nat) (f : Flt) : (ackF base bits f).group = f.group ∧ (ackF base bits f).rows = f.rows ∧ (ackF base bits f).sent = f.sent ∧ (ackF base bits f).last = f.last ∧ (ackF base bits f).gone = f.gone := by
  exact ⟨rfl, rfl, rfl, rfl, rfl⟩

theorem ackC_ok {M : Nat} {x : Snd} (h : x.Ok M) (base bits : Nat) : (ackC x base bits).Ok (M + 4) := by
  have hf := h.few
  have hl : (x.fl.filter (fun f => behindA base f.group && f.gone)).length ≤ 4 := Nat.le_trans (List.length_filter_le _ _) hf
  have back : ∀ f ∈ (ackC x base bits).fl, ∃ g ∈ x.fl, f = ackF base bits g := fun f hf => by
    obtain ⟨g, hg, rfl⟩ := List.mem_map.1 hf
    exact ⟨g, (List.mem_filter.1 hg).1, rfl⟩
  refine ⟨h.may, h.tx, h.next, ?_, ?_, fun f hf => ?_, fun f hf => ?_, fun f hf => ?_⟩
  · show (List.map _ _).length ≤ 4
    rw [List.length_map]
    exact Nat.le_trans (List.length_filter_le _ _) hf
  · show x.lost + _ ≤ M + 4
    have := h.lost
    omega
  · obtain ⟨g, hg, rfl⟩ := back f hf
    obtain ⟨q1, q2, _⟩ := ackF_parts base bits g
    have := h.each g hg
    exact ⟨by rw [q1]; exact this.group, by rw [q2]; exact this.rows, fun r hr => by rw [q2]; exact this.size r hr, by rw [q2]; exact this.byt⟩
  · obtain ⟨g, hg, rfl⟩ := back f hf
    rw [(ackF_parts base bits g).2.2.1]
    have := h.sent g hg
    omega
  · obtain ⟨g, hg, rfl⟩ := back f hf
    rw [(ackF_parts base bits g).2.2.2.1]
    exact h.last g hg

theorem hearC_ok {M : Nat} {x : Snd} (h : x.Ok M) (f : FrV) : (hearC x f).Ok (M + 4) := by
  unfold hearC
  split
  · exact ackC_ok h _ _
  · exact h.more (by omega)

/-- A tick's frames: how many. -/
theorem frmsOf_length {x : Snd} (f : Flt) : (frmsOf x f).length = if x.most ≤ f.sent then 1 else x.N := by
  unfold frmsOf
  split
  · rfl
  · simp

end Go.Proofs.YthhggjakenalpaaGreatDoor.Bt

/- Plain: samples, their bytes, texts of samples; no program is named here. -/
namespace Go.Proofs.YthhggjakenalpaaGreatDoor.Bt
set_option maxRecDepth 100000

/-- A sample. -/
structure Smp where
  kind : Int
  tick : Int
  value : Int
  deriving DecidableEq

/-- Is it right? -/
def rightM (s : Smp) : Bool := decide ((1 ≤ s.kind ∧ s.kind ≤ 5) ∧ (0 ≤ s.tick ∧ s.tick ≤ 255) ∧ (0 ≤ s.value ∧ s.value ≤ 999) ∧ (s.kind = 5 → s.value ≤ 255))

def numericM (s : Smp) : Bool := rightM s && decide (s.kind ≠ 5)

theorem rightM_true {s : Smp} (h : rightM s = true) : (1 ≤ s.kind ∧ s.kind ≤ 5) ∧ (0 ≤ s.tick ∧ s.tick ≤ 255) ∧ (0 ≤ s.value ∧ s.value ≤ 999) ∧ (s.kind = 5 → s.value ≤ 255) := of_decide_eq_true h

/-- Its number, of 24 bits. -/
def smN (s : Smp) : Nat := (((s.kind * 256 + s.tick) * 1024 + s.value) * 8).toNat

/-- Its bytes. -/
def smB (s : Smp) : List Nat := numB (smN s) 3

/-- The sample of a number. -/
def smOf (n : Nat) : Smp := ⟨((n / 2097152 : Nat) : Int), ((n / 8192 % 256 : Nat) : Int), ((n / 8 % 1024 : Nat) : Int)⟩

theorem smN_lt {s : Smp} (h : rightM s = true) : smN s < 16777216 := by
  obtain ⟨h1, h2, h3, _⟩ := rightM_true h
  unfold smN
  omega

theorem smN_mod {s : Smp} (h : rightM s = true) : smN s % 8 = 0 := by
  obtain ⟨h1, h2, h3, _⟩ := rightM_true h
  unfold smN
  omega

theorem smOf_smN {s : Smp} (h : rightM s = true) : smOf (smN s) = s := by
  obtain ⟨h1, h2, h3, _⟩ := rightM_true h
  obtain ⟨k, t, v⟩ := s
  unfold smOf smN
  simp only at h1 h2 h3 ⊢
  simp only [Smp.mk.injEq]
  omega

theorem smN_smOf {n : Nat} (h : n < 16777216) (h8 : n % 8 = 0) : smN (smOf n) = n := by
  unfold smN smOf
  simp only
  omega

theorem smB_length (s : Smp) : (smB s).length = 3 := numB_length _ _

/-- A text. -/
def textM (l : List Smp) : List Nat := l.length :: l.flatMap smB

theorem flat_length (l : List Smp) : (l.flatMap smB).length = 3 * l.length := by
  induction l with
  | nil => rfl
  | cons s l ih => rw [List.flatMap_cons, List.length_append, ih, smB_length, List.length_cons]; omega

theorem textM_length (l : List Smp) : (textM l).length = 1 + 3 * l.length := by
  unfold textM
  rw [List.length_cons, flat_length]; omega

theorem flat_at (l : List Smp) (i : Nat) (hi : i < l.length) (rest : List Nat) : ((l.flatMap smB ++ rest).drop (3 * i)).take 3 = smB l[i] := by
  induction l generalizing i with
  | nil => exact absurd hi (by simp)
  | cons s l ih =>
    rw [List.flatMap_cons, List.append_assoc]
    cases i with
    | zero =>
      simp only [Nat.mul_zero, List.drop_zero, List.getElem_cons_zero]
      rw [List.take_append_of_le_length (by rw [smB_length]; omega), List.take_of_length_le (by rw [smB_length]; omega)]
    | succ i =>
      have e : 3 * (i + 1) = (smB s).length + 3 * i := by rw [smB_length]; omega
      rw [e, List.drop_append, List.drop_eq_nil_of_le (by omega), List.nil_append, Nat.add_sub_cancel_left]
      simp only [List.getElem_cons_succ]
      exact ih i (by simpa using hi)

/-- What Fits answers. -/
def fitsM (k n s : Int) : Int := if mayC k n s = true then (k * s - 1) / 3 else 0

def allR (l : List Smp) : Bool := l.all rightM

/-- What Pack answers. -/
def packE (k n s : Int) (l : List Smp) : Int := if mayC k n s = true ∧ allR l = true then (if 1 + 3 * (l.length : Int) ≤ k * s then 0 else 4) else 1

def packT (k n s : Int) (l : List Smp) : List Nat := if packE k n s l = 0 then padB k n s (textM l) else []

theorem packE_zero {k n s : Int} {l : List Smp} (h : packE k n s l = 0) : mayC k n s = true ∧ allR l = true ∧ 1 + 3 * (l.length : Int) ≤ k * s := by
  unfold packE at h
  split at h
  · rename_i q
    split at h
    · rename_i r
      exact ⟨q.1, q.2, r⟩
    · exact absurd h (by decide)
  · exact absurd h (by decide)

theorem packE_ok {k n s : Int} {l : List Smp} (h1 : mayC k n s = true) (h2 : allR l = true) (h3 : 1 + 3 * (l.length : Int) ≤ k * s) : packE k n s l = 0 := by
  unfold packE
  rw [if_pos ⟨h1, h2⟩, if_pos h3]

/-- The number of a sample's bytes, at its place. -/
def smAt (bs : List Nat) (i : Nat) : Nat := readB ((bs.drop (1 + 3 * i)).take 3)

def smOk (bs : List Nat) (i : Nat) : Bool := decide (smAt bs i % 8 = 0) && rightM (smOf (smAt bs i))

/-- How many there are to be. -/
def cntM (bs : List Nat) : Nat := bs.getD 0 0

/-- Are bytes a text of samples? -/
def parseB (bs : List Nat) : Bool := decide (0 < bs.length ∧ 1 + 3 * cntM bs ≤ bs.length ∧ (∀ i, i < cntM bs → smOk bs i = true) ∧ ∀ j, j < bs.length → 1 + 3 * cntM bs ≤ j → bs.getD j 0 = 0)

def parseEM (bs : List Nat) : Int := if parseB bs = true then 0 else 6

def parseL (bs : List Nat) : List Smp := if parseB bs = true then (List.range (cntM bs)).map (fun i => smOf (smAt bs i)) else []

theorem parseEM_zero {bs : List Nat} : parseEM bs = 0 ↔ parseB bs = true := by
  unfold parseEM
  constructor
  · intro h
    cases q : parseB bs with
    | true => rfl
    | false => rw [q] at h; exact absurd h (by decide)
  · intro h
    rw [if_pos h]

theorem packT_eq {k n s : Int} {l : List Smp} (h : packE k n s l = 0) : packT k n s l = textM l ++ List.replicate ((k * s).toNat - (textM l).length) 0 := by
  obtain ⟨h1, h2, h3⟩ := packE_zero h
  unfold packT
  rw [if_pos h]
  unfold padB
  rw [if_pos ⟨h1, by rw [textM_length]; push_cast; exact h3⟩]

theorem packT_length {k n s : Int} {l : List Smp} (h : packE k n s l = 0) : ((packT k n s l).length : Int) = k * s := by
  obtain ⟨h1, h2, h3⟩ := packE_zero h
  rw [packT_eq h, List.length_append, List.length_replicate, textM_length]
  omega

theorem packT_cnt {k n s : Int} {l : List Smp} (h : packE k n s l = 0) : cntM (packT k n s l) = l.length := by
  rw [packT_eq h]
  unfold cntM textM
  rfl

theorem packT_at {k n s : Int} {l : List Smp} (h : packE k n s l = 0) {i : Nat} (hi : i < l.length) : smAt (packT k n s l) i = smN l[i] := by
  obtain ⟨h1, h2, h3⟩ := packE_zero h
  have hr : rightM l[i] = true := List.all_eq_true.1 h2 _ (List.getElem_mem hi)
  have hlt := smN_lt hr
  rw [packT_eq h]
  unfold smAt textM
  rw [show 1 + 3 * i = 3 * i + 1 by omega, List.cons_append, List.drop_succ_cons, flat_at l i hi]
  unfold smB
  rw [readB_numB]
  exact Nat.mod_eq_of_lt hlt

theorem packT_parse {k n s : Int} {l : List Smp} (h : packE k n s l = 0) : parseB (packT k n s l) = true ∧ parseL (packT k n s l) = l := by
  obtain ⟨h1, h2, h3⟩ := packE_zero h
  have hc := packT_cnt h
  have hl := packT_length h
  have hB : parseB (packT k n s l) = true := by
    unfold parseB
    rw [decide_eq_true_iff, hc]
    refine ⟨by omega, by omega, fun i hi => ?_, fun j hj hq => ?_⟩
    · have hr : rightM l[i] = true := List.all_eq_true.1 h2 _ (List.getElem_mem hi)
      unfold smOk
      rw [packT_at h hi, smOf_smN hr, hr, decide_eq_true (smN_mod hr)]
      rfl
    · rw [packT_eq h, List.getD_eq_getElem?_getD, List.getElem?_append_right (by rw [textM_length]; omega), List.getElem?_replicate]
      split <;> rfl
  refine ⟨hB, ?_⟩
  unfold parseL
  rw [if_pos hB, hc]
  apply List.ext_getElem
  · simp
  · intro i q1 q2
    simp only [List.getElem_map, List.getElem_range]
    rw [packT_at h q2]
    exact smOf_smN (List.all_eq_true.1 h2 _ (List.getElem_mem q2))

/-- Three bytes, read as a number and put again. -/
theorem numB_readBM {a b c : Nat} (ha : a < 256) (hb : b < 256) (hc : c < 256) : numB (readB [a, b, c]) 3 = [a, b, c] := by
  have e : readB [a, b, c] = (a * 256 + b) * 256 + c := by simp [readB]
  rw [e, numB_succ, numB_succ, numB_succ]
  simp only [numB, List.range_zero, List.map_nil, List.nil_append, List.cons_append, List.cons.injEq, and_true]
  omega

theorem take3 (bs : List Nat) {i : Nat} (h : i + 3 ≤ bs.length) : (bs.drop i).take 3 = [bs.getD i 0, bs.getD (i + 1) 0, bs.getD (i + 2) 0] := by
  apply List.ext_getElem
  · simp; omega
  · intro j q1 q2
    have hj : j < 3 := by simpa using q2
    simp only [List.getElem_take, List.getElem_drop]
    have e : ∀ m, (hm : m < bs.length) → bs.getD m 0 = bs[m] := fun m hm => by simp [hm]
    match j, hj with
    | 0, _ => exact (e i (by omega)).symm
    | 1, _ => exact (e (i + 1) (by omega)).symm
    | 2, _ => exact (e (i + 2) (by omega)).symm

theorem parse_length {bs : List Nat} (h : parseB bs = true) : (parseL bs).length = cntM bs := by
  unfold parseL
  rw [if_pos h]
  simp

theorem parse_right {bs : List Nat} (h : parseB bs = true) : allR (parseL bs) = true := by
  have hB := h
  unfold parseB at hB
  rw [decide_eq_true_iff] at hB
  unfold parseL allR
  rw [if_pos h, List.all_eq_true]
  intro s hs
  obtain ⟨i, hi, rfl⟩ := List.mem_map.1 hs
  have := hB.2.2.1 i (List.mem_range.1 hi)
  unfold smOk at this
  exact (Bool.and_eq_true _ _ ▸ this).2

/-- What is parsed, packed again. -/
theorem parse_pack {k n s : Int} {bs : List Nat} (h : parseB bs = true) (hY : ∀ b ∈ bs, b < 256) (hm : mayC k n s = true) (hl : k * s = (bs.length : Int)) : packE k n s (parseL bs) = 0 ∧ packT k n s (parseL bs) = bs := by
  have hB := h
  unfold parseB at hB
  rw [decide_eq_true_iff] at hB
  obtain ⟨b0, b1, b2, b3⟩ := hB
  have hlen := parse_length h
  have hE : packE k n s (parseL bs) = 0 := packE_ok hm (parse_right h) (by rw [hlen]; omega)
  refine ⟨hE, ?_⟩
  have hL := packT_length hE
  have hyb : ∀ j, bs.getD j 0 < 256 := fun j => by
    by_cases q : j < bs.length
    · rw [List.getD_eq_getElem?_getD, List.getElem?_eq_getElem q]
      exact hY _ (List.getElem_mem q)
    · rw [List.getD_eq_getElem?_getD, List.getElem?_eq_none (by omega)]
      decide
  have hsm : ∀ i, i < cntM bs → smB (smOf (smAt bs i)) = [bs.getD (1 + 3 * i) 0, bs.getD (1 + 3 * i + 1) 0, bs.getD (1 + 3 * i + 2) 0] := fun i hi => by
    have q := b2 i hi
    unfold smOk at q
    have q8 : smAt bs i % 8 = 0 := of_decide_eq_true (Bool.and_eq_true _ _ ▸ q).1
    have e : smAt bs i = readB [bs.getD (1 + 3 * i) 0, bs.getD (1 + 3 * i + 1) 0, bs.getD (1 + 3 * i + 2) 0] := by
      unfold smAt
      rw [take3 bs (by omega)]
    have hlt : smAt bs i < 16777216 := by
      rw [e]
      have a1 := hyb (1 + 3 * i)
      have a2 := hyb (1 + 3 * i + 1)
      have a3 := hyb (1 + 3 * i + 2)
      have e2 : readB [bs.getD (1 + 3 * i) 0, bs.getD (1 + 3 * i + 1) 0, bs.getD (1 + 3 * i + 2) 0] = (bs.getD (1 + 3 * i) 0 * 256 + bs.getD (1 + 3 * i + 1) 0) * 256 + bs.getD (1 + 3 * i + 2) 0 := by simp [readB]
      rw [e2]
      omega
    unfold smB
    rw [smN_smOf hlt q8, e]
    exact numB_readBM (hyb _) (hyb _) (hyb _)
  -- byte by byte
  have hget : ∀ i j, i < cntM bs → j < 3 → ((parseL bs).flatMap smB).getD (3 * i + j) 0 = bs.getD (1 + 3 * i + j) 0 := fun i j hi hj => by
    have hi' : i < (parseL bs).length := by rw [hlen]; exact hi
    have hf := flat_at (parseL bs) i hi' []
    rw [List.append_nil] at hf
    have hel : (parseL bs)[i] = smOf (smAt bs i) := by
      have : parseL bs = (List.range (cntM bs)).map (fun i => smOf (smAt bs i)) := by unfold parseL; rw [if_pos h]
      simp [this]
    rw [hel, hsm i hi] at hf
    have hfl := flat_length (parseL bs)
    rw [hlen] at hfl
    have e1 : ((parseL bs).flatMap smB).getD (3 * i + j) 0 = ((((parseL bs).flatMap smB).drop (3 * i)).take 3).getD j 0 := by
      rw [List.getD_eq_getElem?_getD, List.getD_eq_getElem?_getD, List.getElem?_take_of_lt hj, List.getElem?_drop]
    rw [e1, hf]
    match j, hj with
    | 0, _ => rfl
    | 1, _ => rfl
    | 2, _ => rfl
  rw [packT_eq hE]
  have hTL := textM_length (parseL bs)
  rw [hlen] at hTL
  apply List.ext_getElem
  · rw [List.length_append, List.length_replicate, hTL]; omega
  · intro j q1 q2
    have ej : bs[j] = bs.getD j 0 := by simp [q2]
    rw [ej]
    by_cases q : j < 1 + 3 * cntM bs
    · rw [List.getElem_append_left (by omega)]
      have e2 : (textM (parseL bs))[j]'(by omega) = (textM (parseL bs)).getD j 0 := by
        rw [List.getD_eq_getElem?_getD, List.getElem?_eq_getElem (by omega)]; rfl
      rw [e2]
      unfold textM
      cases j with
      | zero =>
        rw [hlen]
        rfl
      | succ j =>
        show ((parseL bs).flatMap smB).getD j 0 = _
        have hj3 : j = 3 * (j / 3) + j % 3 := by omega
        have := hget (j / 3) (j % 3) (by omega) (Nat.mod_lt _ (by decide))
        rw [← hj3] at this
        rw [this]
        congr 1
        omega
    · rw [List.getElem_append_right (by omega), List.getElem_replicate, b3 j q2 (by omega)]

/-- The first of samples that fit, fit. -/
theorem pack_take {k n s : Int} {l : List Smp} (h : packE k n s l = 0) (m : Nat) : packE k n s (l.take m) = 0 := by
  obtain ⟨h1, h2, h3⟩ := packE_zero h
  refine packE_ok h1 ?_ ?_
  · unfold allR at h2 ⊢
    rw [List.all_eq_true] at h2 ⊢
    exact fun s hs => h2 s (List.mem_of_mem_take hs)
  · have : (l.take m).length ≤ l.length := List.length_take_le' _ _
    omega

/-- Other bytes are none, or other samples. -/
theorem pack_other {k n s : Int} {l : List Smp} (h : packE k n s l = 0) {bs : List Nat} (hY : ∀ b ∈ bs, b < 256) (hl : bs.length = (packT k n s l).length) (hne : bs ≠ packT k n s l) : parseEM bs = 6 ∨ parseL bs ≠ l := by
  cases q : parseB bs with
  | false => left; unfold parseEM; rw [q]; rfl
  | true =>
    right
    intro e
    have hL := packT_length h
    obtain ⟨_, r⟩ := parse_pack (k := k) (n := n) (s := s) q hY (packE_zero h).1 (by rw [← hL, hl])
    rw [e] at r
    exact hne r.symm

/-- A text's bytes are bytes. -/
theorem packT_byt {k n s : Int} {l : List Smp} : ∀ b ∈ packT k n s l, b < 256 := by
  by_cases h : packE k n s l = 0
  · obtain ⟨h1, _, h3⟩ := packE_zero h
    have hm := mayC_true h1
    have hks : k * s ≤ 6 * 24 := by
      have a1 : k * s ≤ 6 * s := Int.mul_le_mul_of_nonneg_right hm.2.1 (by omega)
      omega
    rw [packT_eq h]
    intro b hb
    rcases List.mem_append.1 hb with q | q
    · unfold textM at q
      rcases List.mem_cons.1 q with q | q
      · omega
      · obtain ⟨s', _, r⟩ := List.mem_flatMap.1 q
        exact numB_byte _ _ b r
    · rw [(List.mem_replicate.1 q).2]; decide
  · unfold packT
    rw [if_neg h]
    intro b hb
    cases hb

theorem packT_few {k n s : Int} {l : List Smp} : (packT k n s l).length ≤ 144 := by
  by_cases h : packE k n s l = 0
  · obtain ⟨h1, _, h3⟩ := packE_zero h
    have hm := mayC_true h1
    have hl := packT_length h
    have a1 : k * s ≤ 6 * s := Int.mul_le_mul_of_nonneg_right hm.2.1 (by omega)
    omega
  · unfold packT
    rw [if_neg h]
    simp

theorem parseL_few {bs : List Nat} (h : bs.length ≤ 300) : (parseL bs).length ≤ 100 := by
  by_cases q : parseB bs = true
  · rw [parse_length q]
    unfold parseB at q
    rw [decide_eq_true_iff] at q
    omega
  · unfold parseL
    rw [if_neg q]
    simp

end Go.Proofs.YthhggjakenalpaaGreatDoor.Bt

/- Plain: a device of layer 18: its state, what its calls answer, and what becomes of it; no program is named here. -/
namespace Go.Proofs.YthhggjakenalpaaGreatDoor.Bt
set_option maxRecDepth 100000

/-- A device. -/
structure Dev where
  tx : Nat
  K : Nat
  N : Nat
  S : Nat
  wait : Nat
  most : Nat
  session : Nat
  now : Nat
  snd : Snd
  kept : List Smp
  was : Bool
  acked : Nat

/-- May it be? -/
def mayD (tx k n s wt ms : Int) : Bool := mayL k n s wt ms && isTx tx && decide (4 ≤ k * s)

theorem mayD_true {tx k n s wt ms : Int} (h : mayD tx k n s wt ms = true) : mayL k n s wt ms = true ∧ isTx tx = true ∧ 4 ≤ k * s := by
  simp [mayD] at h
  exact ⟨h.1.1, h.1.2, h.2⟩

/-- What may be; nothing has grown beyond M. -/
structure Dev.Ok (M : Nat) (x : Dev) : Prop where
  may : mayD x.tx x.K x.N x.S x.wait x.most = true
  session : x.session < 256
  now : x.now ≤ M
  acked : x.acked ≤ x.now
  few : x.kept.length ≤ 60
  right : ∀ s ∈ x.kept, rightM s = true
  snd : x.snd.Ok M
  same : x.snd.tx = x.tx ∧ x.snd.K = x.K ∧ x.snd.N = x.N ∧ x.snd.S = x.S ∧ x.snd.wait = x.wait ∧ x.snd.most = x.most

theorem Dev.Ok.more {M M' : Nat} {x : Dev} (h : x.Ok M) (hM : M ≤ M') : x.Ok M' :=
  ⟨h.may, h.session, Nat.le_trans h.now hM, h.acked, h.few, h.right, h.snd.more hM, h.same⟩

theorem Dev.Ok.bounds {M : Nat} {x : Dev} (h : x.Ok M) : (1 ≤ x.K ∧ x.K ≤ 6 ∧ x.K ≤ x.N ∧ x.N ≤ 10 ∧ 1 ≤ x.S ∧ x.S ≤ 24 ∧ 1 ≤ x.wait ∧ x.wait ≤ 100 ∧ 1 ≤ x.most ∧ x.most ≤ 9) ∧ x.tx < 256 ∧ 4 ≤ x.K * x.S ∧ x.K * x.S ≤ 144 := by
  obtain ⟨h1, h2, h3⟩ := mayD_true h.may
  have h4 := mayL_true h1
  have h5 := mayC_true h4.1
  have h6 := isTx_true h2
  refine ⟨by omega, by omega, by exact_mod_cast h3, ?_⟩
  exact Nat.mul_le_mul (show x.K ≤ 6 by omega) (show x.S ≤ 24 by omega)

/-- A new one. -/
def dev0 (tx K N S wait most : Nat) : Dev := ⟨tx, K, N, S, wait, most, 0, 0, snd0 tx K N S wait most, [], false, 0⟩

theorem dev0_ok {tx K N S wait most : Nat} (h : mayD tx K N S wait most = true) : (dev0 tx K N S wait most).Ok 0 := by
  obtain ⟨h1, h2, h3⟩ := mayD_true h
  have h6 := isTx_true h2
  exact ⟨h, Nat.zero_lt_succ _, Nat.le_refl _, Nat.le_refl _, Nat.zero_le _, (fun s hs => by cases hs), snd0_ok h1 (by omega), rfl, rfl, rfl, rfl, rfl, rfl⟩

/-- Take's error. -/
def takeE (x : Dev) (s : Smp) : Int := if rightM s = true then (if x.kept.length < 60 then 0 else 7) else 1

def takeD (x : Dev) (s : Smp) : Dev := if takeE x s = 0 then { x with kept := x.kept ++ [s] } else x

theorem takeE_zero {x : Dev} {s : Smp} (h : takeE x s = 0) : rightM s = true ∧ x.kept.length < 60 := by
  unfold takeE at h
  split at h
  · split at h
    · rename_i q1 q2; exact ⟨q1, q2⟩
    · exact absurd h (by decide)
  · exact absurd h (by decide)

theorem takeD_ok {M : Nat} {x : Dev} (h : x.Ok M) (s : Smp) : (takeD x s).Ok M := by
  unfold takeD
  split
  · rename_i q
    obtain ⟨q1, q2⟩ := takeE_zero q
    refine ⟨h.may, h.session, h.now, h.acked, by simp; omega, fun y hy => ?_, h.snd, h.same⟩
    rcases List.mem_append.1 hy with r | r
    · exact h.right y r
    · rw [List.mem_singleton.1 r]; exact q1
  · exact h

/-- How many samples a text has room for. -/
def fitsD (x : Dev) : Nat := (x.K * x.S - 1) / 3

def manyD (x : Dev) : Nat := min (fitsD x) x.kept.length

def textD (x : Dev) : List Nat := packT x.K x.N x.S (x.kept.take (manyD x))

/-- Behind the first samples' being handed on. -/
def pushY (x : Dev) : Dev := { x with snd := pushC x.snd (textD x), kept := x.kept.drop (manyD x) }

def pushD (x : Dev) : Dev := if x.snd.fl.length < 4 ∧ 0 < x.kept.length then pushY x else x

theorem fitsM_dev {M : Nat} {x : Dev} (h : x.Ok M) : fitsM x.K x.N x.S = (fitsD x : Int) ∧ 1 ≤ fitsD x ∧ fitsD x ≤ 48 := by
  obtain ⟨h1, _, _⟩ := mayD_true h.may
  have b := h.bounds
  unfold fitsM fitsD
  rw [if_pos (mayL_true h1).1]
  have e : (x.K : Int) * (x.S : Int) = ((x.K * x.S : Nat) : Int) := by simp
  rw [e]
  generalize x.K * x.S = q at b ⊢
  omega

theorem packE_dev {M : Nat} {x : Dev} (h : x.Ok M) {m : Nat} (hm : m ≤ fitsD x) : packE x.K x.N x.S (x.kept.take m) = 0 := by
  obtain ⟨h1, _, _⟩ := mayD_true h.may
  have b := h.bounds
  refine packE_ok (mayL_true h1).1 ?_ ?_
  · unfold allR
    rw [List.all_eq_true]
    exact fun s hs => h.right s (List.mem_of_mem_take hs)
  · have e : (x.K : Int) * (x.S : Int) = ((x.K * x.S : Nat) : Int) := by simp
    rw [e]
    have : (x.kept.take m).length ≤ m := by rw [List.length_take]; exact Nat.min_le_left _ _
    unfold fitsD at hm
    generalize x.K * x.S = q at b hm ⊢
    omega

theorem textD_len {M : Nat} {x : Dev} (h : x.Ok M) : (textD x).length = x.K * x.S := by
  have := packT_length (packE_dev h (m := manyD x) (Nat.min_le_left _ _))
  unfold textD
  have e : (x.K : Int) * (x.S : Int) = ((x.K * x.S : Nat) : Int) := by simp
  rw [e] at this
  exact_mod_cast this

theorem byt_packT {k n s : Int} {l : List Smp} (hl : l.length < 256) : Byt (packT k n s l) := by
  intro y hy
  by_cases h : packE k n s l = 0
  · rw [packT_eq h] at hy
    rcases List.mem_append.1 hy with q | q
    · unfold textM at q
      rcases List.mem_cons.1 q with r | r
      · omega
      · obtain ⟨s, _, r⟩ := List.mem_flatMap.1 r
        exact numB_byte _ _ _ r
    · rw [(List.mem_replicate.1 q).2]; decide
  · unfold packT at hy
    rw [if_neg h] at hy
    cases hy

theorem textD_byt {M : Nat} {x : Dev} (h : x.Ok M) : Byt (textD x) := byt_packT (by
  have := h.few
  rw [List.length_take]
  omega)

theorem pushC_same (x : Snd) (bs : List Nat) : (pushC x bs).tx = x.tx ∧ (pushC x bs).K = x.K ∧ (pushC x bs).N = x.N ∧ (pushC x bs).S = x.S ∧ (pushC x bs).wait = x.wait ∧ (pushC x bs).most = x.most := by
  unfold pushC
  split
  · exact ⟨rfl, rfl, rfl, rfl, rfl, rfl⟩
  · exact ⟨rfl, rfl, rfl, rfl, rfl, rfl⟩

theorem pushY_ok {M : Nat} {x : Dev} (h : x.Ok M) : (pushY x).Ok M := by
  refine ⟨h.may, h.session, h.now, h.acked, by show (x.kept.drop _).length ≤ 60; rw [List.length_drop]; have := h.few; omega, fun s hs => h.right s (List.mem_of_mem_drop hs), pushC_ok h.snd (textD_byt h), ?_⟩
  obtain ⟨q1, q2, q3, q4, q5, q6⟩ := pushC_same x.snd (textD x)
  obtain ⟨r1, r2, r3, r4, r5, r6⟩ := h.same
  exact ⟨q1.trans r1, q2.trans r2, q3.trans r3, q4.trans r4, q5.trans r5, q6.trans r6⟩

theorem pushD_ok {M : Nat} {x : Dev} (h : x.Ok M) : (pushD x).Ok M := by
  unfold pushD
  split
  · exact pushY_ok h
  · exact h

/-- Does it greet? -/
def greets (x : Dev) : Bool := !(x.was && decide (x.now - x.acked ≤ x.wait * x.most))

def greetF (x : Dev) : FrV := ⟨x.tx, 16 * (helloG x.snd : Int), 0, 0, 3, [x.session]⟩

def greetL (x : Dev) : List FrV := if greets x = true then [greetF x] else []

/-- A frame's bytes. -/
def frmY (f : FrV) : List Nat := if isFrm f.tx f.sq f.an f.rs f.kd f.data.length = true then frmB (headN f.tx.toNat f.sq.toNat f.an.toNat f.rs.toNat f.kd.toNat) f.data else []

/-- The frames of a tick. -/
def outF (x : Dev) : List FrV := greetL x ++ tickP x.snd x.now

def tickO (x : Dev) : List FrV := outF (pushD x)

def stepD (x : Dev) : Dev := { x with snd := tickC x.snd x.now, now := x.now + 1 }

def tickD (x : Dev) : Dev := stepD (pushD x)

theorem tickC_same (x : Snd) (now : Int) : (tickC x now).tx = x.tx ∧ (tickC x now).K = x.K ∧ (tickC x now).N = x.N ∧ (tickC x now).S = x.S ∧ (tickC x now).wait = x.wait ∧ (tickC x now).most = x.most := ⟨rfl, rfl, rfl, rfl, rfl, rfl⟩

theorem stepD_ok {M : Nat} {x : Dev} (h : x.Ok M) (hM : M ≤ 1000000) : (stepD x).Ok (M + 1) := by
  have hn := h.now
  have ha := h.acked
  refine ⟨h.may, h.session, ?_, ?_, h.few, h.right, tickC_ok h.snd ⟨by omega, by omega⟩, h.same⟩
  · show x.now + 1 ≤ M + 1; omega
  · show x.acked ≤ x.now + 1; omega

theorem tickD_ok {M : Nat} {x : Dev} (h : x.Ok M) (hM : M ≤ 1000000) : (tickD x).Ok (M + 1) := stepD_ok (pushD_ok h) hM

/-- The frame that bytes are. -/
def frV (bs : List Nat) : FrV := ⟨((readB (bs.take 4) / 16777216 : Nat) : Int), ((readB (bs.take 4) / 4096 % 4096 : Nat) : Int), ((readB (bs.take 4) / 512 % 8 : Nat) : Int), ((readB (bs.take 4) / 4 % 128 : Nat) : Int), ((readB (bs.take 4) % 4 : Nat) : Int), (bs.drop 7).take (bs.getD 4 0)⟩

/-- Are they heard? -/
def hearB (x : Dev) (bs : List Nat) : Bool := decide (parseE bs = 0) && hearA x.snd (frV bs)

def hearD (x : Dev) (bs : List Nat) : Dev := if hearB x bs = true then { x with snd := hearC x.snd (frV bs), was := true, acked := x.now } else x

theorem hearC_same (x : Snd) (f : FrV) : (hearC x f).tx = x.tx ∧ (hearC x f).K = x.K ∧ (hearC x f).N = x.N ∧ (hearC x f).S = x.S ∧ (hearC x f).wait = x.wait ∧ (hearC x f).most = x.most := by
  unfold hearC
  split
  · exact ⟨rfl, rfl, rfl, rfl, rfl, rfl⟩
  · exact ⟨rfl, rfl, rfl, rfl, rfl, rfl⟩

theorem hearD_ok {M : Nat} {x : Dev} (h : x.Ok M) (bs : List Nat) : (hearD x bs).Ok (M + 4) := by
  unfold hearD
  split
  · have h1 := h.now
    refine ⟨h.may, h.session, ?_, ?_, h.few, h.right, ?_, ?_⟩
    · show x.now ≤ M + 4; omega
    · show x.now ≤ x.now; omega
    · have q := hearC_ok h.snd (frV bs)
      generalize hearC x.snd (frV bs) = y at q
      exact q
    obtain ⟨q1, q2, q3, q4, q5, q6⟩ := hearC_same x.snd (frV bs)
    obtain ⟨r1, r2, r3, r4, r5, r6⟩ := h.same
    exact ⟨q1.trans r1, q2.trans r2, q3.trans r3, q4.trans r4, q5.trans r5, q6.trans r6⟩
  · exact h.more (by omega)

/-- It begins anew. -/
def anewD (x : Dev) : Dev := { x with session := (x.session + 1) % 256, snd := snd0 x.tx x.K x.N x.S x.wait x.most, kept := [], was := false }

theorem anewD_ok {M : Nat} {x : Dev} (h : x.Ok M) : (anewD x).Ok M := by
  obtain ⟨h1, h2, h3⟩ := mayD_true h.may
  have h6 := isTx_true h2
  exact ⟨h.may, Nat.mod_lt _ (by decide), h.now, h.acked, Nat.zero_le _, (fun s hs => by cases hs), (snd0_ok h1 (by omega)).more (Nat.zero_le _), rfl, rfl, rfl, rfl, rfl, rfl⟩

end Go.Proofs.YthhggjakenalpaaGreatDoor.Bt

/- Plain: a text of samples as bits: fields of 8, 3, 8, 10 and 3. -/
namespace Go.Proofs.YthhggjakenalpaaGreatDoor.Bt
set_option maxRecDepth 100000

/-- Three bytes of a number as bits. -/
theorem unpack_num3 {N : Nat} (h : N < 16777216) : unpack (numB N 3) = fld 24 N := by
  have e : numB N 3 = [N / 65536, N / 256 % 256, N % 256] := by
    simp only [numB, List.range_succ, List.range_zero, List.nil_append, List.map_cons, List.map_nil, List.cons_append]
    simp
    omega
  rw [e]
  simp only [unpack, List.flatMap_cons, List.flatMap_nil, List.append_nil]
  rw [show (24 : Nat) = 8 + 16 from rfl, fld_split 8 16 N, show (16 : Nat) = 8 + 8 from rfl, fld_split 8 8 (N % 2 ^ (8 + 8))]
  congr 2
  · congr 1
    omega
  · congr 1
    omega

/-- A sample's fields. -/
theorem sample_bits {s : Smp} (h : rightM s = true) : fld 3 s.kind.toNat ++ (fld 8 s.tick.toNat ++ (fld 10 s.value.toNat ++ fld 3 0)) = unpack (smB s) := by
  obtain ⟨h1, h2, h3, _⟩ := rightM_true h
  obtain ⟨k, t, v⟩ := s
  obtain ⟨K, rfl⟩ := Int.eq_ofNat_of_zero_le (show 0 ≤ k by simp only at h1; omega)
  obtain ⟨T, rfl⟩ := Int.eq_ofNat_of_zero_le (show 0 ≤ t from h2.1)
  obtain ⟨V, rfl⟩ := Int.eq_ofNat_of_zero_le (show 0 ≤ v from h3.1)
  simp only at h1 h2 h3
  have hN : smN ⟨(K : Int), (T : Int), (V : Int)⟩ = ((K * 256 + T) * 1024 + V) * 8 := by unfold smN; simp only; omega
  unfold smB
  rw [unpack_num3 (smN_lt h), hN]
  simp only [Int.toNat_natCast]
  generalize hM : ((K * 256 + T) * 1024 + V) * 8 = M
  rw [show (24 : Nat) = 3 + 21 from rfl, fld_split 3 21 M, show (21 : Nat) = 8 + 13 from rfl, fld_split 8 13 (M % 2 ^ (8 + 13)), show (13 : Nat) = 10 + 3 from rfl, fld_split 10 3 (M % 2 ^ (8 + (10 + 3)) % 2 ^ (10 + 3))]
  have a1 : M / 2 ^ (8 + (10 + 3)) = K := by omega
  have a2 : M % 2 ^ (8 + (10 + 3)) / 2 ^ (10 + 3) = T := by omega
  have a3 : M % 2 ^ (8 + (10 + 3)) % 2 ^ (10 + 3) / 2 ^ 3 = V := by omega
  have a4 : M % 2 ^ (8 + (10 + 3)) % 2 ^ (10 + 3) % 2 ^ 3 = 0 := by omega
  rw [a1, a2, a3, a4]

/-- A text's fields. -/
def bitsM (l : List Smp) (i : Nat) : List Nat := fld 8 l.length ++ (l.take i).flatMap (fun s => fld 3 s.kind.toNat ++ (fld 8 s.tick.toNat ++ (fld 10 s.value.toNat ++ fld 3 0)))

theorem bitsM_all {l : List Smp} (h : allR l = true) : bitsM l l.length = unpack (textM l) := by
  unfold bitsM textM
  rw [unpack_cons, List.take_length]
  congr 1
  have hr : ∀ s ∈ l, rightM s = true := List.all_eq_true.1 h
  clear h
  induction l with
  | nil => rfl
  | cons s l ih =>
    rw [List.flatMap_cons, List.flatMap_cons, unpack_append, sample_bits (hr s (List.mem_cons_self ..)), ih (fun x hx => hr x (List.mem_cons_of_mem _ hx))]

theorem bitsM_step (l : List Smp) {i : Nat} (hi : i < l.length) : bitsM l (i + 1) = bitsM l i ++ (fld 3 l[i].kind.toNat ++ (fld 8 l[i].tick.toNat ++ (fld 10 l[i].value.toNat ++ fld 3 0))) := by
  unfold bitsM
  rw [List.take_add_one, List.getElem?_eq_getElem hi, List.flatMap_append, List.append_assoc]
  simp

/-- The bits of a text, as bytes. -/
theorem bitsM_pack {l : List Smp} (h : allR l = true) (hl : l.length < 256) : pack (bitsM l l.length) = textM l := by
  rw [bitsM_all h]
  refine pack_unpack _ (fun b hb => ?_)
  unfold textM at hb
  rcases List.mem_cons.1 hb with q | q
  · omega
  · obtain ⟨s, _, r⟩ := List.mem_flatMap.1 q
    exact numB_byte _ _ b r

/-- The bits of three bytes. -/
theorem unpack_at {bs : List Nat} {i : Nat} (h : i + 3 ≤ bs.length) (hY : ∀ b ∈ bs, b < 256) : ((unpack bs).drop (8 * i)).take 24 = fld 24 (readB ((bs.drop i).take 3)) := by
  have e : bs = bs.take i ++ ((bs.drop i).take 3 ++ bs.drop (i + 3)) := by
    rw [show bs.drop (i + 3) = (bs.drop i).drop 3 by rw [List.drop_drop], List.take_append_drop, List.take_append_drop]
  have l1 : (unpack (bs.take i)).length = 8 * i := by rw [unpack_length, List.length_take]; omega
  have l2 : (unpack ((bs.drop i).take 3)).length = 24 := by rw [unpack_length, List.length_take, List.length_drop]; omega
  have s1 : (unpack bs).drop (8 * i) = unpack ((bs.drop i).take 3) ++ unpack (bs.drop (i + 3)) := by
    conv => lhs; rw [e]
    rw [unpack_append, unpack_append, ← l1, List.drop_left]
  have t : (unpack ((bs.drop i).take 3) ++ unpack (bs.drop (i + 3))).take 24 = unpack ((bs.drop i).take 3) := by
    rw [← l2]
    exact List.take_left ..
  rw [s1, t]
  clear t s1 l1 l2 e
  have e3 := take3 bs h
  have hyb : ∀ j, bs.getD j 0 < 256 := fun j => by
    by_cases q : j < bs.length
    · rw [List.getD_eq_getElem?_getD, List.getElem?_eq_getElem q]
      exact hY _ (List.getElem_mem q)
    · rw [List.getD_eq_getElem?_getD, List.getElem?_eq_none (by omega)]
      decide
  rw [e3]
  have q := numB_readBM (hyb i) (hyb (i + 1)) (hyb (i + 2))
  have hlt : readB [bs.getD i 0, bs.getD (i + 1) 0, bs.getD (i + 2) 0] < 16777216 := by
    have a1 := hyb i
    have a2 := hyb (i + 1)
    have a3 := hyb (i + 2)
    have e2 : readB [bs.getD i 0, bs.getD (i + 1) 0, bs.getD (i + 2) 0] = (bs.getD i 0 * 256 + bs.getD (i + 1) 0) * 256 + bs.getD (i + 2) 0 := by simp [readB]
    rw [e2]
    omega
  rw [← unpack_num3 hlt, q]

/-- The four fields of a sample, out of its number. -/
theorem fld24_parts (N : Nat) : fld 24 N = fld 3 (N / 2097152) ++ (fld 8 (N / 8192 % 256) ++ (fld 10 (N / 8 % 1024) ++ fld 3 (N % 8))) := by
  rw [show (24 : Nat) = 3 + 21 from rfl, fld_split 3 21 N, show (21 : Nat) = 8 + 13 from rfl, fld_split 8 13 (N % 2 ^ (8 + 13)), show (13 : Nat) = 10 + 3 from rfl, fld_split 10 3 (N % 2 ^ (8 + (10 + 3)) % 2 ^ (10 + 3))]
  have a1 : N / 2 ^ (8 + (10 + 3)) = N / 2097152 := by omega
  have a2 : N % 2 ^ (8 + (10 + 3)) / 2 ^ (10 + 3) = N / 8192 % 256 := by omega
  have a3 : N % 2 ^ (8 + (10 + 3)) % 2 ^ (10 + 3) / 2 ^ 3 = N / 8 % 1024 := by omega
  have a4 : N % 2 ^ (8 + (10 + 3)) % 2 ^ (10 + 3) % 2 ^ 3 = N % 8 := by omega
  rw [a1, a2, a3, a4]

/-- What an eye reads of a sample's three bytes: each field's number. -/
theorem num_parts {N : Nat} (h : N < 16777216) : num ((fld 24 N).take 3) = N / 2097152 ∧ num (((fld 24 N).drop 3).take 8) = N / 8192 % 256 ∧ num (((fld 24 N).drop 11).take 10) = N / 8 % 1024 ∧ num (((fld 24 N).drop 21).take 3) = N % 8 := by
  rw [fld24_parts]
  have d1 (a b c d : List Nat) (ha : a.length = 3) : (a ++ (b ++ (c ++ d))).drop 3 = b ++ (c ++ d) := by rw [← ha]; exact List.drop_left ..
  have d2 (a b c d : List Nat) (ha : a.length = 3) (hb : b.length = 8) : (a ++ (b ++ (c ++ d))).drop 11 = c ++ d := by
    rw [show (11 : Nat) = 3 + 8 from rfl, ← List.drop_drop, d1 a b c d ha, ← hb]; exact List.drop_left ..
  have d3 (a b c d : List Nat) (ha : a.length = 3) (hb : b.length = 8) (hc : c.length = 10) : (a ++ (b ++ (c ++ d))).drop 21 = d := by
    rw [show (21 : Nat) = 11 + 10 from rfl, ← List.drop_drop, d2 a b c d ha hb, ← hc]; exact List.drop_left ..
  have tk (a b : List Nat) (n : Nat) (ha : a.length = n) : (a ++ b).take n = a := by rw [← ha]; exact List.take_left ..
  have ln (n x : Nat) : (fld n x).length = n := fld_length n x
  rw [d1 _ _ _ _ (ln 3 _), d2 _ _ _ _ (ln 3 _) (ln 8 _), d3 _ _ _ _ (ln 3 _) (ln 8 _) (ln 10 _), tk _ _ _ (ln 3 _), tk _ _ _ (ln 8 _), tk _ _ _ (ln 10 _), List.take_of_length_le (Nat.le_of_eq (ln 3 _)), num_fld, num_fld, num_fld, num_fld]
  refine ⟨?_, ?_, ?_, ?_⟩ <;> omega

end Go.Proofs.YthhggjakenalpaaGreatDoor.Bt

/- Plain: how Decode goes, step by step; no program is named here. -/
namespace Go.Proofs.YthhggjakenalpaaGreatDoor.Bt
set_option maxRecDepth 100000

/-- Which shards of the first t are there, as many as say a text. -/
def thT (K : Nat) (L : List (List Nat)) (t : Nat) : List Nat := ((List.range t).filter (fun i => decide (0 < (L.getD i []).length))).take K

theorem thT_zero (K : Nat) (L : List (List Nat)) : thT K L 0 = [] := by simp [thT]

theorem thT_all (K : Nat) (L : List (List Nat)) : thT K L L.length = decAt K L := rfl

theorem thT_skip {K : Nat} {L : List (List Nat)} {t : Nat} (h : (L.getD t []).length = 0) : thT K L (t + 1) = thT K L t := by
  unfold thT
  rw [List.range_succ, List.filter_append, List.filter_cons, if_neg (by simp only [h]; decide), List.filter_nil, List.append_nil]

theorem thT_push {K : Nat} {L : List (List Nat)} {t : Nat} (h : (L.getD t []).length ≠ 0) (hl : (thT K L t).length < K) : thT K L (t + 1) = thT K L t ++ [t] := by
  unfold thT at hl ⊢
  rw [List.length_take] at hl
  rw [List.range_succ, List.filter_append, List.filter_cons, if_pos (by simp only [decide_eq_true_eq]; omega), List.filter_nil]
  generalize (List.range t).filter (fun i => decide (0 < (L.getD i []).length)) = F at hl ⊢
  rw [List.take_of_length_le (l := F ++ [t]) (by simp; omega), List.take_of_length_le (l := F) (by omega)]

theorem thT_full {K : Nat} {L : List (List Nat)} {t : Nat} (hl : ¬ (thT K L t).length < K) : thT K L (t + 1) = thT K L t := by
  unfold thT at hl ⊢
  rw [List.length_take] at hl
  rw [List.range_succ, List.filter_append]
  generalize (List.range t).filter (fun i => decide (0 < (L.getD i []).length)) = F at hl ⊢
  rw [List.take_append_of_le_length (by omega)]

theorem thT_le (K : Nat) (L : List (List Nat)) (t : Nat) : (thT K L t).length ≤ K := by simp [thT]; omega

theorem thT_byt {K : Nat} {L : List (List Nat)} {t : Nat} (ht : t ≤ 256) : Byt (thT K L t) := fun x hx => by
  have := List.mem_range.1 (List.mem_filter.1 (List.mem_of_mem_take hx)).1
  omega

/-- The bytes that are decoded so far. -/
def DT (K S : Nat) (L : List (List Nat)) (p i j : Nat) : Nat := if j % S < p ∨ (j % S = p ∧ j / S < i) then decB K L (j / S) (j % S) else 0

def rowD (K S : Nat) (L : List (List Nat)) (p i : Nat) : List Nat := (List.range (K * S)).map (DT K S L p i)

theorem rowD_length (K S : Nat) (L : List (List Nat)) (p i : Nat) : (rowD K S L p i).length = K * S := by simp [rowD]

theorem rowD_start (K S : Nat) (L : List (List Nat)) : rowD K S L 0 0 = List.replicate (K * S) 0 := by
  apply List.ext_getElem
  · simp [rowD]
  · intro j h1 h2
    simp only [rowD, List.getElem_map, List.getElem_range, DT, List.getElem_replicate]
    rw [if_neg (by rintro (h | ⟨_, h⟩) <;> exact absurd h (Nat.not_lt_zero _))]

theorem rowD_next {K S : Nat} (L : List (List Nat)) (p : Nat) : rowD K S L p K = rowD K S L (p + 1) 0 := by
  refine List.map_congr_left (fun j hj => ?_)
  have hd : j / S < K := Nat.div_lt_of_lt_mul (by rw [Nat.mul_comm]; exact List.mem_range.1 hj)
  unfold DT
  generalize j / S = a at hd
  generalize j % S = b
  by_cases h : b < p ∨ (b = p ∧ a < K)
  · rw [if_pos h, if_pos (by omega)]
  · rw [if_neg h, if_neg (by omega)]

theorem rowD_end {K S : Nat} (hS : 0 < S) (L : List (List Nat)) : rowD K S L S 0 = decT K S L := by
  refine List.map_congr_left (fun j hj => ?_)
  unfold DT
  rw [if_pos (.inl (Nat.mod_lt j hS))]

theorem rowD_set {α : Type} (f : Nat → α) {K S : Nat} (hS : 0 < S) (L : List (List Nat)) {p i : Nat} (hp : p < S) : ((rowD K S L p i).map f).set (i * S + p) (f (decB K L i p)) = (rowD K S L p (i + 1)).map f := by
  have e1 : (i * S + p) % S = p := by rw [Nat.mul_comm, Nat.mul_add_mod, Nat.mod_eq_of_lt hp]
  have e2 : (i * S + p) / S = i := by rw [Nat.mul_comm, Nat.mul_add_div hS, Nat.div_eq_of_lt hp, Nat.add_zero]
  apply List.ext_getElem
  · simp [rowD]
  · intro j h1 h2
    rw [List.getElem_set]
    simp only [rowD, List.getElem_map, List.getElem_range]
    by_cases e : i * S + p = j
    · rw [if_pos e, ← e]
      unfold DT
      rw [e1, e2, if_pos (.inr ⟨rfl, by omega⟩)]
    · rw [if_neg e]
      unfold DT
      have key : ¬ (j % S = p ∧ j / S = i) := fun ⟨a, b⟩ => e (by rw [← a, ← b, Nat.mul_comm]; exact Nat.div_add_mod j S)
      by_cases h : j % S < p ∨ (j % S = p ∧ j / S < i)
      · rw [if_pos h, if_pos (by omega)]
      · rw [if_neg h, if_neg (by omega)]

/-- Decode's error, in its parts. -/
theorem decE_may {k n s : Int} {L : List (List Nat)} (h : mayC k n s = false) : decE k n s L = 1 := by unfold decE; rw [h]; rfl

theorem decE_many {k n s : Int} {L : List (List Nat)} (h : mayC k n s = true) (hn : ¬ (L.length : Int) = n) : decE k n s L = 4 := by
  unfold decE; rw [if_pos h, if_neg hn]

theorem decE_size {k n s : Int} {L : List (List Nat)} (h : mayC k n s = true) (hn : (L.length : Int) = n) {t : Nat} (ht : t < L.length) (h0 : (L.getD t []).length ≠ 0) (hs : ¬ ((L.getD t []).length : Int) = s) : decE k n s L = 4 := by
  unfold decE
  rw [if_pos h, if_pos hn, if_neg]
  intro ha
  rw [← List.getElem_eq_getD (h := ht) []] at h0 hs
  have := List.all_eq_true.1 ha _ (List.getElem_mem ht)
  simp at this
  rcases this with h1 | h1
  · exact h0 (by rw [h1]; rfl)
  · exact hs h1

theorem all_sizes {s : Int} {L : List (List Nat)} (h : ∀ r, r < L.length → (L.getD r []).length = 0 ∨ ((L.getD r []).length : Int) = s) : L.all (fun r => decide (r.length = 0) || decide ((r.length : Int) = s)) = true := by
  refine List.all_eq_true.2 (fun r hr => ?_)
  obtain ⟨j, hj, rfl⟩ := List.mem_iff_getElem.1 hr
  have := h j hj
  rw [← List.getElem_eq_getD (h := hj) []] at this
  rcases this with h1 | h1
  · rw [decide_eq_true h1]; rfl
  · rw [decide_eq_true h1, Bool.or_true]

theorem decE_few {k n s : Int} {L : List (List Nat)} (h : mayC k n s = true) (hn : (L.length : Int) = n) (ha : ∀ r, r < L.length → (L.getD r []).length = 0 ∨ ((L.getD r []).length : Int) = s) (hk : ¬ k ≤ ((there L).length : Int)) : decE k n s L = 8 := by
  unfold decE
  rw [if_pos h, if_pos hn, if_pos (all_sizes ha), if_neg hk]

theorem decE_ok {k n s : Int} {L : List (List Nat)} (h : mayC k n s = true) (hn : (L.length : Int) = n) (ha : ∀ r, r < L.length → (L.getD r []).length = 0 ∨ ((L.getD r []).length : Int) = s) (hk : k ≤ ((there L).length : Int)) : decE k n s L = 0 := by
  unfold decE
  rw [if_pos h, if_pos hn, if_pos (all_sizes ha), if_pos hk]

theorem decAt_few {K : Nat} {L : List (List Nat)} (h : (decAt K L).length < K) : (there L).length < K := by
  unfold decAt at h
  rw [List.length_take] at h
  omega

theorem decAt_enough {K : Nat} {L : List (List Nat)} (h : ¬ (decAt K L).length < K) : K ≤ (there L).length := by
  unfold decAt at h
  rw [List.length_take] at h
  omega

end Go.Proofs.YthhggjakenalpaaGreatDoor.Bt

/- Plain: a sender beside the texts that were handed in: whose shards its frames carry. -/
namespace Go.Proofs.YthhggjakenalpaaGreatDoor.Bt
set_option maxRecDepth 100000

/-- The texts that were taken, in order; each flight's shards are its text's. -/
structure Txts (tx K N S : Nat) (x : Snd) (T : List (List Nat)) : Prop where
  tx : x.tx = tx
  k : x.K = K
  n : x.N = N
  s : x.S = S
  next : x.next = T.length
  each : ∀ f ∈ x.fl, f.group < T.length ∧ f.rows = encL K N S (T.getD f.group [])
  size : ∀ t ∈ T, Byt t ∧ t.length = K * S

variable {tx K N S : Nat} {x : Snd} {T : List (List Nat)}

theorem Txts.start (tx K N S wt ms : Nat) : Txts tx K N S (snd0 tx K N S wt ms) [] :=
  ⟨rfl, rfl, rfl, rfl, rfl, (fun f hf => by cases hf), (fun t ht => by cases ht)⟩

theorem Txts.tick (h : Txts tx K N S x T) (now : Int) : Txts tx K N S (tickC x now) T := by
  refine ⟨h.tx, h.k, h.n, h.s, h.next, fun f hf => ?_, h.size⟩
  obtain ⟨g, hg, rfl⟩ := List.mem_map.1 hf
  obtain ⟨q1, q2, _⟩ := tickF_parts x now g
  rw [q1, q2]
  exact h.each g hg

theorem Txts.hear (h : Txts tx K N S x T) (f : FrV) : Txts tx K N S (hearC x f) T := by
  unfold hearC
  split
  · refine ⟨h.tx, h.k, h.n, h.s, h.next, fun y hy => ?_, h.size⟩
    obtain ⟨g, hg, rfl⟩ := List.mem_map.1 hy
    obtain ⟨q1, q2, _⟩ := ackF_parts (f.data.getD 0 0) (f.data.getD 1 0) g
    rw [q1, q2]
    exact h.each g (List.mem_filter.1 hg).1
  · exact h

theorem tx_snoc {T : List (List Nat)} {b : List Nat} {i : Nat} (h : i < T.length) : (T ++ [b]).getD i [] = T.getD i [] := by
  rw [List.getD_eq_getElem?_getD, List.getElem?_append_left h, ← List.getD_eq_getElem?_getD]

theorem tx_last (T : List (List Nat)) (b : List Nat) : (T ++ [b]).getD T.length [] = b := by
  rw [List.getD_eq_getElem?_getD, List.getElem?_append_right (Nat.le_refl _)]; simp

theorem Txts.push (h : Txts tx K N S x T) {bs : List Nat} (hY : Byt bs) (hT : T.length < 255) (he : pushE x bs.length = 0) : Txts tx K N S (pushC x bs) (T ++ [bs]) := by
  obtain ⟨q1, q2⟩ := pushE_zero he
  unfold pushC
  rw [if_pos he]
  refine ⟨h.tx, h.k, h.n, h.s, ?_, fun f hf => ?_, fun t ht => ?_⟩
  · show (x.next + 1) % 256 = _
    rw [h.next, List.length_append]
    show (T.length + 1) % 256 = T.length + 1
    exact Nat.mod_eq_of_lt (by omega)
  · rcases List.mem_append.1 hf with q | q
    · obtain ⟨r1, r2⟩ := h.each f q
      rw [tx_snoc r1, List.length_append]
      exact ⟨by omega, r2⟩
    · rw [List.mem_singleton.1 q]
      show x.next < _ ∧ encL x.K x.N x.S bs = encL K N S ((T ++ [bs]).getD x.next [])
      rw [h.next, tx_last, h.k, h.n, h.s, List.length_append]
      exact ⟨by simp, rfl⟩
  · rcases List.mem_append.1 ht with q | q
    · exact h.size t q
    · rw [List.mem_singleton.1 q]
      exact ⟨hY, by rw [q1, h.k, h.s]⟩

theorem pushC_no {bs : List Nat} (he : pushE x bs.length ≠ 0) : pushC x bs = x := by unfold pushC; rw [if_neg he]

/-- What is right of a frame. -/
def RightF (tx K N S : Nat) (T : List (List Nat)) (fr : FrV) : Prop :=
  fr.tx = tx ∧ fr.an = 0 ∧ fr.rs = 0 ∧ ∃ g r : Nat, g < T.length ∧ r < N ∧ fr.sq = 16 * (g : Int) + (r : Int) ∧ ((fr.kd = 2 ∧ fr.data = []) ∨ (fr.kd = 0 ∧ fr.data = (encL K N S (T.getD g [])).getD r []))

theorem Txts.right (h : Txts tx K N S x T) (hN : 1 ≤ N) (now : Int) : ∀ fr ∈ tickP x now, RightF tx K N S T fr := by
  intro fr hf
  unfold tickP at hf
  obtain ⟨f, hfl, hf⟩ := List.mem_flatMap.1 hf
  obtain ⟨e1, e2⟩ := h.each f hfl
  split at hf
  · unfold frmsOf at hf
    split at hf
    · rw [List.mem_singleton.1 hf]
      exact ⟨by rw [h.tx], rfl, rfl, f.group, 0, e1, hN, by simp, .inl ⟨rfl, rfl⟩⟩
    · obtain ⟨r, hr, rfl⟩ := List.mem_map.1 hf
      have hr := List.mem_range.1 hr
      rw [h.n] at hr
      exact ⟨by rw [h.tx], rfl, rfl, f.group, r, e1, hr, rfl, .inr ⟨rfl, by show f.rows.getD r [] = _; rw [e2]⟩⟩
  · cases hf

theorem RightF.frm {fr : FrV} (h : RightF tx K N S T fr) (ht : tx < 256) (hN : N ≤ 10) (hS : S ≤ 24) (hT : T.length ≤ 255) : isFrm fr.tx fr.sq fr.an fr.rs fr.kd fr.data.length = true := by
  obtain ⟨h1, h2, h3, g, r, hg, hr, hs, hk⟩ := h
  have hl : fr.data.length ≤ 60 ∧ (fr.kd = 2 ∨ fr.kd = 0) := by
    rcases hk with ⟨k1, k2⟩ | ⟨k1, k2⟩
    · rw [k2]; exact ⟨by simp, .inl k1⟩
    · rw [k2, encL_row hr]; exact ⟨by omega, .inr k1⟩
  rw [isFrm_iff, h1, h2, h3, hs]
  omega

/-- A tick's frames are few. -/
theorem tickP_few {x : Snd} (hN : 1 ≤ x.N) (now : Int) : (tickP x now).length ≤ x.N * x.fl.length := by
  unfold tickP
  induction x.fl with
  | nil => simp
  | cons f l ih =>
    rw [List.flatMap_cons, List.length_append, List.length_cons, Nat.mul_add, Nat.mul_one]
    have h1 : (if dueF x now f = true then frmsOf x f else []).length ≤ x.N := by
      split
      · rw [frmsOf_length]; split <;> omega
      · simp
    omega

end Go.Proofs.YthhggjakenalpaaGreatDoor.Bt

/- Plain: what goes out at a tick: right frames, of kinds that are its; how many; what is kept. -/
namespace Go.Proofs.YthhggjakenalpaaGreatDoor.Bt
set_option maxRecDepth 100000

variable {M : Nat} {x : Dev}

/-- A frame that a device may send at the place k of a tick. -/
structure SentF (x : Dev) (k : Nat) (f : FrV) : Prop where
  frm : isFrm f.tx f.sq f.an f.rs f.kd f.data.length = true
  tx : f.tx = x.tx
  ack : f.kd ≠ 1
  hello : f.kd = 3 → k = 0 ∧ f.data = [x.session]
  byt : Byt f.data

theorem tickP_sent (h : x.snd.Ok M) (ht : x.snd.tx = x.tx) (now : Int) (k : Nat) : ∀ f ∈ tickP x.snd now, SentF x k f := by
  intro f hf
  have b := h.bounds
  have htx := h.tx
  unfold tickP at hf
  obtain ⟨g, hg, hf⟩ := List.mem_flatMap.1 hf
  have hG := h.each g hg
  have hgr := hG.group
  split at hf
  · unfold frmsOf at hf
    split at hf
    · rw [List.mem_singleton.1 hf]
      refine ⟨?_, by show (x.snd.tx : Int) = x.tx; rw [ht], by show (2 : Int) ≠ 1; decide, fun q => absurd (show (2 : Int) = 3 from q) (by decide), fun y hy => by cases hy⟩
      rw [isFrm_iff]
      simp only [List.length_nil]
      omega
    · obtain ⟨r, hr, rfl⟩ := List.mem_map.1 hf
      have hr := List.mem_range.1 hr
      have hs := hG.size r hr
      refine ⟨?_, by show (x.snd.tx : Int) = x.tx; rw [ht], by show (0 : Int) ≠ 1; decide, fun q => absurd (show (0 : Int) = 3 from q) (by decide), ?_⟩
      · rw [isFrm_iff]
        simp only [hs]
        omega
      · show Byt (g.rows.getD r [])
        have hl : r < g.rows.length := by rw [hG.rows]; exact hr
        rw [List.getD_eq_getElem?_getD, List.getElem?_eq_getElem hl]
        exact hG.byt _ (List.getElem_mem hl)
  · cases hf

theorem helloG_lt (h : x.snd.Ok M) : helloG x.snd < 256 := by
  unfold helloG
  split
  · exact h.next
  · rename_i f l e
    exact (h.each f (by rw [e]; exact List.mem_cons_self)).group

theorem greetF_sent (h : x.Ok M) : SentF x 0 (greetF x) := by
  have h1 := h.bounds.2.1
  have h2 := helloG_lt h.snd
  have h3 := h.session
  refine ⟨?_, rfl, by show (3 : Int) ≠ 1; decide, fun _ => ⟨rfl, rfl⟩, fun y hy => ?_⟩
  · unfold greetF
    rw [isFrm_iff]
    simp only [List.length_singleton]
    omega
  · rw [List.mem_singleton.1 hy]; exact h3

theorem outF_sent (h : x.Ok M) (k : Nat) (hk : k < (outF x).length) : SentF x k ((outF x).getD k ⟨0, 0, 0, 0, 0, []⟩) := by
  rw [List.getD_eq_getElem?_getD, List.getElem?_eq_getElem hk]
  show SentF x k ((outF x)[k])
  have hm : (outF x)[k] ∈ outF x := List.getElem_mem hk
  by_cases hg : greets x = true
  · cases k with
    | zero =>
      have e : (outF x)[0] = greetF x := by
        have : outF x = greetF x :: tickP x.snd x.now := by unfold outF greetL; rw [if_pos hg]; rfl
        simp [this]
      rw [e]; exact greetF_sent h
    | succ j =>
      refine tickP_sent h.snd h.same.1 x.now (j + 1) _ ?_
      have : outF x = greetF x :: tickP x.snd x.now := by unfold outF greetL; rw [if_pos hg]; rfl
      have e : (outF x)[j + 1]? = (tickP x.snd x.now)[j]? := by rw [this]; rfl
      rw [List.getElem?_eq_getElem hk] at e
      exact List.mem_of_getElem? e.symm
  · refine tickP_sent h.snd h.same.1 x.now k _ ?_
    have : outF x = tickP x.snd x.now := by unfold outF greetL; rw [if_neg hg]; rfl
    have hm' : ∀ y ∈ outF x, y ∈ tickP x.snd x.now := fun y hy => this ▸ hy
    exact hm' _ hm

theorem pushD_same : (pushD x).tx = x.tx ∧ (pushD x).session = x.session ∧ (pushD x).now = x.now ∧ (pushD x).was = x.was ∧ (pushD x).acked = x.acked ∧ (pushD x).K = x.K ∧ (pushD x).N = x.N ∧ (pushD x).S = x.S ∧ (pushD x).wait = x.wait ∧ (pushD x).most = x.most := by
  unfold pushD
  split
  · exact ⟨rfl, rfl, rfl, rfl, rfl, rfl, rfl, rfl, rfl, rfl⟩
  · exact ⟨rfl, rfl, rfl, rfl, rfl, rfl, rfl, rfl, rfl, rfl⟩

theorem outF_len (h : x.Ok M) : (outF x).length ≤ 41 := by
  have b := h.snd.bounds
  have h1 := tickP_few (x := x.snd) (by omega) x.now
  have h2 := h.snd.few
  have h3 : x.snd.N * x.snd.fl.length ≤ 10 * 4 := Nat.mul_le_mul (by omega) h2
  have h4 : (greetL x).length ≤ 1 := by unfold greetL; split <;> simp
  unfold outF
  rw [List.length_append]
  omega

theorem tickO_len (h : x.Ok M) : (tickO x).length ≤ 41 := outF_len (pushD_ok h)

theorem tickO_sent (h : x.Ok M) (k : Nat) (hk : k < (tickO x).length) : SentF (tickD x) k ((tickO x).getD k ⟨0, 0, 0, 0, 0, []⟩) := by
  have q := outF_sent (pushD_ok h) k hk
  exact ⟨q.frm, q.tx, q.ack, q.hello, q.byt⟩

theorem takeD_tx (x : Dev) (s : Smp) : (takeD x s).tx = x.tx := by unfold takeD; split <;> rfl
theorem hearD_tx (x : Dev) (bs : List Nat) : (hearD x bs).tx = x.tx := by unfold hearD; split <;> rfl
theorem anewD_tx (x : Dev) : (anewD x).tx = x.tx := rfl
theorem tickD_tx (x : Dev) : (tickD x).tx = x.tx := pushD_same.1

theorem rows_getD (L : List FrV) {k : Nat} (hk : k < L.length) : (L.map frmY).getD k [] = frmY (L.getD k ⟨0, 0, 0, 0, 0, []⟩) := by
  rw [List.getD_eq_getElem?_getD, List.getElem?_map, List.getD_eq_getElem?_getD, List.getElem?_eq_getElem hk]
  rfl

/-! ### Without flights -/

theorem tickP_nil {s : Snd} (h : s.fl = []) (now : Int) : tickP s now = [] := by unfold tickP; rw [h]; rfl

theorem tickC_nil {s : Snd} (h : s.fl = []) (now : Int) : tickC s now = s := by
  cases s
  simp only at h
  subst h
  rfl

/-- A device that has nothing, and was never acked: it greets. -/
structure Bare (x : Dev) : Prop where
  fl : x.snd.fl = []
  next : x.snd.next = 0
  kept : x.kept = []
  was : x.was = false

theorem Bare.push (h : Bare x) : pushD x = x := by
  unfold pushD
  rw [if_neg]
  rw [h.kept]
  simp

theorem Bare.greets (h : Bare x) : Bt.greets x = true := by unfold Bt.greets; rw [h.was]; rfl

theorem Bare.out (h : Bare x) : tickO x = [⟨x.tx, 0, 0, 0, 3, [x.session]⟩] := by
  unfold tickO outF greetL
  rw [h.push, if_pos h.greets, tickP_nil h.fl]
  unfold greetF helloG
  rw [h.fl]
  simp [h.next]

theorem Bare.tick (h : Bare x) : tickD x = { x with now := x.now + 1 } := by
  unfold tickD stepD
  rw [h.push, tickC_nil h.fl]

theorem Bare.ticked (h : Bare x) : Bare (tickD x) := by
  rw [h.tick]
  exact ⟨h.fl, h.next, h.kept, h.was⟩

theorem anew_bare (x : Dev) : Bare (anewD x) := ⟨rfl, rfl, rfl, rfl⟩

theorem dev0_bare (tx K N S wait most : Nat) : Bare (dev0 tx K N S wait most) := ⟨rfl, rfl, rfl, rfl⟩

/-! ### What is kept -/

theorem tick_keeps {x : Dev} (h : x.Ok M) (hf : x.snd.fl = []) : (tickD x).kept.length = x.kept.length - fitsD x ∧ (tickD x).snd.fl.length = if 0 < x.kept.length then 1 else 0 := by
  have hl : (tickD x).snd.fl.length = (pushD x).snd.fl.length := by
    show (List.map _ (pushD x).snd.fl).length = _
    rw [List.length_map]
  have hk : (tickD x).kept = (pushD x).kept := rfl
  rw [hl, hk]
  unfold pushD
  by_cases h0 : 0 < x.kept.length
  · rw [if_pos ⟨by rw [hf]; decide, h0⟩, if_pos h0]
    refine ⟨?_, ?_⟩
    · show (x.kept.drop (manyD x)).length = _
      rw [List.length_drop]
      unfold manyD
      omega
    · show (pushC x.snd (textD x)).fl.length = 1
      have e : pushE x.snd (textD x).length = 0 := by
        unfold pushE
        rw [textD_len h, if_pos (by rw [h.same.2.1, h.same.2.2.2.1]), if_pos (by rw [hf]; decide)]
      unfold pushC
      rw [if_pos e, hf]
      rfl
  · rw [if_neg (fun q => h0 q.2), if_neg h0, hf]
    exact ⟨by omega, rfl⟩

end Go.Proofs.YthhggjakenalpaaGreatDoor.Bt

/- Plain: a tick under way, flight by flight; which flights are due. -/
namespace Go.Proofs.YthhggjakenalpaaGreatDoor
set_option maxRecDepth 100000
open Bt

/-- The frames of the first so many flights. -/
def tickT (x : Snd) (now : Int) (P : Nat → Flt) (t : Nat) : List FrV := ((List.range t).map P).flatMap (fun f => if dueF x now f = true then frmsOf x f else [])

theorem tickT_succ (x : Snd) (now : Int) (P : Nat → Flt) (t : Nat) : tickT x now P (t + 1) = tickT x now P t ++ (if dueF x now (P t) = true then frmsOf x (P t) else []) := by
  unfold tickT
  rw [List.range_succ, List.map_append, List.flatMap_append]
  simp

theorem tickT_few (x : Snd) (now : Int) (P : Nat → Flt) {t : Nat} (ht : t ≤ 4) (hN : 1 ≤ x.N ∧ x.N ≤ 10) : (tickT x now P t).length ≤ 100 := by
  have h : ∀ t, (tickT x now P t).length ≤ 10 * t := fun t => by
    induction t with
    | zero => simp [tickT]
    | succ t ih =>
      rw [tickT_succ, List.length_append]
      have : (if dueF x now (P t) = true then frmsOf x (P t) else []).length ≤ 10 := by
        split
        · rw [frmsOf_length]; split <;> omega
        · simp
      omega
  have := h t
  omega

/-- The flights, the first so many behind the tick. -/
def tkP (x : Snd) (now : Int) (P : Nat → Flt) (t : Nat) (i : Nat) : Flt := if i < t then tickF x now (P i) else P i


/-- How many of the first so many are due. -/
def dueN (x : Snd) (now : Int) (P : Nat → Flt) (t : Nat) : Nat := ((List.range t).filter (fun i => dueF x now (P i))).length

/-- The flight of a round. -/
def dueAt (x : Snd) (now : Int) (P : Nat → Flt) (n c : Nat) : Nat := ((List.range n).filter (fun i => dueF x now (P i))).getD c 0

theorem dueN_zero (x : Snd) (now : Int) (P : Nat → Flt) : dueN x now P 0 = 0 := rfl

theorem dueN_succ (x : Snd) (now : Int) (P : Nat → Flt) (t : Nat) : dueN x now P (t + 1) = dueN x now P t + (if dueF x now (P t) = true then 1 else 0) := by
  unfold dueN
  rw [List.range_succ, List.filter_append, List.length_append, List.filter_cons, List.filter_nil]
  cases dueF x now (P t) <;> rfl

theorem dueN_mono (x : Snd) (now : Int) (P : Nat → Flt) {s t : Nat} (h : s ≤ t) : dueN x now P s ≤ dueN x now P t := by
  induction t with
  | zero => obtain rfl : s = 0 := by omega
            exact Nat.le_refl _
  | succ t ih =>
    by_cases e : s = t + 1
    · subst e; exact Nat.le_refl _
    · have := ih (by omega)
      rw [dueN_succ]
      omega

theorem dueAt_due (x : Snd) (now : Int) (P : Nat → Flt) {n t : Nat} (ht : t < n) (hd : dueF x now (P t) = true) : dueAt x now P n (dueN x now P t) = t := by
  induction n with
  | zero => omega
  | succ n ih =>
    unfold dueAt
    rw [List.range_succ, List.filter_append]
    by_cases e : t = n
    · subst e
      rw [List.filter_cons, List.filter_nil, if_pos hd, List.getD_eq_getElem?_getD]
      unfold dueN
      rw [List.getElem?_append_right (Nat.le_refl _)]
      simp
    · have h := ih (by omega)
      unfold dueAt at h
      have hl : dueN x now P t < ((List.range n).filter (fun i => dueF x now (P i))).length := by
        have h1 := dueN_succ x now P t
        rw [if_pos hd] at h1
        have h2 := dueN_mono x now P (s := t + 1) (t := n) (by omega)
        unfold dueN at h2 h1 ⊢
        omega
      rw [List.getD_eq_getElem?_getD, List.getElem?_append_left hl, ← List.getD_eq_getElem?_getD]
      exact h

theorem dueAt_spec (x : Snd) (now : Int) (P : Nat → Flt) {n c : Nat} (hc : c < dueN x now P n) : dueAt x now P n c < n ∧ dueF x now (P (dueAt x now P n c)) = true ∧ dueN x now P (dueAt x now P n c) = c := by
  have h : ∃ t, t < n ∧ dueF x now (P t) = true ∧ dueN x now P t = c := by
    induction n with
    | zero => rw [dueN_zero] at hc; omega
    | succ n ih =>
      by_cases e : c < dueN x now P n
      · obtain ⟨t, h1, h2, h3⟩ := ih e
        exact ⟨t, by omega, h2, h3⟩
      · rw [dueN_succ] at hc
        by_cases hd : dueF x now (P n) = true
        · rw [if_pos hd] at hc
          exact ⟨n, by omega, hd, by omega⟩
        · rw [if_neg hd] at hc
          omega
  obtain ⟨t, h1, h2, h3⟩ := h
  have e := dueAt_due x now P h1 h2
  rw [h3] at e
  rw [e]
  exact ⟨h1, h2, h3⟩

/-- Between two flights that are due nothing is done. -/
theorem tkP_same (x : Snd) (now : Int) (P : Nat → Flt) {s t : Nat} (h : dueN x now P s = dueN x now P t) : tkP x now P s = tkP x now P t ∧ tickT x now P s = tickT x now P t := by
  have key : ∀ s t, s ≤ t → dueN x now P s = dueN x now P t → tkP x now P s = tkP x now P t ∧ tickT x now P s = tickT x now P t := by
    intro s t hst
    induction t with
    | zero => intro _; obtain rfl : s = 0 := by omega
              exact ⟨rfl, rfl⟩
    | succ t ih =>
      intro h
      by_cases e : s = t + 1
      · subst e; exact ⟨rfl, rfl⟩
      · have hm := dueN_mono x now P (s := s) (t := t) (by omega)
        have h1 := dueN_succ x now P t
        by_cases hd : dueF x now (P t) = true
        · rw [if_pos hd] at h1; omega
        · rw [if_neg hd] at h1
          obtain ⟨q1, q2⟩ := ih (by omega) (by omega)
          refine ⟨q1.trans (funext fun i => ?_), by rw [q2, tickT_succ, if_neg hd, List.append_nil]⟩
          unfold tkP
          by_cases e2 : i = t
          · subst e2
            rw [if_neg (Nat.lt_irrefl _), if_pos (Nat.lt_succ_self _)]
            unfold tickF
            rw [if_neg hd]
          · by_cases e3 : i < t
            · rw [if_pos e3, if_pos (by omega)]
            · rw [if_neg e3, if_neg (by omega)]
  rcases Nat.le_total s t with q | q
  · exact key s t q h
  · have := key t s q h.symm
    exact ⟨this.1.symm, this.2.symm⟩

theorem tick_all {x : Snd} {now : Int} {P : Nat → Flt} {n : Nat} (h : x.fl = (List.range n).map P) : tickP x now = tickT x now P n ∧ (tickC x now).fl = (List.range n).map (tkP x now P n) := by
  refine ⟨by unfold tickP tickT; rw [h], ?_⟩
  show x.fl.map (tickF x now) = _
  rw [h, List.map_map]
  apply List.map_congr_left
  intro i hi
  have := List.mem_range.1 hi
  unfold tkP
  rw [if_pos this]
  rfl

end Go.Proofs.YthhggjakenalpaaGreatDoor

/- Plain: which flights an ack lets go, and how many of them are lost. -/
namespace Go.Proofs.YthhggjakenalpaaGreatDoor
set_option maxRecDepth 100000
open Bt

/-- The flights that stay, of the first so many. -/
def keepI (base : Nat) (P : Nat → Flt) (t : Nat) : List Nat := (List.range t).filter (fun i => !behindA base (P i).group)

/-- How many of the first so many are lost. -/
def lostI (base : Nat) (P : Nat → Flt) (t : Nat) : Nat := ((List.range t).filter (fun i => behindA base (P i).group && (P i).gone)).length

theorem keepI_succ (base : Nat) (P : Nat → Flt) (t : Nat) : keepI base P (t + 1) = keepI base P t ++ (if behindA base (P t).group = true then [] else [t]) := by
  unfold keepI
  rw [List.range_succ, List.filter_append]
  congr 1
  rw [List.filter_cons, List.filter_nil]
  cases behindA base (P t).group <;> rfl

theorem lostI_succ (base : Nat) (P : Nat → Flt) (t : Nat) : lostI base P (t + 1) = lostI base P t + (if (behindA base (P t).group && (P t).gone) = true then 1 else 0) := by
  unfold lostI
  rw [List.range_succ, List.filter_append, List.length_append]
  congr 1
  rw [List.filter_cons, List.filter_nil]
  cases (behindA base (P t).group && (P t).gone) <;> rfl

theorem keepI_le (base : Nat) (P : Nat → Flt) (t : Nat) : (keepI base P t).length ≤ t := by
  have := List.length_filter_le (fun i => !behindA base (P i).group) (List.range t)
  simpa [keepI] using this

theorem lostI_le (base : Nat) (P : Nat → Flt) (t : Nat) : lostI base P t ≤ t := by
  have := List.length_filter_le (fun i => behindA base (P i).group && (P i).gone) (List.range t)
  simpa [lostI] using this

theorem keepI_lt {base : Nat} {P : Nat → Flt} {t i : Nat} (h : i ∈ keepI base P t) : i < t := List.mem_range.1 (List.mem_filter.1 h).1

theorem filter_map_range (n : Nat) (P : Nat → Flt) (f : Flt → Bool) : ((List.range n).map P).filter f = ((List.range n).filter (fun i => f (P i))).map P := by
  rw [List.filter_map]; rfl

theorem map_getD (I : List Nat) (f : Nat → Flt) : I.map f = (List.range I.length).map (fun k => f (I.getD k 0)) := by
  apply List.ext_getElem
  · simp
  · intro i h1 h2
    simp only [List.getElem_map, List.getElem_range]
    congr 1
    rw [List.getD_eq_getElem?_getD, List.getElem?_eq_getElem (by simpa using h1)]
    rfl

/-- The flights that are behind go. -/
def letC (x : Snd) (base : Nat) : Snd := { x with lost := x.lost + (x.fl.filter (fun f => behindA base f.group && f.gone)).length, fl := x.fl.filter (fun f => !behindA base f.group) }

theorem ackC_let (x : Snd) (base bits : Nat) : ackC x base bits = { letC x base with fl := (letC x base).fl.map (ackF base bits) } := rfl

theorem letC_ok {M : Nat} {x : Snd} (h : x.Ok M) (base : Nat) : (letC x base).Ok (M + 4) := by
  have hf := h.few
  have hl : (x.fl.filter (fun f => behindA base f.group && f.gone)).length ≤ 4 := Nat.le_trans (List.length_filter_le _ _) hf
  refine ⟨h.may, h.tx, h.next, Nat.le_trans (List.length_filter_le _ _) hf, ?_, fun f hf => h.each f (List.mem_filter.1 hf).1, fun f hf => ?_, fun f hf => h.last f (List.mem_filter.1 hf).1⟩
  · show x.lost + _ ≤ M + 4
    have := h.lost
    omega
  · have := h.sent f (List.mem_filter.1 hf).1
    omega

end Go.Proofs.YthhggjakenalpaaGreatDoor

/- Plain: a collector of layer 7: its state, what its calls answer, and what becomes of it; no program is named here. -/
namespace Go.Proofs.YthhggjakenalpaaGreatDoor.Bt
set_option maxRecDepth 100000

/-- A collector: its code, its base, its four groups' shards, which were given up. -/
structure Col where
  K : Nat
  N : Nat
  S : Nat
  base : Nat
  g : Nat → List (List Nat)
  gone : Nat → Bool

/-- What may be. -/
structure Col.Ok (x : Col) : Prop where
  may : mayC x.K x.N x.S = true
  base : x.base < 256
  len : ∀ i, i < 4 → (x.g i).length = x.N
  size : ∀ i, i < 4 → ∀ r, r < x.N → ((x.g i).getD r []).length = 0 ∨ ((x.g i).getD r []).length = x.S
  byt : ∀ i, i < 4 → BytL (x.g i)

theorem Col.Ok.bounds {x : Col} (h : x.Ok) : 1 ≤ x.K ∧ x.K ≤ 6 ∧ x.K ≤ x.N ∧ x.N ≤ 10 ∧ 1 ≤ x.S ∧ x.S ≤ 24 := by
  have := mayC_true h.may; omega

/-- A new one. -/
def col0 (K N S base : Nat) : Col := ⟨K, N, S, base, fun _ => List.replicate N [], fun _ => false⟩

theorem getD_replicate_nil (n r : Nat) : (List.replicate n ([] : List Nat)).getD r [] = [] := by
  rw [List.getD_eq_getElem?_getD, List.getElem?_replicate]
  split <;> rfl

theorem bytL_replicate (n : Nat) : BytL (List.replicate n []) := fun x hx => by
  rw [(List.mem_replicate.1 hx).2]; exact Byt.nil

theorem col0_ok {K N S base : Nat} (h : mayC K N S = true) (hb : base < 256) : (col0 K N S base).Ok :=
  ⟨h, hb, fun _ _ => by simp [col0], fun _ _ r _ => .inl (by simp only [col0]; rw [getD_replicate_nil]; rfl), fun _ _ => bytL_replicate N⟩

/-- How many shards are there. -/
def cnt (L : List (List Nat)) : Nat := (there L).length

theorem there_empty (n : Nat) : there (List.replicate n []) = [] := by
  unfold there
  refine List.filter_eq_nil_iff.2 (fun r _ => ?_)
  rw [getD_replicate_nil]; simp

theorem cnt_empty (n : Nat) : cnt (List.replicate n []) = 0 := by unfold cnt; rw [there_empty]; rfl

/-- How far a group is, as a number. -/
def farN (x : Col) (g : Int) : Nat := (farA x.base g).toNat

/-- A group's error. -/
def placeE (x : Col) (g : Int) : Int := if behindA x.base g = true then 9 else if openA x.base g = true then 0 else 8

theorem open_far {x : Col} {g : Int} (h : openA x.base g = true) : farA x.base g = (farN x g : Int) ∧ farN x g < 4 := by
  simp [openA] at h
  unfold farN
  omega

/-- Shard's error. -/
def shardE (x : Col) (g p : Int) (len : Nat) : Int :=
  if isG g = true ∧ 0 ≤ p ∧ p < x.N then (if len = x.S then (if placeE x g = 0 then (if 0 < ((x.g (farN x g)).getD p.toNat []).length then 9 else 0) else placeE x g) else 4) else 1

/-- A shard is there. -/
def putS (x : Col) (i p : Nat) (bs : List Nat) : Col := { x with g := fun j => if j = i then (x.g i).set p bs else x.g j }

/-- What becomes of it. -/
def shardC (x : Col) (g p : Int) (bs : List Nat) : Col := if shardE x g p bs.length = 0 then putS x (farN x g) p.toNat bs else x

/-- Skip's error. -/
def skipE (x : Col) (g : Int) : Int := if isG g = true then (if placeE x g = 0 then (if x.gone (farN x g) = true then 9 else 0) else placeE x g) else 1

def goneS (x : Col) (i : Nat) : Col := { x with gone := fun j => if j = i then true else x.gone j }

def skipC (x : Col) (g : Int) : Col := if skipE x g = 0 then goneS x (farN x g) else x

/-- Is a group ready? -/
def rdy (x : Col) (i : Nat) : Bool := x.gone i || decide (x.K ≤ cnt (x.g i))

def bitN (b : Bool) : Nat := if b = true then 1 else 0

def readyN (x : Col) : Nat := ((bitN (rdy x 3) * 2 + bitN (rdy x 2)) * 2 + bitN (rdy x 1)) * 2 + bitN (rdy x 0)

def haveN (x : Col) (g : Int) : Nat := if openA x.base g = true then cnt (x.g (farN x g)) else 0

/-- The next one. -/
def shift (x : Col) : Col := { x with base := (x.base + 1) % 256, g := fun i => if i = 3 then List.replicate x.N [] else x.g (i + 1), gone := fun i => if i = 3 then false else x.gone (i + 1) }

/-- A part: its group, whether it is a gap, its text. -/
structure Prt where
  group : Nat
  gap : Bool
  data : List Nat
  deriving DecidableEq

def partOf (x : Col) : Prt := if x.K ≤ cnt (x.g 0) then ⟨x.base, false, decT x.K x.S (x.g 0)⟩ else ⟨x.base, true, []⟩

/-- So many steps on. -/
def shiftN : Nat → Col → Col
  | 0, x => x
  | n + 1, x => shift (shiftN n x)

/-- How many are due, of so many. -/
def dueM : Nat → Col → Nat
  | 0, _ => 0
  | n + 1, x => if rdy x 0 = true then 1 + dueM n (shift x) else 0

def dueP (x : Col) : List Prt := (List.range (dueM 4 x)).map (fun t => partOf (shiftN t x))

def dueC (x : Col) : Col := shiftN (dueM 4 x) x

theorem shiftN_shift (n : Nat) (x : Col) : shiftN n (shift x) = shiftN (n + 1) x := by
  induction n with
  | zero => rfl
  | succ n ih => show shift (shiftN n (shift x)) = shift (shiftN (n + 1) x); rw [ih]

theorem dueM_rdy (n : Nat) (x : Col) (t : Nat) (h : t < dueM n x) : rdy (shiftN t x) 0 = true := by
  induction n generalizing x t with
  | zero => exact absurd h (Nat.not_lt_zero _)
  | succ n ih =>
    unfold dueM at h
    split at h
    · rename_i hr
      cases t with
      | zero => exact hr
      | succ t => rw [← shiftN_shift]; exact ih (shift x) t (by omega)
    · exact absurd h (Nat.not_lt_zero _)

theorem dueM_end (n : Nat) (x : Col) (h : dueM n x < n) : rdy (shiftN (dueM n x) x) 0 = false := by
  induction n generalizing x with
  | zero => exact absurd h (Nat.not_lt_zero _)
  | succ n ih =>
    unfold dueM at h ⊢
    split
    · rename_i hr
      rw [if_pos hr] at h
      rw [Nat.add_comm, ← shiftN_shift]
      exact ih (shift x) (by omega)
    · rename_i hr
      simpa [shiftN] using hr

theorem dueM_le (n : Nat) (x : Col) : dueM n x ≤ n := by
  induction n generalizing x with
  | zero => exact Nat.le_refl _
  | succ n ih =>
    unfold dueM
    split
    · have := ih (shift x); omega
    · omega

/-- What comes behind so many steps. -/
theorem shiftN_parts (t : Nat) (x : Col) : (shiftN t x).K = x.K ∧ (shiftN t x).N = x.N ∧ (shiftN t x).S = x.S ∧ (shiftN t x).base % 256 = (x.base + t) % 256 ∧
    (∀ i, i < 4 → (shiftN t x).g i = if i + t < 4 then x.g (i + t) else List.replicate x.N []) ∧ (∀ i, i < 4 → (shiftN t x).gone i = if i + t < 4 then x.gone (i + t) else false) := by
  induction t with
  | zero => exact ⟨rfl, rfl, rfl, rfl, fun i hi => by rw [if_pos (by omega)]; rfl, fun i hi => by rw [if_pos (by omega)]; rfl⟩
  | succ t ih =>
    obtain ⟨h1, h2, h3, h4, h5, h6⟩ := ih
    refine ⟨h1, h2, h3, ?_, fun i hi => ?_, fun i hi => ?_⟩
    · show ((shiftN t x).base + 1) % 256 % 256 = _
      omega
    · show (if i = 3 then List.replicate (shiftN t x).N [] else (shiftN t x).g (i + 1)) = _
      by_cases e : i = 3
      · rw [if_pos e, if_neg (by omega), h2]
      · rw [if_neg e, h5 (i + 1) (by omega)]
        by_cases q : i + 1 + t < 4
        · rw [if_pos q, if_pos (by omega), show i + 1 + t = i + (t + 1) by omega]
        · rw [if_neg q, if_neg (by omega)]
    · show (if i = 3 then false else (shiftN t x).gone (i + 1)) = _
      by_cases e : i = 3
      · rw [if_pos e, if_neg (by omega)]
      · rw [if_neg e, h6 (i + 1) (by omega)]
        by_cases q : i + 1 + t < 4
        · rw [if_pos q, if_pos (by omega), show i + 1 + t = i + (t + 1) by omega]
        · rw [if_neg q, if_neg (by omega)]

theorem rdy_empty {x : Col} (hK : 1 ≤ x.K) {i : Nat} (hg : x.g i = List.replicate x.N []) (hn : x.gone i = false) : rdy x i = false := by
  unfold rdy
  rw [hg, hn, cnt_empty]
  simp
  omega

/-- Behind Due the base isn't ready. -/
theorem dueC_base {x : Col} (hK : 1 ≤ x.K) : rdy (dueC x) 0 = false := by
  unfold dueC
  by_cases h : dueM 4 x < 4
  · exact dueM_end 4 x h
  · have e : dueM 4 x = 4 := by have := dueM_le 4 x; omega
    rw [e]
    obtain ⟨h1, h2, _, _, h5, h6⟩ := shiftN_parts 4 x
    refine rdy_empty (by rw [h1]; exact hK) (by rw [h5 0 (by omega), if_neg (by omega), h2]) (by rw [h6 0 (by omega), if_neg (by omega)])

theorem shift_ok {x : Col} (h : x.Ok) : (shift x).Ok := by
  refine ⟨h.may, Nat.mod_lt _ (by decide), fun i hi => ?_, fun i hi r hr => ?_, fun i hi => ?_⟩
  · show (if i = 3 then List.replicate x.N [] else x.g (i + 1)).length = x.N
    by_cases e : i = 3
    · rw [if_pos e]; simp
    · rw [if_neg e]; exact h.len _ (by omega)
  · show ((if i = 3 then List.replicate x.N [] else x.g (i + 1)).getD r []).length = 0 ∨ ((if i = 3 then List.replicate x.N [] else x.g (i + 1)).getD r []).length = x.S
    by_cases e : i = 3
    · rw [if_pos e, getD_replicate_nil]; exact .inl rfl
    · rw [if_neg e]; exact h.size _ (by omega) r hr
  · show BytL (if i = 3 then List.replicate x.N [] else x.g (i + 1))
    by_cases e : i = 3
    · rw [if_pos e]; exact bytL_replicate _
    · rw [if_neg e]; exact h.byt _ (by omega)

theorem shiftN_ok {x : Col} (h : x.Ok) (n : Nat) : (shiftN n x).Ok := by
  induction n with
  | zero => exact h
  | succ n ih => exact shift_ok ih

theorem getD_set_row (L : List (List Nat)) (p r : Nat) (bs : List Nat) (hp : p < L.length) : (L.set p bs).getD r [] = if r = p then bs else L.getD r [] := by
  rw [List.getD_eq_getElem?_getD, List.getElem?_set]
  by_cases e : p = r
  · rw [if_pos e, if_pos e.symm, if_pos hp]; rfl
  · rw [if_neg e, if_neg (fun q => e q.symm)]; rfl

theorem putS_ok {x : Col} (h : x.Ok) {i p : Nat} (hi : i < 4) (hp : p < x.N) {bs : List Nat} (hl : bs.length = x.S) (hb : Byt bs) : (putS x i p bs).Ok := by
  refine ⟨h.may, h.base, fun j hj => ?_, fun j hj r hr => ?_, fun j hj => ?_⟩
  · show (if j = i then (x.g i).set p bs else x.g j).length = x.N
    by_cases e : j = i
    · rw [if_pos e, List.length_set]; exact h.len i hi
    · rw [if_neg e]; exact h.len j hj
  · show ((if j = i then (x.g i).set p bs else x.g j).getD r []).length = 0 ∨ ((if j = i then (x.g i).set p bs else x.g j).getD r []).length = x.S
    by_cases e : j = i
    · rw [if_pos e, getD_set_row _ _ _ _ (by rw [h.len i hi]; exact hp)]
      by_cases q : r = p
      · rw [if_pos q]; exact .inr hl
      · rw [if_neg q]; exact h.size i hi r hr
    · rw [if_neg e]; exact h.size j hj r hr
  · show BytL (if j = i then (x.g i).set p bs else x.g j)
    by_cases e : j = i
    · rw [if_pos e]
      intro y hy
      rcases List.mem_or_eq_of_mem_set hy with q | q
      · exact h.byt i hi y q
      · rw [q]; exact hb
    · rw [if_neg e]; exact h.byt j hj

theorem goneS_ok {x : Col} (h : x.Ok) (i : Nat) : (goneS x i).Ok := ⟨h.may, h.base, h.len, h.size, h.byt⟩

theorem placeE_zero {x : Col} {g : Int} (h : placeE x g = 0) : openA x.base g = true := by
  unfold placeE at h
  split at h
  · exact absurd h (by decide)
  · split at h
    · rename_i q; exact q
    · exact absurd h (by decide)

theorem shardE_zero {x : Col} {g p : Int} {len : Nat} (h : shardE x g p len = 0) : isG g = true ∧ 0 ≤ p ∧ p < x.N ∧ len = x.S ∧ openA x.base g = true ∧ ((x.g (farN x g)).getD p.toNat []).length = 0 := by
  unfold shardE at h
  split at h
  · rename_i q1
    split at h
    · rename_i q2
      split at h
      · rename_i q3
        split at h
        · exact absurd h (by decide)
        · rename_i q4
          exact ⟨q1.1, q1.2.1, q1.2.2, q2, placeE_zero q3, by omega⟩
      · rename_i q3; exact absurd h q3
    · exact absurd h (by decide)
  · exact absurd h (by decide)

theorem shardC_ok {x : Col} (h : x.Ok) (g p : Int) {bs : List Nat} (hb : Byt bs) : (shardC x g p bs).Ok := by
  unfold shardC
  split
  · rename_i q
    obtain ⟨_, q2, q3, q4, q5, _⟩ := shardE_zero q
    exact putS_ok h (open_far q5).2 (by omega) q4 hb
  · exact h

theorem skipC_ok {x : Col} (h : x.Ok) (g : Int) : (skipC x g).Ok := by
  unfold skipC
  split
  · exact goneS_ok h _
  · exact h

theorem dueC_ok {x : Col} (h : x.Ok) : (dueC x).Ok := shiftN_ok h _

/-- What Decode answers of a group. -/
theorem dec_part {x : Col} (h : x.Ok) : (x.K ≤ cnt (x.g 0) → decE x.K x.N x.S (x.g 0) = 0 ∧ decA x.K x.N x.S (x.g 0) = (partOf x).data ∧ (partOf x).gap = false) ∧
    (¬ x.K ≤ cnt (x.g 0) → decE x.K x.N x.S (x.g 0) = 8 ∧ decA x.K x.N x.S (x.g 0) = (partOf x).data ∧ (partOf x).gap = true) := by
  have hl : ((x.g 0).length : Int) = (x.N : Int) := by rw [h.len 0 (by omega)]
  have hs : ∀ r, r < (x.g 0).length → ((x.g 0).getD r []).length = 0 ∨ (((x.g 0).getD r []).length : Int) = (x.S : Int) := fun r hr => by
    rcases h.size 0 (by omega) r (by rw [h.len 0 (by omega)] at hr; exact hr) with q | q
    · exact .inl q
    · exact .inr (by rw [q])
  refine ⟨fun q => ?_, fun q => ?_⟩
  · have e := decE_ok h.may hl hs (by unfold cnt at q; omega : (x.K : Int) ≤ ((there (x.g 0)).length : Int))
    unfold partOf
    rw [if_pos q]
    exact ⟨e, by unfold decA; rw [e, if_pos rfl]; rfl, rfl⟩
  · have e := decE_few h.may hl hs (by unfold cnt at q; omega)
    unfold partOf
    rw [if_neg q]
    exact ⟨e, by unfold decA; rw [e, if_neg (by decide)], rfl⟩

end Go.Proofs.YthhggjakenalpaaGreatDoor.Bt

/- Plain: a collector that holds some shards of texts; no program is named here. -/
namespace Go.Proofs.YthhggjakenalpaaGreatDoor.Bt
set_option maxRecDepth 100000

/-- Some of the rows. -/
def rowsH (N : Nat) (R : Nat → List Nat) (H : Nat → Bool) : List (List Nat) := (List.range N).map (fun r => if H r = true then R r else [])

theorem rowsH_length (N : Nat) (R : Nat → List Nat) (H : Nat → Bool) : (rowsH N R H).length = N := by simp [rowsH]

theorem rowsH_getD {N : Nat} {R : Nat → List Nat} {H : Nat → Bool} {r : Nat} (hr : r < N) : (rowsH N R H).getD r [] = if H r = true then R r else [] := by
  rw [← List.getElem_eq_getD (h := by rw [rowsH_length]; exact hr) []]
  simp [rowsH]

theorem rowsH_none (N : Nat) (R : Nat → List Nat) : rowsH N R (fun _ => false) = List.replicate N [] := by
  apply List.ext_getElem
  · simp [rowsH]
  · intro j h1 h2; simp [rowsH]

theorem rowsH_set {N : Nat} {R : Nat → List Nat} {H : Nat → Bool} {k : Nat} : (rowsH N R H).set k (R k) = rowsH N R (fun r => decide (r = k) || H r) := by
  apply List.ext_getElem
  · simp [rowsH]
  · intro j h1 h2
    rw [List.getElem_set]
    simp only [rowsH, List.getElem_map, List.getElem_range]
    by_cases e : k = j
    · subst e; simp
    · rw [if_neg e, decide_eq_false (fun q => e q.symm), Bool.false_or]

/-- How many. -/
def cntH (N : Nat) (H : Nat → Bool) : Nat := ((List.range N).filter H).length

theorem cntH_succ (N : Nat) (H : Nat → Bool) : cntH (N + 1) H = cntH N H + (if H N = true then 1 else 0) := by
  unfold cntH
  rw [List.range_succ, List.filter_append, List.length_append]
  congr 1
  by_cases h : H N = true
  · simp [h]
  · simp [h]

theorem cntH_le (N : Nat) (H : Nat → Bool) : cntH N H ≤ N := by
  unfold cntH
  exact Nat.le_trans (List.length_filter_le _ _) (by simp)

theorem cntH_none (N : Nat) : cntH N (fun _ => false) = 0 := by simp [cntH]

theorem cntH_out {N k : Nat} (H : Nat → Bool) (hk : N ≤ k) : cntH N (fun r => decide (r = k) || H r) = cntH N H := by
  induction N with
  | zero => rfl
  | succ N ih => rw [cntH_succ, cntH_succ, ih (by omega), decide_eq_false (by omega), Bool.false_or]

theorem cntH_put {N k : Nat} {H : Nat → Bool} (hk : k < N) (h : H k = false) : cntH N (fun r => decide (r = k) || H r) = cntH N H + 1 := by
  induction N with
  | zero => omega
  | succ N ih =>
    rw [cntH_succ, cntH_succ]
    by_cases e : k = N
    · subst e
      rw [cntH_out H (Nat.le_refl _), h]
      simp
    · rw [ih (by omega), decide_eq_false (by omega), Bool.false_or]
      omega

theorem cntH_congr {N : Nat} {H G : Nat → Bool} (h : ∀ r, r < N → H r = G r) : cntH N H = cntH N G := by
  induction N with
  | zero => rfl
  | succ N ih => rw [cntH_succ, cntH_succ, ih (fun r hr => h r (by omega)), h N (by omega)]

theorem cntH_all {N : Nat} {H : Nat → Bool} (h : ∀ r, r < N → H r = true) : cntH N H = N := by
  induction N with
  | zero => rfl
  | succ N ih => rw [cntH_succ, ih (fun r hr => h r (by omega)), h N (by omega)]; rfl

theorem there_rowsH {N : Nat} {R : Nat → List Nat} {H : Nat → Bool} (hR : ∀ r, r < N → 0 < (R r).length) : there (rowsH N R H) = (List.range N).filter H := by
  unfold there
  rw [rowsH_length]
  refine List.filter_congr (fun r hr => ?_)
  have hr := List.mem_range.1 hr
  rw [rowsH_getD hr]
  by_cases h : H r = true
  · rw [if_pos h, h]; simpa using hR r hr
  · rw [if_neg h]; simpa using h

theorem cnt_rowsH {N : Nat} {R : Nat → List Nat} {H : Nat → Bool} (hR : ∀ r, r < N → 0 < (R r).length) : cnt (rowsH N R H) = cntH N H := by
  unfold cnt cntH; rw [there_rowsH hR]

/-- A collector that holds some of the rows of each open group. -/
structure Held (K N S G : Nat) (R : Nat → Nat → List Nat) (H : Nat → Nat → Bool) (D : Nat → Bool) (x : Col) : Prop where
  k : x.K = K
  n : x.N = N
  s : x.S = S
  base : x.base = G
  rows : ∀ i, i < 4 → x.g i = rowsH N (R i) (H i)
  gone : ∀ i, i < 4 → x.gone i = D i

theorem held_new (K N S G : Nat) (R : Nat → Nat → List Nat) : Held K N S G R (fun _ _ => false) (fun _ => false) (col0 K N S G) :=
  ⟨rfl, rfl, rfl, rfl, fun i _ => by rw [rowsH_none]; rfl, fun _ _ => rfl⟩

theorem far_of {G i : Nat} (hG : G < 256) (hi : i < 256) : farA (G : Int) (((G + i) % 256 : Nat) : Int) = (i : Int) := by
  rw [farA_in (by omega) (by omega)]
  omega

variable {K N S G : Nat} {R : Nat → Nat → List Nat} {H : Nat → Nat → Bool} {D : Nat → Bool} {x : Col}

theorem Held.congr {H' : Nat → Nat → Bool} {D' : Nat → Bool} (h : Held K N S G R H D x) (hH : ∀ i r, i < 4 → H i r = H' i r) (hD : ∀ i, i < 4 → D i = D' i) : Held K N S G R H' D' x :=
  ⟨h.k, h.n, h.s, h.base, fun i hi => by rw [h.rows i hi, show H i = H' i from funext fun r => hH i r hi], fun i hi => by rw [h.gone i hi, hD i hi]⟩

theorem Held.farN (h : Held K N S G R H D x) (hG : G < 256) {i : Nat} (hi : i < 4) : farN x (((G + i) % 256 : Nat) : Int) = i := by
  unfold Bt.farN
  rw [h.base, far_of hG (by omega)]
  rfl

theorem Held.open_ (h : Held K N S G R H D x) (hG : G < 256) {i : Nat} (hi : i < 4) : openA x.base (((G + i) % 256 : Nat) : Int) = true := by
  unfold openA
  rw [h.base, far_of hG (by omega)]
  simp; omega

theorem Held.place (h : Held K N S G R H D x) (hG : G < 256) {i : Nat} (hi : i < 4) : placeE x (((G + i) % 256 : Nat) : Int) = 0 := by
  unfold placeE
  have hb : behindA x.base (((G + i) % 256 : Nat) : Int) = false := by
    unfold behindA
    rw [h.base, far_of hG (by omega)]
    simp; omega
  rw [hb, h.open_ hG hi]
  rfl

/-- A shard comes. -/
theorem Held.shard (h : Held K N S G R H D x) (hG : G < 256) {i k : Nat} (hi : i < 4) (hk : k < N) (hS : 1 ≤ S) (hl : (R i k).length = S) :
    shardE x (((G + i) % 256 : Nat) : Int) (k : Int) (R i k).length = (if H i k = true then 9 else 0) ∧ Held K N S G R (fun j r => (decide (j = i) && decide (r = k)) || H j r) D (shardC x (((G + i) % 256 : Nat) : Int) (k : Int) (R i k)) := by
  have hp := h.place hG hi
  have hf := h.farN hG hi
  have hrow : (x.g i).getD k [] = if H i k = true then R i k else [] := by rw [h.rows i hi, rowsH_getD hk]
  have he : shardE x (((G + i) % 256 : Nat) : Int) (k : Int) (R i k).length = (if H i k = true then 9 else 0) := by
    unfold shardE
    rw [if_pos ⟨isG_of (by omega), by omega, by rw [h.n]; omega⟩, if_pos (by rw [h.s]; exact hl), if_pos hp, hf, Int.toNat_natCast, hrow]
    by_cases q : H i k = true
    · rw [if_pos q, if_pos (by omega)]; simp [q]
    · rw [if_neg q, if_neg (by simp)]; simp [q]
  refine ⟨he, ?_⟩
  unfold shardC
  by_cases q : H i k = true
  · rw [if_neg (by rw [he, if_pos q]; decide)]
    refine ⟨h.k, h.n, h.s, h.base, fun j hj => ?_, h.gone⟩
    rw [h.rows j hj]
    unfold rowsH
    refine List.map_congr_left (fun r _ => ?_)
    by_cases e : j = i ∧ r = k
    · obtain ⟨rfl, rfl⟩ := e
      simp [q]
    · have : (decide (j = i) && decide (r = k)) = false := by
        rw [Bool.and_eq_false_iff]
        by_cases e1 : j = i
        · exact .inr (decide_eq_false (fun e2 => e ⟨e1, e2⟩))
        · exact .inl (decide_eq_false e1)
      simp only [this, Bool.false_or]
  · rw [if_pos (by rw [he, if_neg q]), hf, Int.toNat_natCast]
    refine ⟨h.k, h.n, h.s, h.base, fun j hj => ?_, h.gone⟩
    show (if j = i then (x.g i).set k (R i k) else x.g j) = _
    by_cases e : j = i
    · rw [if_pos e, h.rows i hi, rowsH_set]
      subst e
      unfold rowsH
      refine List.map_congr_left (fun r _ => ?_)
      simp
    · rw [if_neg e, h.rows j hj]
      unfold rowsH
      refine List.map_congr_left (fun r _ => ?_)
      simp only [decide_eq_false e, Bool.false_and, Bool.false_or]

/-- A group is given up. -/
theorem Held.skip (h : Held K N S G R H D x) (hG : G < 256) {i : Nat} (hi : i < 4) :
    skipE x (((G + i) % 256 : Nat) : Int) = (if D i = true then 9 else 0) ∧ Held K N S G R H (fun j => decide (j = i) || D j) (skipC x (((G + i) % 256 : Nat) : Int)) := by
  have hp := h.place hG hi
  have hf := h.farN hG hi
  have he : skipE x (((G + i) % 256 : Nat) : Int) = (if D i = true then 9 else 0) := by
    unfold skipE
    rw [if_pos (isG_of (by omega)), if_pos hp, hf, h.gone i hi]
  refine ⟨he, ?_⟩
  unfold skipC
  by_cases q : D i = true
  · rw [if_neg (by rw [he, if_pos q]; decide)]
    refine ⟨h.k, h.n, h.s, h.base, h.rows, fun j hj => ?_⟩
    rw [h.gone j hj]
    by_cases e : j = i
    · subst e; simp [q]
    · simp [e]
  · rw [if_pos (by rw [he, if_neg q]), hf]
    refine ⟨h.k, h.n, h.s, h.base, h.rows, fun j hj => ?_⟩
    show (if j = i then true else x.gone j) = _
    by_cases e : j = i
    · simp [e]
    · rw [if_neg e, h.gone j hj]; simp [e]

theorem Held.rdy (h : Held K N S G R H D x) (hR : ∀ i r, i < 4 → r < N → 0 < (R i r).length) {i : Nat} (hi : i < 4) : Bt.rdy x i = (D i || decide (K ≤ cntH N (H i))) := by
  unfold Bt.rdy
  rw [h.gone i hi, h.rows i hi, cnt_rowsH (fun r hr => hR i r hi hr), h.k]

theorem Held.have_ (h : Held K N S G R H D x) (hG : G < 256) (hR : ∀ i r, i < 4 → r < N → 0 < (R i r).length) {i : Nat} (hi : i < 4) : haveN x (((G + i) % 256 : Nat) : Int) = cntH N (H i) := by
  unfold haveN
  rw [if_pos (h.open_ hG hi), h.farN hG hi, h.rows i hi, cnt_rowsH (fun r hr => hR i r hi hr)]

end Go.Proofs.YthhggjakenalpaaGreatDoor.Bt

/- Plain: what is due of a collector; no program is named here. -/
namespace Go.Proofs.YthhggjakenalpaaGreatDoor.Bt
set_option maxRecDepth 100000

theorem shiftN_base {x : Col} (hb : x.base < 256) (t : Nat) : (shiftN t x).base = (x.base + t) % 256 := by
  cases t with
  | zero => show x.base = _; omega
  | succ t =>
    have h := (shiftN_parts (t + 1) x).2.2.2.1
    have : (shiftN (t + 1) x).base < 256 := Nat.mod_lt _ (by decide)
    omega

theorem shiftN_g (x : Col) {t i : Nat} (h : i + t < 4) : (shiftN t x).g i = x.g (i + t) := by
  rw [(shiftN_parts t x).2.2.2.2.1 i (by omega), if_pos h]

theorem shiftN_gone (x : Col) {t i : Nat} (h : i + t < 4) : (shiftN t x).gone i = x.gone (i + t) := by
  rw [(shiftN_parts t x).2.2.2.2.2 i (by omega), if_pos h]

theorem rdy_shift (x : Col) {t i : Nat} (h : i + t < 4) : rdy (shiftN t x) i = rdy x (i + t) := by
  unfold rdy
  rw [shiftN_g x h, shiftN_gone x h, (shiftN_parts t x).1]

theorem rdy_past {x : Col} (hK : 1 ≤ x.K) {t i : Nat} (hi : i < 4) (h : 4 ≤ i + t) : rdy (shiftN t x) i = false := by
  obtain ⟨h1, h2, _, _, h5, h6⟩ := shiftN_parts t x
  exact rdy_empty (by rw [h1]; exact hK) (by rw [h5 i hi, if_neg (by omega), h2]) (by rw [h6 i hi, if_neg (by omega)])

/-- How many are due: as many as are ready, one behind the other. -/
theorem dueM_of {x : Col} {m : Nat} (hm : m ≤ 4) (h1 : ∀ t, t < m → rdy x t = true) (h2 : m < 4 → rdy x m = false) : dueM 4 x = m := by
  have hle := dueM_le 4 x
  rcases Nat.lt_trichotomy (dueM 4 x) m with q | q | q
  · have e := dueM_end 4 x (by omega)
    have e2 := rdy_shift x (t := dueM 4 x) (i := 0) (by omega)
    rw [Nat.zero_add, h1 _ q] at e2
    rw [e2] at e
    cases e
  · exact q
  · have e := dueM_rdy 4 x m q
    have e2 := rdy_shift x (t := m) (i := 0) (by omega)
    rw [Nat.zero_add, h2 (by omega)] at e2
    rw [e2] at e
    cases e

/-- A part. -/
def prtAt (x : Col) (t : Nat) : Prt := if x.K ≤ cnt (x.g t) then ⟨(x.base + t) % 256, false, decT x.K x.S (x.g t)⟩ else ⟨(x.base + t) % 256, true, []⟩

theorem part_at {x : Col} (hb : x.base < 256) {t : Nat} (ht : t < 4) : partOf (shiftN t x) = prtAt x t := by
  have hg := shiftN_g x (t := t) (i := 0) (by omega)
  rw [Nat.zero_add] at hg
  obtain ⟨h1, _, h3, _⟩ := shiftN_parts t x
  unfold partOf prtAt
  rw [hg, h1, h3, shiftN_base hb]

theorem dueP_of {x : Col} (hb : x.base < 256) {m : Nat} (hm : dueM 4 x = m) : dueP x = (List.range m).map (prtAt x) := by
  have := dueM_le 4 x
  unfold dueP
  rw [hm]
  refine List.map_congr_left (fun t ht => part_at hb ?_)
  have := List.mem_range.1 ht
  omega

/-- What is decoded of enough shards of a text. -/
theorem decT_rowsH {K N S : Nat} {text : List Nat} {H : Nat → Bool} (hmay : mayC K N S = true) (ht : Byt text) (hl : text.length = K * S) (hn : K ≤ cntH N H) : decT K S (rowsH N (shL K S text S) H) = text := by
  obtain ⟨h1, h2, h3, h4, h5, h6⟩ := mayC_true hmay
  have hR : ∀ r, r < N → 0 < (shL K S text S r).length := fun r _ => by rw [shL_length]; omega
  refine dec_back (by omega) (by omega) (by rw [rowsH_length]; omega) ht hl ?_ (fun j hj => ?_)
  · rw [there_rowsH hR]; exact hn
  · rw [there_rowsH hR] at hj
    obtain ⟨q1, q2⟩ := List.mem_filter.1 hj
    rw [rowsH_getD (List.mem_range.1 q1), if_pos q2]

theorem readyN_mod (x : Col) : readyN x % 2 = bitN (rdy x 0) := by
  unfold readyN
  have : bitN (rdy x 0) < 2 := by unfold bitN; split <;> omega
  omega

theorem ready_bit (x : Col) {k : Nat} (hk : k < 4) : readyN x / 2 ^ k % 2 = bitN (rdy x k) := by
  have hb : ∀ i, bitN (rdy x i) < 2 := fun i => by unfold bitN; split <;> omega
  have b0 := hb 0
  have b1 := hb 1
  have b2 := hb 2
  have b3 := hb 3
  unfold readyN
  match k, hk with
  | 0, _ => simp only [Nat.pow_zero, Nat.div_one]; omega
  | 1, _ => simp only [Nat.pow_one]; omega
  | 2, _ => show _ / 4 % 2 = _; omega
  | 3, _ => show _ / 8 % 2 = _; omega

theorem ready_none {x : Col} (h : ∀ i, i < 4 → rdy x i = false) : readyN x = 0 := by
  unfold readyN
  rw [h 0 (by omega), h 1 (by omega), h 2 (by omega), h 3 (by omega)]
  rfl

end Go.Proofs.YthhggjakenalpaaGreatDoor.Bt

/- Plain: a device whose ticks' frames are all collected and acked: each tick's text comes out, in order. -/
namespace Go.Proofs.YthhggjakenalpaaGreatDoor.Bt
set_option maxRecDepth 100000

/-- Between two rounds: the device has nothing out, and keeps ks; the collector waits for what comes next. -/
structure Ord (tx K N S wt ms i g : Nat) (ks : List Smp) (x : Dev) (c : Col) : Prop where
  dev : x = ⟨tx, K, N, S, wt, ms, 0, i, ⟨tx, K, N, S, wt, ms, g, 0, []⟩, ks, decide (0 < i), i⟩
  may : mayD tx K N S wt ms = true
  col : ∀ R, Held K N S g R (fun _ _ => false) (fun _ => false) c
  few : ks.length ≤ 60
  right : ∀ s ∈ ks, rightM s = true
  small : g < 200

variable {tx K N S wt ms i g : Nat} {ks : List Smp} {x : Dev} {c : Col}

theorem ord_start (h : mayD tx K N S wt ms = true) (hf : ks.length ≤ 60) (hr : ∀ s ∈ ks, rightM s = true) : Ord tx K N S wt ms 0 0 ks { dev0 tx K N S wt ms with kept := ks } (col0 K N S 0) :=
  ⟨rfl, h, fun R => held_new K N S 0 R, hf, hr, by decide⟩

theorem Ord.ok (h : Ord tx K N S wt ms i g ks x c) {M : Nat} (hM : i ≤ M) : x.Ok M := by
  obtain ⟨h1, h2, h3⟩ := mayD_true h.may
  have h6 := isTx_true h2
  have hg := h.small
  rw [h.dev]
  exact ⟨h.may, Nat.zero_lt_succ _, hM, Nat.le_refl _, h.few, h.right, ⟨h1, show tx < 256 by omega, show g < 256 by omega, Nat.zero_le _, Nat.zero_le _, (fun f hf => by cases hf), (fun f hf => by cases hf), (fun f hf => by cases hf)⟩, rfl, rfl, rfl, rfl, rfl, rfl⟩

theorem Ord.bounds (h : Ord tx K N S wt ms i g ks x c) : (1 ≤ K ∧ K ≤ 6 ∧ K ≤ N ∧ N ≤ 10 ∧ 1 ≤ S ∧ S ≤ 24 ∧ 1 ≤ wt ∧ wt ≤ 100 ∧ 1 ≤ ms ∧ ms ≤ 9) ∧ tx < 256 := by
  have := (h.ok (M := i) (Nat.le_refl _)).bounds
  rw [h.dev] at this
  exact ⟨this.1, this.2.1⟩

/-- How many samples the next text holds. -/
def nextM (K S : Nat) (ks : List Smp) : Nat := min ((K * S - 1) / 3) ks.length

def nextT (K N S : Nat) (ks : List Smp) : List Nat := packT K N S (ks.take (nextM K S ks))

/-- The greeting, at the first tick. -/
def hello0 (tx i g : Nat) : List FrV := if 0 < i then [] else [⟨tx, 16 * (g : Int), 0, 0, 3, [0]⟩]

def shardsO (tx K N S g : Nat) (T : List Nat) : List FrV := (List.range N).map (fun (r : Nat) => ⟨tx, 16 * (g : Int) + (r : Int), 0, 0, 0, (encL K N S T).getD r []⟩)

theorem Ord.noGreet (h : Ord tx K N S wt ms i g ks x c) : greets x = decide (i = 0) := by
  rw [h.dev]
  unfold greets
  simp only
  rcases Nat.eq_zero_or_pos i with q | q
  · subst q; rfl
  · rw [decide_eq_true q, decide_eq_false (show ¬ i = 0 by omega)]
    simp

/-- Without samples nothing goes out, but for the greeting. -/
theorem Ord.none (h : Ord tx K N S wt ms i g [] x c) : tickO x = hello0 tx i g ∧ tickD x = { x with now := i + 1 } := by
  have hp : pushD x = x := by
    unfold pushD
    rw [if_neg]
    rw [h.dev]; simp
  have hg := h.noGreet
  have hf : x.snd.fl = [] := by rw [h.dev]
  refine ⟨?_, ?_⟩
  · unfold tickO outF greetL hello0
    rw [hp, hg, tickP_nil hf, List.append_nil]
    rcases Nat.eq_zero_or_pos i with q | q
    · rw [if_pos (by simpa using q), if_neg (by omega), h.dev]
      rfl
    · rw [if_neg (by simp; omega), if_pos q]
  · unfold tickD stepD
    rw [hp, tickC_nil hf, h.dev]

theorem next_text (h : Ord tx K N S wt ms i g ks x c) (h0 : 0 < ks.length) : (nextT K N S ks).length = K * S ∧ Byt (nextT K N S ks) ∧ parseB (nextT K N S ks) = true ∧ parseL (nextT K N S ks) = ks.take (nextM K S ks) ∧ 1 ≤ nextM K S ks ∧ nextM K S ks ≤ 48 := by
  have ok := h.ok (M := i) (Nat.le_refl _)
  have e : textD x = nextT K N S ks := by rw [h.dev]; rfl
  have hm : manyD x = nextM K S ks := by rw [h.dev]; rfl
  have hl := textD_len ok
  have hy := textD_byt ok
  have hp := packE_dev ok (m := manyD x) (Nat.min_le_left _ _)
  have ft := fitsM_dev ok
  have q := packT_parse hp
  have hmd : manyD x = min (fitsD x) x.kept.length := rfl
  rw [e] at hl hy
  have eq : packT x.K x.N x.S (x.kept.take (manyD x)) = nextT K N S ks := e
  rw [eq] at q
  rw [hm] at hmd
  have hk : x.kept = ks := by rw [h.dev]
  have hKS : x.K * x.S = K * S := by rw [h.dev]
  rw [hk] at q hmd
  rw [hm] at q
  rw [hKS] at hl
  exact ⟨hl, hy, q.1, q.2, by omega, by omega⟩

/-- The first samples go out, as a text's shards. -/
theorem Ord.some (h : Ord tx K N S wt ms i g ks x c) (h0 : 0 < ks.length) : tickO x = hello0 tx i g ++ shardsO tx K N S g (nextT K N S ks) ∧
    tickD x = ⟨tx, K, N, S, wt, ms, 0, i + 1, ⟨tx, K, N, S, wt, ms, g + 1, 0, [⟨g, 1, i, encL K N S (nextT K N S ks), false, false⟩]⟩, ks.drop (nextM K S ks), decide (0 < i), i⟩ := by
  obtain ⟨t1, _⟩ := next_text h h0
  have hb := h.bounds
  have hg := h.small
  have hp : pushD x = ⟨tx, K, N, S, wt, ms, 0, i, ⟨tx, K, N, S, wt, ms, g + 1, 0, [⟨g, 0, 0, encL K N S (nextT K N S ks), false, false⟩]⟩, ks.drop (nextM K S ks), decide (0 < i), i⟩ := by
    unfold pushD
    rw [if_pos (by rw [h.dev]; exact ⟨by simp, h0⟩), h.dev]
    unfold pushY
    have e : textD (⟨tx, K, N, S, wt, ms, 0, i, ⟨tx, K, N, S, wt, ms, g, 0, []⟩, ks, decide (0 < i), i⟩ : Dev) = nextT K N S ks := rfl
    have e2 : manyD (⟨tx, K, N, S, wt, ms, 0, i, ⟨tx, K, N, S, wt, ms, g, 0, []⟩, ks, decide (0 < i), i⟩ : Dev) = nextM K S ks := rfl
    rw [e, e2]
    have pe : pushE (⟨tx, K, N, S, wt, ms, g, 0, []⟩ : Snd) (nextT K N S ks).length = 0 := by unfold pushE; rw [if_pos t1, if_pos (by simp)]
    unfold pushC
    simp only [if_pos pe]
    rw [show (g + 1) % 256 = g + 1 from Nat.mod_eq_of_lt (by omega)]
    rfl
  have hgr : greets (pushD x) = decide (i = 0) := by
    have q := h.noGreet
    rw [h.dev] at q
    rw [hp]
    exact q
  refine ⟨?_, ?_⟩
  · unfold tickO outF greetL hello0
    rw [hgr]
    have e1 : tickP (pushD x).snd (pushD x).now = shardsO tx K N S g (nextT K N S ks) := by
      rw [hp]
      unfold tickP shardsO
      simp only [List.flatMap_cons, List.flatMap_nil, List.append_nil]
      rw [if_pos (by unfold dueF; simp)]
      unfold frmsOf
      rw [if_neg (by simp; omega)]
    rw [e1]
    rcases Nat.eq_zero_or_pos i with q | q
    · rw [if_pos (by simpa using q), if_neg (by omega), hp]
      rfl
    · rw [if_neg (by simp; omega), if_pos q]
  · unfold tickD stepD
    rw [hp]
    unfold tickC
    simp only [List.map_cons, List.map_nil]
    unfold tickF
    rw [if_pos (by unfold dueF; simp)]
    simp
    omega

/-- So many shards came. -/
def H1 (k : Nat) : Nat → Nat → Bool := fun j r => decide (j = 0) && decide (r < k)

abbrev R1 (K S : Nat) (T : List Nat) : Nat → Nat → List Nat := fun _ r => shL K S T S r

theorem enc_row {K N S r : Nat} {T : List Nat} (h : r < N) : (encL K N S T).getD r [] = shL K S T S r := encL_getD h

theorem h1_zero : H1 0 = fun _ _ => false := by
  funext j r
  unfold H1
  simp

theorem held_one {k : Nat} {T : List Nat} {R : Nat → Nat → List Nat} (hR : R = R1 K S T) (h : Held K N S g R (H1 k) (fun _ => false) c) (hg : g < 256) (hk : k < N) (hS : 1 ≤ S) :
    Held K N S g R (H1 (k + 1)) (fun _ => false) (shardC c g k ((encL K N S T).getD k [])) := by
  rw [enc_row hk]
  have q := (h.shard hg (i := 0) (k := k) (by decide) hk hS (by rw [hR]; exact shL_length ..)).2
  have e : ((g + 0) % 256 : Nat) = g := by omega
  rw [e] at q
  rw [hR] at q ⊢
  refine q.congr (fun j r _ => ?_) (fun _ _ => rfl)
  unfold H1
  by_cases e1 : j = 0
  · subst e1
    by_cases e2 : r = k
    · subst e2; simp
    · simp [e2]; omega
  · simp [e1]

theorem one_cnt (N : Nat) : cntH N (H1 N 0) = N := cntH_all (fun r hr => by unfold H1; simp [hr])

/-- All shards came: one text is due, and behind it the next one is waited for. -/
theorem due_one {T : List Nat} (h : Held K N S g (R1 K S T) (H1 N) (fun _ => false) c) (hm : mayC K N S = true) (hg : g < 200) (hY : Byt T) (hl : T.length = K * S) :
    dueP c = [⟨g, false, T⟩] ∧ (∀ R, Held K N S (g + 1) R (fun _ _ => false) (fun _ => false) (dueC c)) := by
  obtain ⟨m1, m2, m3, m4, m5, m6⟩ := mayC_true hm
  have hR : ∀ i r, i < 4 → r < N → 0 < (R1 K S T i r).length := fun i r _ _ => by show 0 < (shL K S T S r).length; rw [shL_length]; omega
  have r0 : rdy c 0 = true := by
    rw [h.rdy hR (by decide), one_cnt]
    simp
    omega
  have hz : ∀ i, 0 < i → ∀ r, H1 N i r = false := fun i hi r => by unfold H1; simp; omega
  have cz : ∀ i, 0 < i → cntH N (H1 N i) = 0 := fun i hi => by rw [cntH_congr (G := fun _ => false) (fun r _ => hz i hi r), cntH_none]
  have rz : ∀ i, 0 < i → i < 4 → rdy c i = false := fun i hi h4 => by
    rw [h.rdy hR h4, cz i hi]
    simp
    omega
  have hd : dueM 4 c = 1 := dueM_of (by decide) (fun t ht => (show t = 0 by omega) ▸ r0) (fun _ => rz 1 (by decide) (by decide))
  have hb : c.base < 256 := by rw [h.base]; omega
  refine ⟨?_, fun R => ?_⟩
  · rw [dueP_of hb hd]
    show [prtAt c 0] = _
    unfold prtAt
    rw [h.rows 0 (by decide), cnt_rowsH (fun r hr => hR 0 r (by decide) hr), one_cnt, h.k, h.s, h.base, if_pos (by omega)]
    have e : decT K S (rowsH N (R1 K S T 0) (H1 N 0)) = T := decT_rowsH hm hY hl (by rw [one_cnt]; omega)
    rw [e]
    have : (g + 0) % 256 = g := by omega
    rw [this]
  · unfold dueC
    rw [hd]
    show Held K N S (g + 1) R _ _ (shift c)
    refine ⟨h.k, h.n, h.s, ?_, fun j hj => ?_, fun j hj => ?_⟩
    · show (c.base + 1) % 256 = g + 1
      rw [h.base]; omega
    · show (if j = 3 then List.replicate c.N [] else c.g (j + 1)) = _
      rw [rowsH_none]
      by_cases e : j = 3
      · rw [if_pos e, h.n]
      · rw [if_neg e, h.rows (j + 1) (by omega)]
        have : H1 N (j + 1) = fun _ => false := funext fun r => hz (j + 1) (by omega) r
        rw [this, rowsH_none]
    · show (if j = 3 then false else c.gone (j + 1)) = false
      by_cases e : j = 3
      · rw [if_pos e]
      · rw [if_neg e, h.gone (j + 1) (by omega)]

/-- Nothing came: nothing is due. -/
theorem due_none (h : ∀ R, Held K N S g R (fun _ _ => false) (fun _ => false) c) (hm : mayC K N S = true) (hg : g < 200) : dueP c = [] ∧ dueC c = c ∧ readyN c = 0 := by
  obtain ⟨m1, m2, m3, m4, m5, m6⟩ := mayC_true hm
  have h := h (fun _ _ => [0])
  have hR : ∀ i r, i < 4 → r < N → 0 < ((fun (_ _ : Nat) => [0]) i r : List Nat).length := fun i r _ _ => by simp
  have rz : ∀ i, i < 4 → rdy c i = false := fun i h4 => by
    rw [h.rdy hR h4, cntH_none]
    simp
    omega
  have hd : dueM 4 c = 0 := dueM_of (by decide) (fun t ht => by omega) (fun _ => rz 0 (by decide))
  refine ⟨?_, ?_, ready_none rz⟩
  · rw [dueP_of (by rw [h.base]; omega) hd]; rfl
  · unfold dueC; rw [hd]; rfl

/-- The ack of what is behind a base. -/
def ackV (tx b : Nat) : FrV := ⟨tx, 0, 0, 0, 1, [b, 0]⟩

theorem ackV_frm (ht : tx < 256) (b : Nat) : isFrm (ackV tx b).tx (ackV tx b).sq (ackV tx b).an (ackV tx b).rs (ackV tx b).kd (ackV tx b).data.length = true := by
  unfold ackV
  rw [isFrm_iff]
  simp only [List.length_cons, List.length_nil]
  omega

theorem behind_one {g : Nat} (hg : g < 200) : behindA ((g + 1 : Nat) : Int) (g : Int) = true := by
  unfold behindA
  rw [farA_in (by omega) (by omega)]
  simp
  omega

/-- Behind the ack nothing is out. -/
theorem ord_acked {G : Nat} {fl : List Flt} {y : Dev} {ks' : List Smp} {w : Bool} {a : Nat} (hy : y = ⟨tx, K, N, S, wt, ms, 0, i + 1, ⟨tx, K, N, S, wt, ms, G, 0, fl⟩, ks', w, a⟩) (ht : tx < 256) (hf : ∀ f ∈ fl, behindA (G : Int) f.group = true ∧ f.gone = false) :
    hearA y.snd (ackV tx G) = true ∧ ({ y with snd := hearC y.snd (ackV tx G), was := true, acked := y.now } : Dev) = ⟨tx, K, N, S, wt, ms, 0, i + 1, ⟨tx, K, N, S, wt, ms, G, 0, []⟩, ks', decide (0 < i + 1), i + 1⟩ := by
  have ha : hearA y.snd (ackV tx G) = true := by
    unfold hearA
    rw [ackV_frm ht, hy]
    simp [ackV]
  refine ⟨ha, ?_⟩
  unfold hearC
  rw [if_pos ha, hy]
  unfold ackC
  have e1 : (ackV tx G).data.getD 0 0 = G := rfl
  rw [e1]
  have e2 : fl.filter (fun f => !behindA (G : Int) f.group) = [] := List.filter_eq_nil_iff.2 (fun f h => by rw [(hf f h).1]; simp)
  have e3 : fl.filter (fun f => behindA (G : Int) f.group && f.gone) = [] := List.filter_eq_nil_iff.2 (fun f h => by rw [(hf f h).2]; simp)
  simp only [e2, e3]
  simp

/-- The next round begins: behind a text, and behind none. -/
theorem Ord.nextSome (h : Ord tx K N S wt ms i g ks x c) (h0 : 0 < ks.length) (hg : g + 1 < 200) {c' : Col} (hc : ∀ R, Held K N S (g + 1) R (fun _ _ => false) (fun _ => false) c') :
    hearA (tickD x).snd (ackV tx (g + 1)) = true ∧ Ord tx K N S wt ms (i + 1) (g + 1) (ks.drop (nextM K S ks)) { tickD x with snd := hearC (tickD x).snd (ackV tx (g + 1)), was := true, acked := (tickD x).now } c' := by
  obtain ⟨h1, h2⟩ := ord_acked (h.some h0).2 h.bounds.2 (fun f hf => by
    rw [List.mem_singleton.1 hf]
    exact ⟨behind_one h.small, rfl⟩)
  refine ⟨h1, h2, h.may, hc, ?_, fun s hs => h.right s (List.mem_of_mem_drop hs), hg⟩
  rw [List.length_drop]
  have := h.few
  omega

theorem Ord.nextNone (h : Ord tx K N S wt ms i g [] x c) : hearA (tickD x).snd (ackV tx g) = true ∧ Ord tx K N S wt ms (i + 1) g [] { tickD x with snd := hearC (tickD x).snd (ackV tx g), was := true, acked := (tickD x).now } c := by
  have e : tickD x = ⟨tx, K, N, S, wt, ms, 0, i + 1, ⟨tx, K, N, S, wt, ms, g, 0, []⟩, [], decide (0 < i), i⟩ := by
    rw [h.none.2]
    conv => lhs; rw [h.dev]
  obtain ⟨h1, h2⟩ := ord_acked e h.bounds.2 (fun f hf => by cases hf)
  exact ⟨h1, h2, h.may, h.col, h.few, h.right, h.small⟩

/-! ### A round as a whole -/

/-- How many shards go out. -/
def shN (N : Nat) (ks : List Smp) : Nat := if 0 < ks.length then N else 0

/-- A tick's frames, by their places. -/
theorem ord_frame (h : Ord tx K N S wt ms i g ks x c) : (tickO x).length = (hello0 tx i g).length + shN N ks ∧ ∀ k, k < (tickO x).length →
    (k < (hello0 tx i g).length ∧ i = 0 ∧ k = 0 ∧ (tickO x).getD k ⟨0, 0, 0, 0, 0, []⟩ = ⟨tx, 16 * (g : Int), 0, 0, 3, [0]⟩) ∨
    ((hello0 tx i g).length ≤ k ∧ 0 < ks.length ∧ k - (hello0 tx i g).length < N ∧ (tickO x).getD k ⟨0, 0, 0, 0, 0, []⟩ = ⟨tx, 16 * (g : Int) + ((k - (hello0 tx i g).length : Nat) : Int), 0, 0, 0, (encL K N S (nextT K N S ks)).getD (k - (hello0 tx i g).length) []⟩) := by
  have hello : ∀ k, k < (hello0 tx i g).length → i = 0 ∧ k = 0 ∧ (hello0 tx i g)[k]? = some ⟨tx, 16 * (g : Int), 0, 0, 3, [0]⟩ := fun k hk => by
    unfold hello0 at hk ⊢
    split at hk
    · simp at hk
    · rename_i q
      have : k = 0 := by simp at hk; omega
      subst this
      rw [if_neg q]
      exact ⟨by omega, rfl, rfl⟩
  rcases Nat.eq_zero_or_pos ks.length with z | z
  · have hk : ks = [] := List.eq_nil_of_length_eq_zero z
    subst hk
    rw [h.none.1]
    refine ⟨by unfold shN; simp, fun k hk => .inl ?_⟩
    obtain ⟨q1, q2, q3⟩ := hello k hk
    exact ⟨hk, q1, q2, by rw [List.getD_eq_getElem?_getD, q3]; rfl⟩
  · rw [(h.some z).1]
    have hs : (shardsO tx K N S g (nextT K N S ks)).length = N := by simp [shardsO]
    refine ⟨by rw [List.length_append, hs]; unfold shN; rw [if_pos z], fun k hk => ?_⟩
    rw [List.length_append, hs] at hk
    rcases Nat.lt_or_ge k (hello0 tx i g).length with q | q
    · obtain ⟨q1, q2, q3⟩ := hello k q
      exact .inl ⟨q, q1, q2, by rw [List.getD_eq_getElem?_getD, List.getElem?_append_left q, q3]; rfl⟩
    · refine .inr ⟨q, z, by omega, ?_⟩
      rw [List.getD_eq_getElem?_getD, List.getElem?_append_right q]
      unfold shardsO
      rw [List.getElem?_map, List.getElem?_range (by omega)]
      rfl

theorem hello0_le (tx i g : Nat) : (hello0 tx i g).length ≤ 1 := by unfold hello0; split <;> simp

/-- Behind a round: what was due, what is acked, the next round's beginning. -/
theorem ord_round (h : Ord tx K N S wt ms i g ks x c) (hg : g + 1 < 200) (hd : ks.length + i ≤ 60 ∨ ks = []) (hgi : g ≤ i) {c2 : Col} (hc0 : shN N ks = 0 → c2 = c)
    (hH : Held K N S g (R1 K S (nextT K N S ks)) (H1 (shN N ks)) (fun _ => false) c2) :
    ∃ g' left, g' < 200 ∧ g' ≤ i + 1 ∧ (left.length + (i + 1) ≤ 60 ∨ left = []) ∧ (dueP c2).length ≤ 1 ∧ (∀ p ∈ dueP c2, p.data.length ≤ 144 ∧ Byt p.data) ∧ (dueP c2).flatMap (fun p => parseL p.data) ++ left = ks ∧
      (dueC c2).base = g' ∧ readyN (dueC c2) = 0 ∧ hearA (tickD x).snd (ackV tx g') = true ∧ Ord tx K N S wt ms (i + 1) g' left { tickD x with snd := hearC (tickD x).snd (ackV tx g'), was := true, acked := (tickD x).now } (dueC c2) := by
  have hm := (mayL_true (mayD_true h.may).1).1
  rcases Nat.eq_zero_or_pos ks.length with z | z
  · have hk : ks = [] := List.eq_nil_of_length_eq_zero z
    subst hk
    have e := hc0 (by unfold shN; simp)
    subst e
    obtain ⟨d1, d2, d3⟩ := due_none h.col hm h.small
    obtain ⟨q1, q2⟩ := h.nextNone
    have hb : c2.base = g := (h.col (fun _ _ => [])).base
    refine ⟨g, [], h.small, by omega, .inr rfl, by rw [d1]; simp, fun p hp => (by rw [d1] at hp; cases hp), by rw [d1]; rfl, by rw [d2]; exact hb, by rw [d2]; exact d3, q1, by rw [d2]; exact q2⟩
  · have e : shN N ks = N := by unfold shN; rw [if_pos z]
    rw [e] at hH
    obtain ⟨t1, t2, t3, t4, t5, t6⟩ := next_text h z
    obtain ⟨d1, d2⟩ := due_one hH hm h.small t2 t1
    obtain ⟨q1, q2⟩ := h.nextSome z hg d2
    have hb : (dueC c2).base = g + 1 := (d2 (fun _ _ => [])).base
    have hr := (due_none d2 hm hg).2.2
    have hKS := (h.ok (M := i) (Nat.le_refl _)).bounds.2.2.2
    rw [h.dev] at hKS
    have hKS' : K * S ≤ 144 := hKS
    refine ⟨g + 1, ks.drop (nextM K S ks), hg, by omega, ?_, by rw [d1]; simp, fun p hp => ?_, ?_, hb, hr, q1, q2⟩
    · left
      rw [List.length_drop]
      rcases hd with q | q
      · omega
      · rw [q] at z; simp at z
    · rw [d1, List.mem_singleton] at hp
      subst hp
      exact ⟨by show (nextT K N S ks).length ≤ 144; omega, t2⟩
    · rw [d1]
      show (parseL (nextT K N S ks) ++ []) ++ _ = ks
      rw [List.append_nil, t4, List.take_append_drop]

end Go.Proofs.YthhggjakenalpaaGreatDoor.Bt
