/- Plain: texts that differ near one place alone have other sums; bits that are turned one behind the other. -/
import Derived.Test.YtohedeeajcdjcaaDoorCrcRev
namespace Go.Proofs.YtohedeeajcdjcaaDoor.Bt

theorem zx_self (l : List Nat) : zx l l = List.replicate l.length 0 := by
  induction l with
  | nil => rfl
  | cons a l ih => rw [zx, List.zipWith_cons_cons, Nat.xor_self, List.length_cons, List.replicate_succ]; exact congrArg _ ih

theorem zx_append (a b c d : List Nat) (h : a.length = b.length) : zx (a ++ c) (b ++ d) = zx a b ++ zx c d := List.zipWith_append h

/-- Bits that differ within so many places alone give other states. -/
theorem run_apart {n P : Nat} (hodd : P % 2 = 1) (hP : P < 2 ^ (n + 1)) (s : Nat) (A X Y C : List Nat) (hx : Bits X) (hy : Bits Y) (hl : X.length = Y.length) (hk : X.length ≤ n + 1) (hne : X ≠ Y) :
    run n P s (A ++ (X ++ C)) ≠ run n P s (A ++ (Y ++ C)) := by
  refine run_ne hodd hP s A.length C.length (zx X Y) _ _ (by simp [hl]) (zx_bits X Y hx hy) (by simp [zx]; omega) ?_ ?_
  · rw [num_zx X Y hx hy hl]
    intro e
    exact hne (num_inj X Y hx hy hl (xor_zero_eq e))
  · rw [zx_append _ _ _ _ rfl, zx_append _ _ _ _ hl, zx_self, zx_self]

theorem split3 (l : List Nat) (a k : Nat) : l = l.take a ++ ((l.drop a).take k ++ (l.drop a).drop k) := by
  rw [List.take_append_drop, List.take_append_drop]

theorem ext_getD (l m : List Nat) (hl : l.length = m.length) (h : ∀ i, i < l.length → l.getD i 0 = m.getD i 0) : l = m := by
  apply List.ext_getElem hl
  intro i h1 h2
  have := h i h1
  simpa [List.getD_eq_getElem?_getD, h1, h2] using this

theorem getD_drop' (l : List Nat) (a i : Nat) : (l.drop a).getD i 0 = l.getD (a + i) 0 := by
  simp [List.getD_eq_getElem?_getD]

theorem getD_take' (l : List Nat) (a i : Nat) (h : i < a) : (l.take a).getD i 0 = l.getD i 0 := by
  simp [List.getD_eq_getElem?_getD, h]

/-- Two texts' bits that are the same but for places from a on, as many as the width, and aren't the same, give other states. -/
theorem run_near {n P : Nat} (hodd : P % 2 = 1) (hP : P < 2 ^ (n + 1)) (s : Nat) (l m : List Nat) (hl : Bits l) (hm : Bits m) (hlen : l.length = m.length) (a : Nat)
    (h : ∀ i, i < l.length → i < a ∨ a + (n + 1) ≤ i → l.getD i 0 = m.getD i 0) (hne : l ≠ m) : run n P s l ≠ run n P s m := by
  have e1 : l.take a = m.take a := by
    apply ext_getD
    · simp [hlen]
    · intro i hi
      have hi' : i < a ∧ i < l.length := by simpa [Nat.lt_min] using hi
      rw [getD_take' _ _ _ hi'.1, getD_take' _ _ _ hi'.1]
      exact h i hi'.2 (.inl hi'.1)
  have e3 : (l.drop a).drop (n + 1) = (m.drop a).drop (n + 1) := by
    apply ext_getD
    · simp [hlen]
    · intro i hi
      rw [getD_drop', getD_drop', getD_drop', getD_drop']
      simp at hi
      exact h _ (by omega) (.inr (by omega))
  rw [split3 l a (n + 1), split3 m a (n + 1), e1, e3]
  refine run_apart hodd hP s _ _ _ _ (bits_take (bits_drop hl _) _) (bits_take (bits_drop hm _) _) (by simp [hlen]) (by simp; omega) ?_
  intro e2
  apply hne
  rw [split3 l a (n + 1), split3 m a (n + 1), e1, e2, e3]

theorem lows_getD (bs : List Nat) (i : Nat) (h : i < 8 * bs.length) : (lows bs).getD i 0 = bs.getD (i / 8) 0 / 2 ^ (i % 8) % 2 := by
  induction bs generalizing i with
  | nil => simp at h
  | cons x xs ih =>
    have e : lows (x :: xs) = (fld 8 x).reverse ++ lows xs := by simp [lows]
    rw [e]
    by_cases hi : i < 8
    · have h0 : i / 8 = 0 := by omega
      have h1 : i % 8 = i := by omega
      rw [h0, h1]
      have hb := fld_getD 8 x (7 - i) (by omega)
      rw [show 8 - 1 - (7 - i) = i from by omega] at hb
      rw [List.getD_eq_getElem?_getD, List.getElem?_append_left (by rw [List.length_reverse, fld_length]; exact hi), List.getElem?_reverse (by rw [fld_length]; exact hi), fld_length, show 8 - 1 - i = 7 - i from by omega, ← List.getD_eq_getElem?_getD, hb]
      rfl
    · rw [List.getD_eq_getElem?_getD, List.getElem?_append_right (by rw [List.length_reverse, fld_length]; omega), List.length_reverse, fld_length, ← List.getD_eq_getElem?_getD, ih (i - 8) (by simp at h; omega)]
      rw [show i / 8 = (i - 8) / 8 + 1 from by omega, show (i - 8) % 8 = i % 8 from by omega]
      rfl

/-- Bytes with the same bits are the same. -/
theorem byte_bits (x y : Nat) (hx : x < 256) (hy : y < 256) (h : ∀ j, j < 8 → x / 2 ^ j % 2 = y / 2 ^ j % 2) : x = y := by
  have h0 := h 0 (by decide)
  have h1 := h 1 (by decide)
  have h2 := h 2 (by decide)
  have h3 := h 3 (by decide)
  have h4 := h 4 (by decide)
  have h5 := h 5 (by decide)
  have h6 := h 6 (by decide)
  have h7 := h 7 (by decide)
  simp only [Nat.reducePow] at *
  omega

theorem getD_byte {bs : List Nat} (h : ∀ b ∈ bs, b < 256) (i : Nat) : bs.getD i 0 < 256 := by
  rw [List.getD_eq_getElem?_getD]
  cases e : bs[i]? with
  | none => simp
  | some b => exact h b (List.mem_of_getElem? e)

theorem lows_inj (bs cs : List Nat) (hb : ∀ b ∈ bs, b < 256) (hc : ∀ b ∈ cs, b < 256) (hl : bs.length = cs.length) (h : lows bs = lows cs) : bs = cs := by
  apply ext_getD _ _ hl
  intro i hi
  apply byte_bits _ _ (getD_byte hb i) (getD_byte hc i)
  intro j hj
  have h1 := lows_getD bs (8 * i + j) (by omega)
  have h2 := lows_getD cs (8 * i + j) (by omega)
  rw [show (8 * i + j) / 8 = i from by omega, show (8 * i + j) % 8 = j from by omega] at h1 h2
  rw [← h1, ← h2, h]

theorem unpack_inj (bs cs : List Nat) (hb : ∀ b ∈ bs, b < 256) (hc : ∀ b ∈ cs, b < 256) (h : unpack bs = unpack cs) : bs = cs := by
  rw [← pack_unpack bs hb, ← pack_unpack cs hc, h]

/-- Texts that differ within four bytes one behind the other alone have other CRC-32. -/
theorem crc32_near (bs cs : List Nat) (hb : ∀ b ∈ bs, b < 256) (hc : ∀ b ∈ cs, b < 256) (hl : bs.length = cs.length) (a : Nat)
    (h : ∀ i, i < bs.length → i < a ∨ a + 4 ≤ i → bs.getD i 0 = cs.getD i 0) (hne : bs ≠ cs) : crc32 bs ≠ crc32 cs := by
  unfold crc32
  intro e
  have e2 := turned_inj (run_lt (n := 31) (P := 79764919) (by decide) _ (by decide) _) (run_lt (n := 31) (P := 79764919) (by decide) _ (by decide) _) e
  refine run_near (n := 31) (P := 79764919) (by decide) (by decide) 4294967295 (lows bs) (lows cs) (lows_bits _) (lows_bits _) (by rw [lows_length, lows_length, hl]) (8 * a) ?_ ?_ e2
  · intro i hi ho
    rw [lows_length] at hi
    rw [lows_getD bs i hi, lows_getD cs i (by omega), h (i / 8) (by omega) (by omega)]
  · exact fun e => hne (lows_inj bs cs hb hc hl e)

/-- Texts whose bits differ within sixteen places one behind the other alone have other CRC-16. -/
theorem crc16_near (bs cs : List Nat) (hb : ∀ b ∈ bs, b < 256) (hc : ∀ b ∈ cs, b < 256) (hl : bs.length = cs.length) (a : Nat)
    (h : ∀ i, i < 8 * bs.length → i < a ∨ a + 16 ≤ i → (unpack bs).getD i 0 = (unpack cs).getD i 0) (hne : bs ≠ cs) : crc16 bs ≠ crc16 cs := by
  unfold crc16
  refine run_near (n := 15) (P := 4129) (by decide) (by decide) 65535 (unpack bs) (unpack cs) (unpack_bits _) (unpack_bits _) (by rw [unpack_length, unpack_length, hl]) a ?_ ?_
  · intro i hi ho
    rw [unpack_length] at hi
    exact h i hi ho
  · exact fun e => hne (unpack_inj bs cs hb hc e)

theorem getD_set (l : List Nat) (k x i : Nat) : (l.set k x).getD i 0 = if i = k ∧ k < l.length then x else l.getD i 0 := by
  simp only [List.getD_eq_getElem?_getD, List.getElem?_set]
  by_cases h : k = i
  · subst h
    by_cases h2 : k < l.length
    · simp [h2]
    · simp [h2]
  · simp [h, Ne.symm h]

theorem mem_set_byte {bs : List Nat} (h : ∀ b ∈ bs, b < 256) (k x : Nat) (hx : x < 256) : ∀ b ∈ bs.set k x, b < 256 := by
  intro b hb
  rcases List.mem_or_eq_of_mem_set hb with hb | hb
  · exact h b hb
  · rw [hb]; exact hx

/-- A text with one byte turned has other sums, of both kinds. -/
theorem crc_one (bs : List Nat) (h : ∀ b ∈ bs, b < 256) (k x : Nat) (hk : k < bs.length) (hx : x < 256) (hne : x ≠ bs.getD k 0) : crc16 bs ≠ crc16 (bs.set k x) ∧ crc32 bs ≠ crc32 (bs.set k x) := by
  have hd : bs ≠ bs.set k x := by
    intro e
    have := congrArg (fun l => l.getD k 0) e
    simp only [getD_set, hk, and_self, if_true] at this
    exact hne this.symm
  refine ⟨crc16_near _ _ h (mem_set_byte h k x hx) (by simp) (8 * k) ?_ hd, crc32_near _ _ h (mem_set_byte h k x hx) (by simp) k ?_ hd⟩
  · intro i hi ho
    rw [unpack_getD bs i hi, unpack_getD _ i (by simp; exact hi), getD_set, if_neg (by omega)]
  · intro i hi ho
    rw [getD_set, if_neg (by omega)]

/-- A bit turned, by its place in the text. -/
def flip1 (bs : List Nat) (k : Nat) : List Nat := bs.set (k / 8) (bs.getD (k / 8) 0 ^^^ 128 / 2 ^ (k % 8))

/-- Bits turned from a place on, as a mask says, as many of them as told. -/
def flips (a mask : Nat) (bs : List Nat) : Nat → List Nat
  | 0 => bs
  | i + 1 => if mask / 2 ^ i % 2 = 1 then flip1 (flips a mask bs i) (a + i) else flips a mask bs i

theorem flip1_length (bs : List Nat) (k : Nat) : (flip1 bs k).length = bs.length := by simp [flip1]

theorem flips_length (a mask : Nat) (bs : List Nat) (i : Nat) : (flips a mask bs i).length = bs.length := by
  induction i with
  | zero => rfl
  | succ i ih =>
    rw [flips]
    split
    · rw [flip1_length, ih]
    · exact ih

theorem mask_lt (r : Nat) : 128 / 2 ^ r < 256 := Nat.lt_of_le_of_lt (Nat.div_le_self _ _) (by decide)

theorem flip1_byte {bs : List Nat} (h : ∀ b ∈ bs, b < 256) (k : Nat) : ∀ b ∈ flip1 bs k, b < 256 :=
  mem_set_byte h _ _ (Nat.xor_lt_two_pow (n := 8) (getD_byte h _) (mask_lt _))

theorem flips_byte {bs : List Nat} (h : ∀ b ∈ bs, b < 256) (a mask i : Nat) : ∀ b ∈ flips a mask bs i, b < 256 := by
  induction i with
  | zero => exact h
  | succ i ih =>
    rw [flips]
    split
    · exact flip1_byte ih _
    · exact ih

theorem mask_pow : ∀ r, r < 8 → 128 / 2 ^ r = 2 ^ (7 - r) := by decide

theorem flip1_bit (bs : List Nat) (k j : Nat) (hk : k < 8 * bs.length) (hj : j < 8 * bs.length) :
    (unpack (flip1 bs k)).getD j 0 = if j = k then 1 - (unpack bs).getD j 0 else (unpack bs).getD j 0 := by
  rw [unpack_getD _ j (by rw [flip1_length]; exact hj), unpack_getD bs j hj]
  unfold flip1
  rw [getD_set]
  by_cases h : j / 8 = k / 8
  · rw [if_pos ⟨h, by omega⟩, h, mask_pow _ (by omega), bit_testBit, Nat.testBit_xor, Nat.testBit_two_pow, bit_testBit]
    by_cases e : j = k
    · rw [if_pos e, show decide (7 - k % 8 = 7 - j % 8) = true from by rw [e]; simp]
      cases Nat.testBit (bs.getD (k / 8) 0) (7 - j % 8) <;> rfl
    · rw [if_neg e, show decide (7 - k % 8 = 7 - j % 8) = false from by rw [decide_eq_false_iff_not]; omega, Bool.xor_false]
  · rw [if_neg (by omega), if_neg (by intro e; exact h (by rw [e]))]

theorem flips_bit (a mask : Nat) (bs : List Nat) (i j : Nat) (hi : a + i ≤ 8 * bs.length) (hj : j < 8 * bs.length) :
    (unpack (flips a mask bs i)).getD j 0 = if a ≤ j ∧ j < a + i ∧ mask / 2 ^ (j - a) % 2 = 1 then 1 - (unpack bs).getD j 0 else (unpack bs).getD j 0 := by
  induction i with
  | zero => rw [flips, if_neg (by omega)]
  | succ i ih =>
    have ih := ih (by omega)
    rw [flips]
    by_cases hm : mask / 2 ^ i % 2 = 1
    · rw [if_pos hm, flip1_bit _ _ _ (by rw [flips_length]; omega) (by rw [flips_length]; exact hj), ih]
      by_cases e : j = a + i
      · rw [if_pos e, if_neg (by omega), if_pos ⟨by omega, by omega, by rw [e, Nat.add_sub_cancel_left]; exact hm⟩]
      · rw [if_neg e]
        by_cases c : a ≤ j ∧ j < a + i ∧ mask / 2 ^ (j - a) % 2 = 1
        · rw [if_pos c, if_pos ⟨c.1, by omega, c.2.2⟩]
        · rw [if_neg c, if_neg (fun d => c ⟨d.1, by omega, d.2.2⟩)]
    · rw [if_neg hm, ih]
      by_cases c : a ≤ j ∧ j < a + i ∧ mask / 2 ^ (j - a) % 2 = 1
      · rw [if_pos c, if_pos ⟨c.1, by omega, c.2.2⟩]
      · rw [if_neg c, if_neg]
        intro d
        by_cases e : j = a + i
        · rw [e, Nat.add_sub_cancel_left] at d; exact hm d.2.2
        · exact c ⟨d.1, by omega, d.2.2⟩

/-- Bytes outside of the turned bits' stay. -/
theorem flips_far (a mask : Nat) (bs : List Nat) (i q : Nat) (h : q < a / 8 ∨ (a + i + 7) / 8 ≤ q) : (flips a mask bs i).getD q 0 = bs.getD q 0 := by
  induction i with
  | zero => rfl
  | succ i ih =>
    rw [flips]
    split
    · unfold flip1
      rw [getD_set, if_neg (by omega), ih (by omega)]
    · exact ih (by omega)

/-- A number below a power of two with a bit of each place 0 is 0. -/
theorem zero_of_bits (m W : Nat) (hm : m < 2 ^ W) (h : ∀ i, i < W → m / 2 ^ i % 2 = 0) : m = 0 := by
  apply Nat.eq_of_testBit_eq
  intro i
  rw [Nat.zero_testBit]
  by_cases hi : i < W
  · have := h i hi
    rw [bit_testBit] at this
    cases e : m.testBit i with
    | false => rfl
    | true => rw [e] at this; cases this
  · exact Nat.testBit_lt_two_pow (Nat.lt_of_lt_of_le hm (Nat.pow_le_pow_right (by decide) (by omega)))

theorem flips_ne (a mask : Nat) (bs : List Nat) (i : Nat) (hi : a + i ≤ 8 * bs.length) (h : ∃ j, j < i ∧ mask / 2 ^ j % 2 = 1) : bs ≠ flips a mask bs i := by
  obtain ⟨j, hj, hm⟩ := h
  intro e
  have f := flips_bit a mask bs i (a + j) hi (by omega)
  rw [← e, if_pos ⟨by omega, by omega, by rw [Nat.add_sub_cancel_left]; exact hm⟩] at f
  have := getD_bit (unpack bs) (unpack_bits bs) (a + j)
  omega

/-- Some bit is there of a number that isn't nought. -/
theorem some_bit (m W : Nat) (h : m % 2 ^ W ≠ 0) : ∃ j, j < W ∧ m / 2 ^ j % 2 = 1 := by
  refine Classical.byContradiction fun hn => h ?_
  refine zero_of_bits (m % 2 ^ W) W (Nat.mod_lt _ (Nat.pow_pos (by decide))) fun i hi => ?_
  rw [bit_testBit, Nat.testBit_mod_two_pow]
  have : ¬ m / 2 ^ i % 2 = 1 := fun e => hn ⟨i, hi, e⟩
  have h2 : m / 2 ^ i % 2 = 0 := by omega
  rw [bit_testBit] at h2
  cases e : m.testBit i with
  | false => simp
  | true => rw [e] at h2; cases h2

theorem turned16 (a mask : Nat) (bs : List Nat) (hb : ∀ b ∈ bs, b < 256) (ha : a + 16 ≤ 8 * bs.length) (hm : mask % 65536 ≠ 0) : crc16 bs ≠ crc16 (flips a mask bs 16) := by
  refine crc16_near _ _ hb (flips_byte hb _ _ _) (by rw [flips_length]) a ?_ (flips_ne a mask bs 16 ha (some_bit mask 16 hm))
  intro i hi ho
  rw [flips_bit a mask bs 16 i ha hi, if_neg (by omega)]

theorem turned32 (a mask : Nat) (bs : List Nat) (hb : ∀ b ∈ bs, b < 256) (ha : a + 32 ≤ 8 * bs.length) (h8 : a % 8 = 0) (h0 : mask ≠ 0) (hm : mask < 4294967296) : crc32 bs ≠ crc32 (flips a mask bs 32) := by
  refine crc32_near _ _ hb (flips_byte hb _ _ _) (by rw [flips_length]) (a / 8) ?_ (flips_ne a mask bs 32 ha (some_bit mask 32 (by rw [Nat.mod_eq_of_lt hm]; exact h0)))
  intro i hi ho
  rw [flips_far a mask bs 32 i (by omega)]

end Go.Proofs.YtohedeeajcdjcaaDoor.Bt
