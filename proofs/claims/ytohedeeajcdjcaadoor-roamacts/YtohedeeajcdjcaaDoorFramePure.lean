/- Plain: a frame's bytes, and what bytes say of a frame; no program is named here. -/
import Derived.Test.YtohedeeajcdjcaaDoorCrcNear
namespace Go.Proofs.YtohedeeajcdjcaaDoor.Bt

/-- A head's fields as one number. -/
def headN (tx sq an rs kd : Nat) : Nat := (((tx * 4096 + sq) * 8 + an) * 128 + rs) * 4 + kd

/-- Is a frame right? -/
def isFrm (tx sq an rs kd : Int) (n : Nat) : Bool :=
  decide (0 ≤ tx) && (decide (tx < 256) && (decide (0 ≤ sq) && (decide (sq < 4096) && (decide (0 ≤ an) && (decide (an < 8) && (decide (0 ≤ rs) && (decide (rs < 128) && (decide (0 ≤ kd) && (decide (kd < 4) && decide (n ≤ 60))))))))))

theorem isFrm_iff {tx sq an rs kd : Int} {n : Nat} : isFrm tx sq an rs kd n = true ↔ (0 ≤ tx ∧ tx < 256) ∧ (0 ≤ sq ∧ sq < 4096) ∧ (0 ≤ an ∧ an < 8) ∧ (0 ≤ rs ∧ rs < 128) ∧ (0 ≤ kd ∧ kd < 4) ∧ n ≤ 60 := by
  simp only [isFrm, Bool.and_eq_true, decide_eq_true_eq]
  constructor
  · intro h; omega
  · intro h; omega

/-- The head: the fields, how many bytes there are, and their sum. -/
def headB (h : Nat) (n : Nat) : List Nat := numB h 4 ++ [n] ++ numB (crc16 (numB h 4 ++ [n])) 2

/-- A frame's bytes, by its head's number. -/
def frmB (h : Nat) (ds : List Nat) : List Nat := headB h ds.length ++ ds ++ numB (crc32 (headB h ds.length ++ ds)) 4

theorem headB_length (h n : Nat) : (headB h n).length = 7 := by simp [headB, numB_length]
theorem frmB_length (h : Nat) (ds : List Nat) : (frmB h ds).length = 11 + ds.length := by
  simp only [frmB, List.length_append, headB_length, numB_length]; omega

theorem headB_byte (h n : Nat) (hn : n < 256) : ∀ b ∈ headB h n, b < 256 := by
  intro b hb
  simp only [headB, List.mem_append, List.mem_singleton] at hb
  rcases hb with (hb | hb) | hb
  · exact numB_byte _ _ b hb
  · omega
  · exact numB_byte _ _ b hb

theorem frmB_byte (h : Nat) (ds : List Nat) (hd : ∀ b ∈ ds, b < 256) (hl : ds.length < 256) : ∀ b ∈ frmB h ds, b < 256 := by
  intro b hb
  simp only [frmB, List.mem_append] at hb
  rcases hb with (hb | hb) | hb
  · exact headB_byte h _ hl b hb
  · exact hd b hb
  · exact numB_byte _ _ b hb

/-- What is wrong with bytes; 0: nothing. -/
def parseE (bs : List Nat) : Nat :=
  if bs.length < 11 then 2 else
  if crc16 (bs.take 5) ≠ readB ((bs.drop 5).take 2) then 3 else
  if 60 < bs.getD 4 0 ∨ bs.length ≠ 11 + bs.getD 4 0 then 4 else
  if crc32 (bs.take (7 + bs.getD 4 0)) ≠ readB (bs.drop (7 + bs.getD 4 0)) then 5 else 0

theorem parseE_zero {bs : List Nat} (h : parseE bs = 0) :
    11 ≤ bs.length ∧ crc16 (bs.take 5) = readB ((bs.drop 5).take 2) ∧ bs.getD 4 0 ≤ 60 ∧ bs.length = 11 + bs.getD 4 0 ∧ crc32 (bs.take (7 + bs.getD 4 0)) = readB (bs.drop (7 + bs.getD 4 0)) := by
  unfold parseE at h
  split at h
  · cases h
  split at h
  · cases h
  split at h
  · cases h
  split at h
  · cases h
  rename_i h1 h2 h3 h4
  refine ⟨by omega, Classical.byContradiction h2, by omega, by omega, Classical.byContradiction h4⟩

theorem parseE_ok {bs : List Nat} (h2 : crc16 (bs.take 5) = readB ((bs.drop 5).take 2)) (h3 : bs.getD 4 0 ≤ 60) (h4 : bs.length = 11 + bs.getD 4 0)
    (h5 : crc32 (bs.take (7 + bs.getD 4 0)) = readB (bs.drop (7 + bs.getD 4 0))) : parseE bs = 0 := by
  unfold parseE
  rw [if_neg (by omega), if_neg (by rw [h2]; simp), if_neg (by omega), if_neg (by rw [h5]; simp)]

/-- The head of bytes that begin as a frame. -/
theorem frm_head (h n : Nat) (rest : List Nat) :
    (headB h n ++ rest).take 5 = numB h 4 ++ [n] ∧ ((headB h n ++ rest).drop 5).take 2 = numB (crc16 (numB h 4 ++ [n])) 2 ∧ (headB h n ++ rest).getD 4 0 = n ∧ (headB h n ++ rest).take 4 = numB h 4 := by
  have l4 := numB_length h 4
  have l2 := numB_length (crc16 (numB h 4 ++ [n])) 2
  unfold headB
  generalize numB (crc16 (numB h 4 ++ [n])) 2 = c at l2 ⊢
  generalize numB h 4 = a at l4 ⊢
  match a, l4 with
  | [a0, a1, a2, a3], _ =>
    match c, l2 with
    | [c0, c1], _ => exact ⟨rfl, rfl, rfl, rfl⟩

theorem frm_body (h : Nat) (ds : List Nat) :
    (frmB h ds).take (7 + ds.length) = headB h ds.length ++ ds ∧ (frmB h ds).drop (7 + ds.length) = numB (crc32 (headB h ds.length ++ ds)) 4 ∧ ((frmB h ds).drop 7).take ds.length = ds := by
  have l7 := headB_length h ds.length
  have l : (headB h ds.length ++ ds).length = 7 + ds.length := by rw [List.length_append, l7]
  unfold frmB
  refine ⟨?_, ?_, ?_⟩
  · rw [← l, List.take_left]
  · rw [← l, List.drop_left]
  · rw [List.append_assoc, ← l7, List.drop_left, List.take_left]

theorem read_num (u m : Nat) (h : u < 256 ^ m) : readB (numB u m) = u := by rw [readB_numB]; exact Nat.mod_eq_of_lt h

theorem parse_frm (h : Nat) (ds : List Nat) (hl : ds.length ≤ 60) : parseE (frmB h ds) = 0 := by
  have f := frm_head h ds.length (ds ++ numB (crc32 (headB h ds.length ++ ds)) 4)
  rw [← List.append_assoc] at f
  change (frmB h ds).take 5 = _ ∧ ((frmB h ds).drop 5).take 2 = _ ∧ (frmB h ds).getD 4 0 = _ ∧ (frmB h ds).take 4 = _ at f
  obtain ⟨f1, f2, f3, f4⟩ := f
  obtain ⟨g1, g2, g3⟩ := frm_body h ds
  refine parseE_ok ?_ (by rw [f3]; exact hl) (by rw [f3, frmB_length]) ?_
  · rw [f1, f2, read_num _ 2 (crc16_lt _)]
  · rw [f3, g1, g2, read_num _ 4 (crc32_lt _)]

theorem frm_fields (h : Nat) (ds : List Nat) (hh : h < 4294967296) : readB ((frmB h ds).take 4) = h ∧ (frmB h ds).getD 4 0 = ds.length ∧ ((frmB h ds).drop 7).take ds.length = ds := by
  have f := frm_head h ds.length (ds ++ numB (crc32 (headB h ds.length ++ ds)) 4)
  rw [← List.append_assoc] at f
  change (frmB h ds).take 5 = _ ∧ ((frmB h ds).drop 5).take 2 = _ ∧ (frmB h ds).getD 4 0 = _ ∧ (frmB h ds).take 4 = _ at f
  exact ⟨by rw [f.2.2.2, read_num _ 4 hh], f.2.2.1, (frm_body h ds).2.2⟩

theorem numB_readB (l : List Nat) (h : ∀ b ∈ l, b < 256) : numB (readB l) l.length = l := by
  have key : ∀ m : List Nat, (∀ b ∈ m, b < 256) → numB (readB m.reverse) m.length = m.reverse := by
    intro m
    induction m with
    | nil => intro _; rfl
    | cons a m ih =>
      intro hm
      have ha := hm a (by simp)
      rw [List.reverse_cons, readB_snoc, List.length_cons, numB_succ]
      rw [show (readB m.reverse * 256 + a) / 256 = readB m.reverse from by omega, show (readB m.reverse * 256 + a) % 256 = a from by omega, ih (fun b hb => hm b (by simp [hb]))]
  have := key l.reverse (fun b hb => h b (by simpa using hb))
  simpa using this

theorem readB_inj (l m : List Nat) (hl : ∀ b ∈ l, b < 256) (hm : ∀ b ∈ m, b < 256) (hlen : l.length = m.length) (h : readB l = readB m) : l = m := by
  rw [← numB_readB l hl, ← numB_readB m hm, h, hlen]

theorem mem_take' {l : List Nat} (h : ∀ b ∈ l, b < 256) (n : Nat) : ∀ b ∈ l.take n, b < 256 := fun b hb => h b (List.mem_of_mem_take hb)
theorem mem_drop' {l : List Nat} (h : ∀ b ∈ l, b < 256) (n : Nat) : ∀ b ∈ l.drop n, b < 256 := fun b hb => h b (List.mem_of_mem_drop hb)

theorem split_head (bs : List Nat) (h : 11 ≤ bs.length) : bs.take 7 = bs.take 4 ++ [bs.getD 4 0] ++ (bs.drop 5).take 2 := by
  match bs, h with
  | b0 :: b1 :: b2 :: b3 :: b4 :: b5 :: b6 :: r, _ => rfl

theorem split_five (bs : List Nat) (h : 11 ≤ bs.length) : bs.take 5 = bs.take 4 ++ [bs.getD 4 0] := by
  match bs, h with
  | b0 :: b1 :: b2 :: b3 :: b4 :: b5 :: b6 :: r, _ => rfl

/-- Bytes that are parsed are the frame's that they say. -/
theorem frm_parse (bs : List Nat) (hb : ∀ b ∈ bs, b < 256) (h : parseE bs = 0) : frmB (readB (bs.take 4)) ((bs.drop 7).take (bs.getD 4 0)) = bs := by
  obtain ⟨h1, h2, h3, h4, h5⟩ := parseE_zero h
  have n4 : numB (readB (bs.take 4)) 4 = bs.take 4 := by
    have := numB_readB (bs.take 4) (mem_take' hb 4)
    rwa [show (bs.take 4).length = 4 from by simp; omega] at this
  have n2 : numB (crc16 (bs.take 5)) 2 = (bs.drop 5).take 2 := by
    have := numB_readB ((bs.drop 5).take 2) (mem_take' (mem_drop' hb 5) 2)
    rw [show ((bs.drop 5).take 2).length = 2 from by simp; omega] at this
    rw [h2]; exact this
  have nd : numB (crc32 (bs.take (7 + bs.getD 4 0))) 4 = bs.drop (7 + bs.getD 4 0) := by
    have := numB_readB (bs.drop (7 + bs.getD 4 0)) (mem_drop' hb _)
    rw [show (bs.drop (7 + bs.getD 4 0)).length = 4 from by simp only [List.length_drop]; omega] at this
    rw [h5]; exact this
  have ld : ((bs.drop 7).take (bs.getD 4 0)).length = bs.getD 4 0 := by simp only [List.length_take, List.length_drop]; omega
  have hd : headB (readB (bs.take 4)) (bs.getD 4 0) = bs.take 7 := by
    unfold headB
    rw [n4, ← split_five bs h1, n2, split_five bs h1, ← split_head bs h1]
  have hbody : bs.take 7 ++ (bs.drop 7).take (bs.getD 4 0) = bs.take (7 + bs.getD 4 0) := by rw [List.take_add]
  unfold frmB
  rw [ld, hd, hbody, nd, List.take_append_drop]

/-- A frame's bytes with one byte turned are no frame's. -/
theorem frm_turned (bs : List Nat) (hb : ∀ b ∈ bs, b < 256) (h : parseE bs = 0) (k x : Nat) (hk : k < bs.length) (hx : x < 256) (hne : x ≠ bs.getD k 0) : parseE (bs.set k x) ≠ 0 := by
  intro h'
  obtain ⟨_, _, a3, a4, a5⟩ := parseE_zero h
  obtain ⟨_, _, _, b4, b5⟩ := parseE_zero h'
  rw [List.length_set] at b4
  have e4 : (bs.set k x).getD 4 0 = bs.getD 4 0 := by omega
  rw [e4] at b5
  generalize hs : 7 + bs.getD 4 0 = s at a5 b5
  by_cases hks : k < s
  · have hd : (bs.set k x).drop s = bs.drop s := by rw [List.drop_set_of_lt hks]
    have ht : (bs.set k x).take s = (bs.take s).set k x := by rw [List.take_set]
    rw [hd, ht, ← a5] at b5
    have hkl : k < (bs.take s).length := by rw [List.length_take]; omega
    have hg : (bs.take s).getD k 0 = bs.getD k 0 := getD_take' bs s k hks
    exact (crc_one (bs.take s) (mem_take' hb s) k x hkl hx (by rw [hg]; exact hne)).2 b5.symm
  · have ht : (bs.set k x).take s = bs.take s := by rw [List.take_set_of_le (by omega)]
    rw [ht, a5] at b5
    have e := readB_inj _ _ (mem_drop' hb s) (mem_drop' (mem_set_byte hb k x hx) s) (by simp) b5
    have e2 := congrArg (fun l => l.getD (k - s) 0) e
    simp only [getD_drop', show s + (k - s) = k from by omega, getD_set, hk, and_self, if_true] at e2
    exact hne e2.symm

/-- Cut off, it is none: too short, or of another length. -/
theorem frm_cut (bs : List Nat) (h : parseE bs = 0) (j : Nat) (hj : j < bs.length) : parseE (bs.take j) = 2 ∨ parseE (bs.take j) = 4 := by
  obtain ⟨a1, a2, a3, a4, _⟩ := parseE_zero h
  by_cases h11 : j < 11
  · left
    unfold parseE
    rw [if_pos (by rw [List.length_take]; omega)]
  · right
    have e5 : (bs.take j).take 5 = bs.take 5 := by rw [List.take_take, show min 5 j = 5 from by omega]
    have e2 : ((bs.take j).drop 5).take 2 = (bs.drop 5).take 2 := by rw [List.drop_take, List.take_take, show min 2 (j - 5) = 2 from by omega]
    have e4 : (bs.take j).getD 4 0 = bs.getD 4 0 := getD_take' bs j 4 (by omega)
    have el : (bs.take j).length = j := by rw [List.length_take]; omega
    unfold parseE
    rw [if_neg (by omega), e5, e2, a2, if_neg (by simp), e4, el, if_pos (by omega)]

/-- With a byte more, it is none. -/
theorem frm_more (bs : List Nat) (h : parseE bs = 0) (x : Nat) : parseE (bs ++ [x]) = 4 := by
  obtain ⟨a1, a2, a3, a4, _⟩ := parseE_zero h
  have e5 : (bs ++ [x]).take 5 = bs.take 5 := by rw [List.take_append_of_le_length (by omega)]
  have e2 : ((bs ++ [x]).drop 5).take 2 = (bs.drop 5).take 2 := by rw [List.drop_append_of_le_length (by omega), List.take_append_of_le_length (by rw [List.length_drop]; omega)]
  have e4 : (bs ++ [x]).getD 4 0 = bs.getD 4 0 := by
    rw [List.getD_eq_getElem?_getD, List.getElem?_append_left (by omega), ← List.getD_eq_getElem?_getD]
  have el : (bs ++ [x]).length = bs.length + 1 := by simp
  unfold parseE
  rw [if_neg (by omega), e5, e2, a2, if_neg (by simp), e4, el, if_pos (by omega)]

/-- A head's number and its fields. -/
theorem headN_lt (tx sq an rs kd : Nat) (h1 : tx < 256) (h2 : sq < 4096) (h3 : an < 8) (h4 : rs < 128) (h5 : kd < 4) : headN tx sq an rs kd < 4294967296 := by
  unfold headN; omega

theorem headN_fields (tx sq an rs kd : Nat) (h2 : sq < 4096) (h3 : an < 8) (h4 : rs < 128) (h5 : kd < 4) :
    headN tx sq an rs kd % 4 = kd ∧ headN tx sq an rs kd / 4 % 128 = rs ∧ headN tx sq an rs kd / 512 % 8 = an ∧ headN tx sq an rs kd / 4096 % 4096 = sq ∧ headN tx sq an rs kd / 16777216 = tx := by
  unfold headN
  refine ⟨?_, ?_, ?_, ?_, ?_⟩ <;> omega

theorem headN_of (n : Nat) : headN (n / 16777216) (n / 4096 % 4096) (n / 512 % 8) (n / 4 % 128) (n % 4) = n := by
  unfold headN; omega

theorem frmB_inj (h g : Nat) (ds es : List Nat) (hh : h < 4294967296) (hg : g < 4294967296) (e : frmB h ds = frmB g es) : h = g ∧ ds = es := by
  have a := frm_fields h ds hh
  have b := frm_fields g es hg
  rw [e] at a
  have e1 : h = g := a.1.symm.trans b.1
  have e2 : ds.length = es.length := a.2.1.symm.trans b.2.1
  refine ⟨e1, ?_⟩
  rw [← a.2.2, e2]; exact b.2.2

/-- The head as bits: five fields one behind the other. -/
theorem head_bits (tx sq an rs kd : Nat) (h2 : sq < 4096) (h3 : an < 8) (h4 : rs < 128) (h5 : kd < 4) :
    fld 8 tx ++ fld 12 sq ++ fld 3 an ++ fld 7 rs ++ fld 2 kd = fld 32 (headN tx sq an rs kd) := by
  have s1 := fld_split 30 2 (headN tx sq an rs kd)
  have s2 := fld_split 23 7 (headN tx sq an rs kd / 2 ^ 2)
  have s3 := fld_split 20 3 (headN tx sq an rs kd / 2 ^ 2 / 2 ^ 7)
  have s4 := fld_split 8 12 (headN tx sq an rs kd / 2 ^ 2 / 2 ^ 7 / 2 ^ 3)
  rw [show (32 : Nat) = 30 + 2 from rfl, s1, show (30 : Nat) = 23 + 7 from rfl, s2, show (23 : Nat) = 20 + 3 from rfl, s3, show (20 : Nat) = 8 + 12 from rfl, s4]
  have e5 : headN tx sq an rs kd % 2 ^ 2 = kd := by unfold headN; omega
  have e4 : headN tx sq an rs kd / 2 ^ 2 % 2 ^ 7 = rs := by unfold headN; omega
  have e3 : headN tx sq an rs kd / 2 ^ 2 / 2 ^ 7 % 2 ^ 3 = an := by unfold headN; omega
  have e2 : headN tx sq an rs kd / 2 ^ 2 / 2 ^ 7 / 2 ^ 3 % 2 ^ 12 = sq := by unfold headN; omega
  have e1 : headN tx sq an rs kd / 2 ^ 2 / 2 ^ 7 / 2 ^ 3 / 2 ^ 12 = tx := by unfold headN; omega
  rw [e1, e2, e3, e4, e5]

/-- Thirty-two bits as bytes. -/
theorem fld32_unpack (n : Nat) : fld 32 n = unpack (numB n 4) := by
  have e : numB n 4 = [n / 16777216 % 256, n / 65536 % 256, n / 256 % 256, n % 256] := by
    rw [numB_succ, numB_succ, numB_succ, numB_succ]
    simp only [numB, List.range_zero, List.map_nil, List.nil_append, List.cons_append, Nat.div_div_eq_div_mul]
  rw [e]
  have s1 := fld_split 24 8 n
  have s2 := fld_split 16 8 (n / 2 ^ 8)
  have s3 := fld_split 8 8 (n / 2 ^ 8 / 2 ^ 8)
  rw [show (32 : Nat) = 24 + 8 from rfl, s1, show (24 : Nat) = 16 + 8 from rfl, s2, show (16 : Nat) = 8 + 8 from rfl, s3]
  have m8 : fld 8 (n / 2 ^ 8 / 2 ^ 8 / 2 ^ 8) = fld 8 (n / 16777216 % 256) := by
    apply num_inj _ _ (fld_bits _ _) (fld_bits _ _) (by rw [fld_length, fld_length])
    rw [num_fld, num_fld]; omega
  rw [m8, show n / 2 ^ 8 / 2 ^ 8 % 2 ^ 8 = n / 65536 % 256 from by omega, show n / 2 ^ 8 % 2 ^ 8 = n / 256 % 256 from by omega, show n % 2 ^ 8 = n % 256 from rfl]
  simp [unpack]

theorem pack_fld32 (n : Nat) : pack (fld 32 n) = numB n 4 := by
  rw [fld32_unpack, pack_unpack _ (numB_byte _ _)]

end Go.Proofs.YtohedeeajcdjcaaDoor.Bt
