/- Plain: a text of samples as bits: fields of 8, 3, 8, 10 and 3. -/
import Derived.Test.YthbfdfkkacmbhabDoorRcPure
import Derived.Test.YthbfdfkkacmbhabDoorPure
namespace Go.Proofs.YthbfdfkkacmbhabDoor.Bt

/-- Three bytes of a number as bits. -/
theorem unpack_num3 {N : Nat} (h : N < 16777216) : unpack (numB N 3) = fld 24 N := by
  have e : numB N 3 = [N / 65536, N / 256 % 256, N % 256] := by
    simp only [numB, List.range_succ, List.range_zero, List.nil_append, List.map_cons, List.map_nil, List.cons_append]
    simp
    omega
  rw [e]
  simp only [unpack, List.flatMap_cons, List.flatMap_nil, List.append_nil]
  rw [show (24 : Nat) = 8 + 16 from rfl, fld_split 8 16 N, show (16 : Nat) = 8 + 8 from rfl, fld_split 8 8 (N % 2 ^ (8 + 8))]
  congr 2
  · congr 1
    omega
  · congr 1
    omega

/-- A sample's fields. -/
theorem sample_bits {s : Smp} (h : rightM s = true) : fld 3 s.kind.toNat ++ (fld 8 s.tick.toNat ++ (fld 10 s.value.toNat ++ fld 3 0)) = unpack (smB s) := by
  obtain ⟨h1, h2, h3, _⟩ := rightM_true h
  obtain ⟨k, t, v⟩ := s
  obtain ⟨K, rfl⟩ := Int.eq_ofNat_of_zero_le (show 0 ≤ k by simp only at h1; omega)
  obtain ⟨T, rfl⟩ := Int.eq_ofNat_of_zero_le (show 0 ≤ t from h2.1)
  obtain ⟨V, rfl⟩ := Int.eq_ofNat_of_zero_le (show 0 ≤ v from h3.1)
  simp only at h1 h2 h3
  have hN : smN ⟨(K : Int), (T : Int), (V : Int)⟩ = ((K * 256 + T) * 1024 + V) * 8 := by unfold smN; simp only; omega
  unfold smB
  rw [unpack_num3 (smN_lt h), hN]
  simp only [Int.toNat_natCast]
  generalize hM : ((K * 256 + T) * 1024 + V) * 8 = M
  rw [show (24 : Nat) = 3 + 21 from rfl, fld_split 3 21 M, show (21 : Nat) = 8 + 13 from rfl, fld_split 8 13 (M % 2 ^ (8 + 13)), show (13 : Nat) = 10 + 3 from rfl, fld_split 10 3 (M % 2 ^ (8 + (10 + 3)) % 2 ^ (10 + 3))]
  have a1 : M / 2 ^ (8 + (10 + 3)) = K := by omega
  have a2 : M % 2 ^ (8 + (10 + 3)) / 2 ^ (10 + 3) = T := by omega
  have a3 : M % 2 ^ (8 + (10 + 3)) % 2 ^ (10 + 3) / 2 ^ 3 = V := by omega
  have a4 : M % 2 ^ (8 + (10 + 3)) % 2 ^ (10 + 3) % 2 ^ 3 = 0 := by omega
  rw [a1, a2, a3, a4]

/-- A text's fields. -/
def bitsM (l : List Smp) (i : Nat) : List Nat := fld 8 l.length ++ (l.take i).flatMap (fun s => fld 3 s.kind.toNat ++ (fld 8 s.tick.toNat ++ (fld 10 s.value.toNat ++ fld 3 0)))

theorem bitsM_all {l : List Smp} (h : allR l = true) : bitsM l l.length = unpack (textM l) := by
  unfold bitsM textM
  rw [unpack_cons, List.take_length]
  congr 1
  have hr : ∀ s ∈ l, rightM s = true := List.all_eq_true.1 h
  clear h
  induction l with
  | nil => rfl
  | cons s l ih =>
    rw [List.flatMap_cons, List.flatMap_cons, unpack_append, sample_bits (hr s (List.mem_cons_self ..)), ih (fun x hx => hr x (List.mem_cons_of_mem _ hx))]

theorem bitsM_step (l : List Smp) {i : Nat} (hi : i < l.length) : bitsM l (i + 1) = bitsM l i ++ (fld 3 l[i].kind.toNat ++ (fld 8 l[i].tick.toNat ++ (fld 10 l[i].value.toNat ++ fld 3 0))) := by
  unfold bitsM
  rw [List.take_add_one, List.getElem?_eq_getElem hi, List.flatMap_append, List.append_assoc]
  simp

/-- The bits of a text, as bytes. -/
theorem bitsM_pack {l : List Smp} (h : allR l = true) (hl : l.length < 256) : pack (bitsM l l.length) = textM l := by
  rw [bitsM_all h]
  refine pack_unpack _ (fun b hb => ?_)
  unfold textM at hb
  rcases List.mem_cons.1 hb with q | q
  · omega
  · obtain ⟨s, _, r⟩ := List.mem_flatMap.1 q
    exact numB_byte _ _ b r

/-- The bits of three bytes. -/
theorem unpack_at {bs : List Nat} {i : Nat} (h : i + 3 ≤ bs.length) (hY : ∀ b ∈ bs, b < 256) : ((unpack bs).drop (8 * i)).take 24 = fld 24 (readB ((bs.drop i).take 3)) := by
  have e : bs = bs.take i ++ ((bs.drop i).take 3 ++ bs.drop (i + 3)) := by
    rw [show bs.drop (i + 3) = (bs.drop i).drop 3 by rw [List.drop_drop], List.take_append_drop, List.take_append_drop]
  have l1 : (unpack (bs.take i)).length = 8 * i := by rw [unpack_length, List.length_take]; omega
  have l2 : (unpack ((bs.drop i).take 3)).length = 24 := by rw [unpack_length, List.length_take, List.length_drop]; omega
  have s1 : (unpack bs).drop (8 * i) = unpack ((bs.drop i).take 3) ++ unpack (bs.drop (i + 3)) := by
    conv => lhs; rw [e]
    rw [unpack_append, unpack_append, ← l1, List.drop_left]
  have t : (unpack ((bs.drop i).take 3) ++ unpack (bs.drop (i + 3))).take 24 = unpack ((bs.drop i).take 3) := by
    rw [← l2]
    exact List.take_left ..
  rw [s1, t]
  clear t s1 l1 l2 e
  have e3 := take3 bs h
  have hyb : ∀ j, bs.getD j 0 < 256 := fun j => by
    by_cases q : j < bs.length
    · rw [List.getD_eq_getElem?_getD, List.getElem?_eq_getElem q]
      exact hY _ (List.getElem_mem q)
    · rw [List.getD_eq_getElem?_getD, List.getElem?_eq_none (by omega)]
      decide
  rw [e3]
  have q := numB_readB (hyb i) (hyb (i + 1)) (hyb (i + 2))
  have hlt : readB [bs.getD i 0, bs.getD (i + 1) 0, bs.getD (i + 2) 0] < 16777216 := by
    have a1 := hyb i
    have a2 := hyb (i + 1)
    have a3 := hyb (i + 2)
    have e2 : readB [bs.getD i 0, bs.getD (i + 1) 0, bs.getD (i + 2) 0] = (bs.getD i 0 * 256 + bs.getD (i + 1) 0) * 256 + bs.getD (i + 2) 0 := by simp [readB]
    rw [e2]
    omega
  rw [← unpack_num3 hlt, q]

/-- The four fields of a sample, out of its number. -/
theorem fld24_parts (N : Nat) : fld 24 N = fld 3 (N / 2097152) ++ (fld 8 (N / 8192 % 256) ++ (fld 10 (N / 8 % 1024) ++ fld 3 (N % 8))) := by
  rw [show (24 : Nat) = 3 + 21 from rfl, fld_split 3 21 N, show (21 : Nat) = 8 + 13 from rfl, fld_split 8 13 (N % 2 ^ (8 + 13)), show (13 : Nat) = 10 + 3 from rfl, fld_split 10 3 (N % 2 ^ (8 + (10 + 3)) % 2 ^ (10 + 3))]
  have a1 : N / 2 ^ (8 + (10 + 3)) = N / 2097152 := by omega
  have a2 : N % 2 ^ (8 + (10 + 3)) / 2 ^ (10 + 3) = N / 8192 % 256 := by omega
  have a3 : N % 2 ^ (8 + (10 + 3)) % 2 ^ (10 + 3) / 2 ^ 3 = N / 8 % 1024 := by omega
  have a4 : N % 2 ^ (8 + (10 + 3)) % 2 ^ (10 + 3) % 2 ^ 3 = N % 8 := by omega
  rw [a1, a2, a3, a4]

/-- What an eye reads of a sample's three bytes: each field's number. -/
theorem num_parts {N : Nat} (h : N < 16777216) : num ((fld 24 N).take 3) = N / 2097152 ∧ num (((fld 24 N).drop 3).take 8) = N / 8192 % 256 ∧ num (((fld 24 N).drop 11).take 10) = N / 8 % 1024 ∧ num (((fld 24 N).drop 21).take 3) = N % 8 := by
  rw [fld24_parts]
  have d1 (a b c d : List Nat) (ha : a.length = 3) : (a ++ (b ++ (c ++ d))).drop 3 = b ++ (c ++ d) := by rw [← ha]; exact List.drop_left ..
  have d2 (a b c d : List Nat) (ha : a.length = 3) (hb : b.length = 8) : (a ++ (b ++ (c ++ d))).drop 11 = c ++ d := by
    rw [show (11 : Nat) = 3 + 8 from rfl, ← List.drop_drop, d1 a b c d ha, ← hb]; exact List.drop_left ..
  have d3 (a b c d : List Nat) (ha : a.length = 3) (hb : b.length = 8) (hc : c.length = 10) : (a ++ (b ++ (c ++ d))).drop 21 = d := by
    rw [show (21 : Nat) = 11 + 10 from rfl, ← List.drop_drop, d2 a b c d ha hb, ← hc]; exact List.drop_left ..
  have tk (a b : List Nat) (n : Nat) (ha : a.length = n) : (a ++ b).take n = a := by rw [← ha]; exact List.take_left ..
  have ln (n x : Nat) : (fld n x).length = n := fld_length n x
  rw [d1 _ _ _ _ (ln 3 _), d2 _ _ _ _ (ln 3 _) (ln 8 _), d3 _ _ _ _ (ln 3 _) (ln 8 _) (ln 10 _), tk _ _ _ (ln 3 _), tk _ _ _ (ln 8 _), tk _ _ _ (ln 10 _), List.take_of_length_le (Nat.le_of_eq (ln 3 _)), num_fld, num_fld, num_fld, num_fld]
  refine ⟨?_, ?_, ?_, ?_⟩ <;> omega

end Go.Proofs.YthbfdfkkacmbhabDoor.Bt
