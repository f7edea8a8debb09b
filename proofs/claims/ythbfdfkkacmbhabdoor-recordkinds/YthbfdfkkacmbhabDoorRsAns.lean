/- Plain: what layer 5 answers, and what follows of it; no program is named here. -/
import Derived.Test.YthbfdfkkacmbhabDoorRsSolve
namespace Go.Proofs.YthbfdfkkacmbhabDoor.Bt

/-- May it be? -/
def mayC (k n s : Int) : Bool := decide (1 ≤ k) && decide (k ≤ 6) && decide (k ≤ n) && decide (n ≤ 10) && decide (1 ≤ s) && decide (s ≤ 24)

theorem mayC_true {k n s : Int} (h : mayC k n s = true) : 1 ≤ k ∧ k ≤ 6 ∧ k ≤ n ∧ n ≤ 10 ∧ 1 ≤ s ∧ s ≤ 24 := by
  simp [mayC] at h; omega

theorem mayC_false {k n s : Int} (h : ¬ (1 ≤ k ∧ k ≤ 6 ∧ k ≤ n ∧ n ≤ 10 ∧ 1 ≤ s ∧ s ≤ 24)) : mayC k n s = false := by
  rcases e : mayC k n s with _ | _
  · rfl
  · exact absurd (mayC_true e) h

/-- What Pad answers. -/
def padB (k n s : Int) (bs : List Nat) : List Nat := if mayC k n s = true ∧ (bs.length : Int) ≤ k * s then bs ++ List.replicate ((k * s).toNat - bs.length) 0 else []

/-- What is told at a place. -/
def valsP (S : Nat) (text : List Nat) (p t : Nat) : List Nat := (List.range t).map (fun k => text.getD (k * S + p) 0)

/-- A shard's byte. -/
def shB (K S : Nat) (text : List Nat) (i p : Nat) : Nat := if i < K then text.getD (i * S + p) 0 else pev (poly (List.range K) (valsP S text p K)) i

/-- A shard's bytes, so far. -/
def shL (K S : Nat) (text : List Nat) (P i : Nat) : List Nat := (List.range P).map (shB K S text i)

theorem shL_succ (K S : Nat) (text : List Nat) (P i : Nat) : shL K S text (P + 1) i = shL K S text P i ++ [shB K S text i P] := by simp [shL, List.range_succ]

theorem shL_length (K S : Nat) (text : List Nat) (P i : Nat) : (shL K S text P i).length = P := by simp [shL]

theorem range_byt (K : Nat) (h : K ≤ 256) : Byt (List.range K) := fun x hx => by have := List.mem_range.1 hx; omega

theorem valsP_byt {S : Nat} {text : List Nat} (h : Byt text) (p t : Nat) : Byt (valsP S text p t) := fun x hx => by
  obtain ⟨k, _, rfl⟩ := List.mem_map.1 hx
  exact getD_byt h _

theorem valsP_length (S : Nat) (text : List Nat) (p t : Nat) : (valsP S text p t).length = t := by simp [valsP]

theorem valsP_succ (S : Nat) (text : List Nat) (p t : Nat) : valsP S text p (t + 1) = valsP S text p t ++ [text.getD (t * S + p) 0] := by simp [valsP, List.range_succ]

theorem mul_in {K S i p : Nat} (hi : i < K) (hp : p < S) : i * S + p < K * S := by
  have := Nat.mul_le_mul_right S (show i + 1 ≤ K from hi)
  rw [Nat.succ_mul] at this
  omega


theorem valsP_getD {S : Nat} {text : List Nat} {p t r : Nat} (h : r < t) : (valsP S text p t).getD r 0 = text.getD (r * S + p) 0 := by
  rw [← List.getElem_eq_getD (h := by rw [valsP_length]; exact h) 0]
  simp [valsP]

/-- The polynomial at a place. -/
def polP (K S : Nat) (text : List Nat) (p : Nat) : List Nat := poly (List.range K) (valsP S text p K)

theorem polP_spec {K S : Nat} {text : List Nat} (hK : K ≤ 256) (ht : Byt text) (p : Nat) :
    Byt (polP K S text p) ∧ (polP K S text p).length = K ∧ ∀ i, i < K → pev (polP K S text p) i = text.getD (i * S + p) 0 := by
  obtain ⟨h1, h2, h3⟩ := poly_spec (range_byt K hK) List.nodup_range (valsP_byt (S := S) ht p K) (by rw [valsP_length, List.length_range])
  rw [List.length_range] at h2 h3
  refine ⟨h1, h2, fun i hi => ?_⟩
  have := h3 i hi
  rw [← List.getElem_eq_getD (h := by simpa using hi) 0, List.getElem_range] at this
  unfold polP
  rw [this, ← List.getElem_eq_getD (h := by rw [valsP_length]; exact hi) 0]
  simp [valsP]

theorem shB_pev {K S : Nat} {text : List Nat} (hK : K ≤ 256) (ht : Byt text) (i p : Nat) : shB K S text i p = pev (polP K S text p) i := by
  unfold shB
  split
  · rename_i h; rw [(polP_spec hK ht p).2.2 i h]
  · rfl

theorem shB_lt {K S : Nat} {text : List Nat} (hK : K ≤ 256) (ht : Byt text) {i : Nat} (hi : i < 256) (p : Nat) : shB K S text i p < 256 := by
  rw [shB_pev hK ht]; exact pev_lt (polP_spec hK ht p).1 hi

theorem shL_byt {K S : Nat} {text : List Nat} (hK : K ≤ 256) (ht : Byt text) {i : Nat} (hi : i < 256) (P : Nat) : Byt (shL K S text P i) := fun x hx => by
  obtain ⟨p, _, rfl⟩ := List.mem_map.1 hx
  exact shB_lt hK ht hi p

theorem shL_getD {K S : Nat} {text : List Nat} {P i p : Nat} (hp : p < P) : (shL K S text P i).getD p 0 = shB K S text i p := by
  rw [← List.getElem_eq_getD (h := by rw [shL_length]; exact hp) 0]
  simp [shL]

/-- Encode's error. -/
def encE (k n s : Int) (len : Nat) : Int := if mayC k n s = true then (if (len : Int) = k * s then 0 else 4) else 1

/-- All shards of a text. -/
def encL (K N S : Nat) (text : List Nat) : List (List Nat) := (List.range N).map (shL K S text S)

/-- What Encode answers. -/
def encA (k n s : Int) (text : List Nat) : List (List Nat) := if encE k n s text.length = 0 then encL k.toNat n.toNat s.toNat text else []

theorem encL_length (K N S : Nat) (text : List Nat) : (encL K N S text).length = N := by simp [encL]

theorem encL_getD {K N S : Nat} {text : List Nat} {i : Nat} (h : i < N) : (encL K N S text).getD i [] = shL K S text S i := by
  rw [← List.getElem_eq_getD (h := by rw [encL_length]; exact h) []]
  simp [encL]

theorem encE_ok {k n s : Int} {len : Nat} (h : encE k n s len = 0) : mayC k n s = true ∧ (len : Int) = k * s := by
  unfold encE at h
  split at h
  · rename_i h1
    split at h
    · rename_i h2; exact ⟨h1, h2⟩
    · exact absurd h (by decide)
  · exact absurd h (by decide)

/-- Which shards are there. -/
def there (L : List (List Nat)) : List Nat := (List.range L.length).filter (fun i => decide (0 < (L.getD i []).length))

/-- Decode's error. -/
def decE (k n s : Int) (L : List (List Nat)) : Int :=
  if mayC k n s = true then (if (L.length : Int) = n then (if L.all (fun r => decide (r.length = 0) || decide ((r.length : Int) = s)) = true then (if k ≤ ((there L).length : Int) then 0 else 8) else 4) else 4) else 1

/-- Which shards say the text. -/
def decAt (K : Nat) (L : List (List Nat)) : List Nat := (there L).take K

/-- What they have at a place. -/
def decV (L : List (List Nat)) (at_ : List Nat) (p : Nat) : List Nat := at_.map (fun j => (L.getD j []).getD p 0)

/-- A byte that is decoded. -/
def decB (K : Nat) (L : List (List Nat)) (i p : Nat) : Nat := pev (poly (decAt K L) (decV L (decAt K L) p)) i

/-- The text that is decoded. -/
def decT (K S : Nat) (L : List (List Nat)) : List Nat := (List.range (K * S)).map (fun j => decB K L (j / S) (j % S))

/-- What Decode answers. -/
def decA (k n s : Int) (L : List (List Nat)) : List Nat := if decE k n s L = 0 then decT k.toNat s.toNat L else []

theorem decT_length (K S : Nat) (L : List (List Nat)) : (decT K S L).length = K * S := by simp [decT]

theorem there_lt {L : List (List Nat)} {i : Nat} (h : i ∈ there L) : i < L.length := List.mem_range.1 (List.mem_filter.1 h).1

theorem there_pos {L : List (List Nat)} {i : Nat} (h : i ∈ there L) : 0 < (L.getD i []).length := by simpa using (List.mem_filter.1 h).2

theorem there_nodup (L : List (List Nat)) : (there L).Nodup := List.nodup_range.filter _

theorem decAt_mem {K : Nat} {L : List (List Nat)} {i : Nat} (h : i ∈ decAt K L) : i ∈ there L := List.mem_of_mem_take h

theorem decAt_byt {K : Nat} {L : List (List Nat)} (hL : L.length ≤ 256) : Byt (decAt K L) := fun x hx => by
  have := there_lt (decAt_mem hx); omega

theorem decAt_nodup (K : Nat) (L : List (List Nat)) : (decAt K L).Nodup := (there_nodup L).sublist (List.take_sublist _ _)

theorem decAt_length {K : Nat} {L : List (List Nat)} (h : K ≤ (there L).length) : (decAt K L).length = K := by simp [decAt, h]

/-- Rows of bytes. -/
def BytL (L : List (List Nat)) : Prop := ∀ r ∈ L, Byt r

theorem getD_bytL {L : List (List Nat)} (h : BytL L) (j : Nat) : Byt (L.getD j []) := by
  by_cases hj : j < L.length
  · rw [← List.getElem_eq_getD (h := hj) []]; exact h _ (List.getElem_mem hj)
  · rw [List.getD_eq_getElem?_getD, List.getElem?_eq_none (by omega)]; exact Byt.nil

theorem decV_byt {L : List (List Nat)} (h : BytL L) (at_ : List Nat) (p : Nat) : Byt (decV L at_ p) := fun x hx => by
  obtain ⟨j, _, rfl⟩ := List.mem_map.1 hx
  exact getD_byt (getD_bytL h j) p

theorem decB_lt {K : Nat} {L : List (List Nat)} (hL : L.length ≤ 256) (h : BytL L) {i : Nat} (hi : i < 256) (p : Nat) : decB K L i p < 256 := by
  obtain ⟨h1, _, _⟩ := poly_spec (decAt_byt (K := K) hL) (decAt_nodup K L) (decV_byt h (decAt K L) p) (by simp [decV])
  exact pev_lt h1 hi

theorem decT_byt {K S : Nat} {L : List (List Nat)} (hK : K ≤ 256) (hL : L.length ≤ 256) (h : BytL L) : Byt (decT K S L) := fun x hx => by
  obtain ⟨j, hj, rfl⟩ := List.mem_map.1 hx
  have hj := List.mem_range.1 hj
  refine decB_lt hL h ?_ _
  have : j / S < K := Nat.div_lt_of_lt_mul (by rw [Nat.mul_comm]; exact hj)
  omega

/-- What comes of shards that are a text's, as many as its data has: the text's polynomial. -/
theorem dec_poly {K S : Nat} {text : List Nat} {L : List (List Nat)} (hK : K ≤ 256) (hL : L.length ≤ 256) (ht : Byt text) (hn : K ≤ (there L).length)
    (hs : ∀ j, j ∈ there L → L.getD j [] = shL K S text S j) {p : Nat} (hp : p < S) : poly (decAt K L) (decV L (decAt K L) p) = polP K S text p := by
  obtain ⟨h1, h2, _⟩ := polP_spec (S := S) hK ht p
  have hl := decAt_length hn
  have hv : Byt (decV L (decAt K L) p) := fun x hx => by
    obtain ⟨j, hj, rfl⟩ := List.mem_map.1 hx
    have := there_lt (decAt_mem hj)
    rw [hs j (decAt_mem hj), shL_getD hp]
    exact shB_lt hK ht (by omega) p
  refine (poly_only (decAt_byt hL) (decAt_nodup K L) hv (by simp [decV]) h1 (by omega) (fun r hr => ?_)).symm
  have hm : (decAt K L)[r] ∈ there L := decAt_mem (List.getElem_mem hr)
  rw [← List.getElem_eq_getD (h := hr) 0, ← List.getElem_eq_getD (h := by simpa [decV] using hr) 0]
  simp only [decV, List.getElem_map]
  rw [hs _ hm, shL_getD hp, shB_pev hK ht]

theorem dec_back {K S : Nat} {text : List Nat} {L : List (List Nat)} (hK : K ≤ 256) (hS : 0 < S) (hL : L.length ≤ 256) (ht : Byt text) (hlen : text.length = K * S) (hn : K ≤ (there L).length)
    (hs : ∀ j, j ∈ there L → L.getD j [] = shL K S text S j) : decT K S L = text := by
  apply List.ext_getElem
  · rw [decT_length, hlen]
  · intro j h1 h2
    have hj : j < K * S := by rw [← hlen]; exact h2
    have hm := Nat.mod_lt j hS
    have hd : j / S < K := Nat.div_lt_of_lt_mul (by rw [Nat.mul_comm]; exact hj)
    simp only [decT, List.getElem_map, List.getElem_range, decB]
    rw [dec_poly hK hL ht hn hs hm, (polP_spec hK ht _).2.2 _ hd, Nat.mul_comm, Nat.div_add_mod, ← List.getElem_eq_getD (h := h2) 0]

/-- Shards of a sum of texts. -/
theorem shB_xor {K S : Nat} {a b c : List Nat} (hK : K ≤ 256) (ha : Byt a) (hb : Byt b) (hc : Byt c) (he : ∀ j, j < K * S → c.getD j 0 = a.getD j 0 ^^^ b.getD j 0) {i p : Nat} (hp : p < S) :
    shB K S c i p = shB K S a i p ^^^ shB K S b i p := by
  obtain ⟨a1, a2, a3⟩ := polP_spec (S := S) hK ha p
  obtain ⟨b1, b2, b3⟩ := polP_spec (S := S) hK hb p
  have e : padd (polP K S a p) (polP K S b p) = polP K S c p := by
    refine poly_only (range_byt K hK) List.nodup_range (valsP_byt hc p K) (by rw [valsP_length, List.length_range]) (padd_byt a1 b1) (by rw [padd_length, a2, b2, Nat.max_self, List.length_range]) (fun r hr => ?_)
    have hr' : r < K := by simpa using hr
    rw [valsP_getD hr', ← List.getElem_eq_getD (h := hr) 0, List.getElem_range, pev_padd, a3 r hr', b3 r hr', he _ (mul_in hr' hp)]
  rw [shB_pev hK ha, shB_pev hK hb, shB_pev hK hc, ← e, pev_padd]

/-- Of one shard of data all shards are the text. -/
theorem shL_one {S : Nat} {text : List Nat} (ht : Byt text) (hl : text.length = S) {i : Nat} (hi : i < 256) : shL 1 S text S i = text := by
  apply List.ext_getElem
  · rw [shL_length, hl]
  · intro p h1 h2
    have hp : p < S := by rw [← hl]; exact h2
    simp only [shL, List.getElem_map, List.getElem_range]
    rw [shB_pev (by decide) ht]
    have e : [text.getD p 0] = polP 1 S text p := by
      refine poly_only (range_byt 1 (by decide)) List.nodup_range (valsP_byt ht p 1) (by rw [valsP_length, List.length_range]) (Byt.cons (getD_byt ht p) Byt.nil) (by simp) (fun r hr => ?_)
      obtain rfl : r = 0 := by simp at hr; omega
      simp [valsP, pev, List.range_succ, gmul_zero_left]
    rw [← e, ← List.getElem_eq_getD (h := h2) 0]
    simp [pev, gmul_zero hi]

end Go.Proofs.YthbfdfkkacmbhabDoor.Bt
