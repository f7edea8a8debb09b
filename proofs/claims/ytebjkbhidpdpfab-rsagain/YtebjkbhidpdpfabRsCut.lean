/- Plain: a text's pieces; what is reckoned from them is a shard; no program is named here. -/
import Derived.Test.YtebjkbhidpdpfabRsDot
namespace Go.Proofs.Ytebjkbhidpdpfab.Bt

/-- A piece of a text. -/
def pieceL (S : Nat) (text : List Nat) (r : Nat) : List Nat := (text.drop (r * S)).take S

/-- All pieces. -/
def cutL (K S : Nat) (text : List Nat) : List (List Nat) := (List.range K).map (pieceL S text)

theorem cutL_length (K S : Nat) (text : List Nat) : (cutL K S text).length = K := by simp [cutL]

theorem cutL_getD {K S : Nat} {text : List Nat} {r : Nat} (h : r < K) : (cutL K S text).getD r [] = pieceL S text r := by
  rw [← List.getElem_eq_getD (h := by rw [cutL_length]; exact h) []]
  simp [cutL]

theorem piece_length {K S : Nat} {text : List Nat} (hl : text.length = K * S) {r : Nat} (h : r < K) : (pieceL S text r).length = S := by
  have := Nat.mul_le_mul_right S (show r + 1 ≤ K from h)
  rw [Nat.succ_mul] at this
  simp [pieceL]
  omega

theorem piece_getElem {S : Nat} {text : List Nat} {r p : Nat} (h : p < (pieceL S text r).length) (h2 : r * S + p < text.length) : (pieceL S text r)[p] = text[r * S + p] := by
  simp [pieceL]

theorem piece_getD {K S : Nat} {text : List Nat} (hl : text.length = K * S) {r p : Nat} (h : r < K) (hp : p < S) : (pieceL S text r).getD p 0 = text.getD (r * S + p) 0 := by
  have h1 := piece_length hl h
  have h2 : r * S + p < text.length := by rw [hl]; exact mul_in h hp
  rw [← List.getElem_eq_getD (h := by omega) 0, ← List.getElem_eq_getD (h := h2) 0, piece_getElem _ h2]

theorem cutL_byt {K S : Nat} {text : List Nat} (ht : Byt text) : BytL (cutL K S text) := fun x hx => by
  obtain ⟨r, _, rfl⟩ := List.mem_map.1 hx
  exact fun y hy => ht y (List.mem_of_mem_drop (List.mem_of_mem_take hy))

theorem there_all {L : List (List Nat)} (h : ∀ r, r < L.length → 0 < (L.getD r []).length) : there L = List.range L.length := by
  unfold there
  refine List.filter_eq_self.2 (fun r hr => ?_)
  simpa using h r (List.mem_range.1 hr)

theorem decAt_cut {K S : Nat} {text : List Nat} (hS : 0 < S) (hl : text.length = K * S) : decAt K (cutL K S text) = List.range K := by
  unfold decAt
  rw [there_all (fun r hr => by
    rw [cutL_length] at hr
    rw [cutL_getD hr, piece_length hl hr]
    exact hS), cutL_length]
  exact List.take_of_length_le (by simp)

/-- What is reckoned from the pieces is a shard's byte. -/
theorem dot_cut {K S : Nat} {text : List Nat} (hK : K ≤ 256) (ht : Byt text) (hl : text.length = K * S) {i p : Nat} (hi : i < 256) (hp : p < S) :
    fs K (fun r => gmul ((wts (List.range K) i).getD r 0) (((cutL K S text).getD r []).getD p 0)) = shB K S text i p := by
  rw [shB_pev hK ht]
  have e := dot_poly (range_byt K hK) (valsP_byt (S := S) ht p K) (by rw [valsP_length, List.length_range]) hi
  rw [List.length_range] at e
  unfold polP
  rw [← e]
  refine fs_congr (fun r hr => ?_)
  rw [cutL_getD hr, piece_getD hl hr hp, valsP_getD hr]

/-- What is reckoned from the first that are there is what is decoded. -/
theorem dot_dec {K : Nat} {L : List (List Nat)} (hL : L.length ≤ 256) (hB : BytL L) {i p : Nat} (hi : i < 256) :
    fs (decAt K L).length (fun r => gmul ((wts (decAt K L) i).getD r 0) ((((decAt K L).map (fun j => L.getD j [])).getD r []).getD p 0)) = decB K L i p := by
  have e := dot_poly (decAt_byt (K := K) hL) (decV_byt hB (decAt K L) p) (by simp [decV]) hi
  unfold decB
  rw [← e]
  refine fs_congr (fun r hr => ?_)
  congr 1
  have a1 : ((decAt K L).map (fun j => L.getD j [])).getD r [] = L.getD (decAt K L)[r] [] := by
    rw [← List.getElem_eq_getD (h := by rw [List.length_map]; exact hr) [], List.getElem_map]
  have a2 : (decV L (decAt K L) p).getD r 0 = (L.getD (decAt K L)[r] []).getD p 0 := by
    rw [← List.getElem_eq_getD (h := by unfold decV; rw [List.length_map]; exact hr) 0]
    unfold decV
    rw [List.getElem_map]
  rw [a1, a2]

/-- The first shards' bytes of what is decoded. -/
def decRow (K S : Nat) (L : List (List Nat)) (i : Nat) : List Nat := (List.range S).map (decB K L i)

theorem decT_take {K S : Nat} (hS : 0 < S) (L : List (List Nat)) {i : Nat} (h : i < K) : (decT K S L).take ((i + 1) * S) = (decT K S L).take (i * S) ++ decRow K S L i := by
  have h1 : (i + 1) * S ≤ K * S := Nat.mul_le_mul_right _ h
  have h2 : (i + 1) * S = i * S + S := Nat.succ_mul i S
  have l1 : ((decT K S L).take ((i + 1) * S)).length = (i + 1) * S := by rw [List.length_take, decT_length]; omega
  have l2 : ((decT K S L).take (i * S)).length = i * S := by rw [List.length_take, decT_length]; omega
  have l3 : (decRow K S L i).length = S := by simp [decRow]
  apply List.ext_getElem
  · rw [List.length_append, l1, l2, l3]; exact h2
  · intro j q1 q2
    have hj : j < (i + 1) * S := by rw [l1] at q1; exact q1
    by_cases e : j < i * S
    · rw [List.getElem_append_left (by rw [l2]; exact e), List.getElem_take, List.getElem_take]
    · rw [List.getElem_append_right (by rw [l2]; omega), List.getElem_take]
      simp only [decT, decRow, List.getElem_map, List.getElem_range, List.length_take, List.length_map, List.length_range]
      have m : min (i * S) (K * S) = i * S := by omega
      rw [m]
      have a1 : j / S = i := by
        have : j = S * i + (j - i * S) := by rw [Nat.mul_comm]; omega
        rw [this, Nat.mul_add_div hS, Nat.div_eq_of_lt (by omega), Nat.add_zero]
      have a2 : j % S = j - i * S := by
        have : j = S * i + (j - i * S) := by rw [Nat.mul_comm]; omega
        conv => lhs; rw [this]
        rw [Nat.mul_add_mod, Nat.mod_eq_of_lt (by omega)]
      rw [a1, a2]

end Go.Proofs.Ytebjkbhidpdpfab.Bt
