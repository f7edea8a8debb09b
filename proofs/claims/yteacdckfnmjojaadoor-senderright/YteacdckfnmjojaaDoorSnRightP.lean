/- Plain: a sender beside the texts that were handed in: whose shards its frames carry. -/
import Derived.Test.YteacdckfnmjojaaDoorMPlain
namespace Go.Proofs.YteacdckfnmjojaaDoor.Bt

/-- The texts that were taken, in order; each flight's shards are its text's. -/
structure Txts (tx K N S : Nat) (x : Snd) (T : List (List Nat)) : Prop where
  tx : x.tx = tx
  k : x.K = K
  n : x.N = N
  s : x.S = S
  next : x.next = T.length
  each : ∀ f ∈ x.fl, f.group < T.length ∧ f.rows = encL K N S (T.getD f.group [])
  size : ∀ t ∈ T, Byt t ∧ t.length = K * S

variable {tx K N S : Nat} {x : Snd} {T : List (List Nat)}

theorem Txts.start (tx K N S wt ms : Nat) : Txts tx K N S (snd0 tx K N S wt ms) [] :=
  ⟨rfl, rfl, rfl, rfl, rfl, (fun f hf => by cases hf), (fun t ht => by cases ht)⟩

theorem Txts.tick (h : Txts tx K N S x T) (now : Int) : Txts tx K N S (tickC x now) T := by
  refine ⟨h.tx, h.k, h.n, h.s, h.next, fun f hf => ?_, h.size⟩
  obtain ⟨g, hg, rfl⟩ := List.mem_map.1 hf
  obtain ⟨q1, q2, _⟩ := tickF_parts x now g
  rw [q1, q2]
  exact h.each g hg

theorem Txts.hear (h : Txts tx K N S x T) (f : FrV) : Txts tx K N S (hearC x f) T := by
  unfold hearC
  split
  · refine ⟨h.tx, h.k, h.n, h.s, h.next, fun y hy => ?_, h.size⟩
    obtain ⟨g, hg, rfl⟩ := List.mem_map.1 hy
    obtain ⟨q1, q2, _⟩ := ackF_parts (f.data.getD 0 0) (f.data.getD 1 0) g
    rw [q1, q2]
    exact h.each g (List.mem_filter.1 hg).1
  · exact h

theorem tx_snoc {T : List (List Nat)} {b : List Nat} {i : Nat} (h : i < T.length) : (T ++ [b]).getD i [] = T.getD i [] := by
  rw [List.getD_eq_getElem?_getD, List.getElem?_append_left h, ← List.getD_eq_getElem?_getD]

theorem tx_last (T : List (List Nat)) (b : List Nat) : (T ++ [b]).getD T.length [] = b := by
  rw [List.getD_eq_getElem?_getD, List.getElem?_append_right (Nat.le_refl _)]; simp

theorem Txts.push (h : Txts tx K N S x T) {bs : List Nat} (hY : Byt bs) (hT : T.length < 255) (he : pushE x bs.length = 0) : Txts tx K N S (pushC x bs) (T ++ [bs]) := by
  obtain ⟨q1, q2⟩ := pushE_zero he
  unfold pushC
  rw [if_pos he]
  refine ⟨h.tx, h.k, h.n, h.s, ?_, fun f hf => ?_, fun t ht => ?_⟩
  · show (x.next + 1) % 256 = _
    rw [h.next, List.length_append]
    show (T.length + 1) % 256 = T.length + 1
    exact Nat.mod_eq_of_lt (by omega)
  · rcases List.mem_append.1 hf with q | q
    · obtain ⟨r1, r2⟩ := h.each f q
      rw [tx_snoc r1, List.length_append]
      exact ⟨by omega, r2⟩
    · rw [List.mem_singleton.1 q]
      show x.next < _ ∧ encL x.K x.N x.S bs = encL K N S ((T ++ [bs]).getD x.next [])
      rw [h.next, tx_last, h.k, h.n, h.s, List.length_append]
      exact ⟨by simp, rfl⟩
  · rcases List.mem_append.1 ht with q | q
    · exact h.size t q
    · rw [List.mem_singleton.1 q]
      exact ⟨hY, by rw [q1, h.k, h.s]⟩

theorem pushC_no {bs : List Nat} (he : pushE x bs.length ≠ 0) : pushC x bs = x := by unfold pushC; rw [if_neg he]

/-- What is right of a frame. -/
def RightF (tx K N S : Nat) (T : List (List Nat)) (fr : FrV) : Prop :=
  fr.tx = tx ∧ fr.an = 0 ∧ fr.rs = 0 ∧ ∃ g r : Nat, g < T.length ∧ r < N ∧ fr.sq = 16 * (g : Int) + (r : Int) ∧ ((fr.kd = 2 ∧ fr.data = []) ∨ (fr.kd = 0 ∧ fr.data = (encL K N S (T.getD g [])).getD r []))

theorem Txts.right (h : Txts tx K N S x T) (hN : 1 ≤ N) (now : Int) : ∀ fr ∈ tickP x now, RightF tx K N S T fr := by
  intro fr hf
  unfold tickP at hf
  obtain ⟨f, hfl, hf⟩ := List.mem_flatMap.1 hf
  obtain ⟨e1, e2⟩ := h.each f hfl
  split at hf
  · unfold frmsOf at hf
    split at hf
    · rw [List.mem_singleton.1 hf]
      exact ⟨by rw [h.tx], rfl, rfl, f.group, 0, e1, hN, by simp, .inl ⟨rfl, rfl⟩⟩
    · obtain ⟨r, hr, rfl⟩ := List.mem_map.1 hf
      have hr := List.mem_range.1 hr
      rw [h.n] at hr
      exact ⟨by rw [h.tx], rfl, rfl, f.group, r, e1, hr, rfl, .inr ⟨rfl, by show f.rows.getD r [] = _; rw [e2]⟩⟩
  · cases hf

theorem RightF.frm {fr : FrV} (h : RightF tx K N S T fr) (ht : tx < 256) (hN : N ≤ 10) (hS : S ≤ 24) (hT : T.length ≤ 255) : isFrm fr.tx fr.sq fr.an fr.rs fr.kd fr.data.length = true := by
  obtain ⟨h1, h2, h3, g, r, hg, hr, hs, hk⟩ := h
  have hl : fr.data.length ≤ 60 ∧ (fr.kd = 2 ∨ fr.kd = 0) := by
    rcases hk with ⟨k1, k2⟩ | ⟨k1, k2⟩
    · rw [k2]; exact ⟨by simp, .inl k1⟩
    · rw [k2, encL_row hr]; exact ⟨by omega, .inr k1⟩
  rw [isFrm_iff, h1, h2, h3, hs]
  omega

/-- A tick's frames are few. -/
theorem tickP_few {x : Snd} (hN : 1 ≤ x.N) (now : Int) : (tickP x now).length ≤ x.N * x.fl.length := by
  unfold tickP
  induction x.fl with
  | nil => simp
  | cons f l ih =>
    rw [List.flatMap_cons, List.length_append, List.length_cons, Nat.mul_add, Nat.mul_one]
    have h1 : (if dueF x now f = true then frmsOf x f else []).length ≤ x.N := by
      split
      · rw [frmsOf_length]; split <;> omega
      · simp
    omega

end Go.Proofs.YteacdckfnmjojaaDoor.Bt
