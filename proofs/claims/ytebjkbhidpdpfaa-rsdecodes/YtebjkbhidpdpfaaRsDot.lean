/- Plain: factors as the code reckons them (all that is above, all that is below), and a value as a sum of products; no program is named here. -/
import Derived.Test.YtebjkbhidpdpfaaRsDecP
namespace Go.Proofs.Ytebjkbhidpdpfaa.Bt

/-- The product, over bytes y, of (c - y). -/
def upw (c : Nat) : List Nat → Nat
  | [] => 1
  | y :: ys => gmul (c ^^^ y) (upw c ys)

theorem upw_lt {c : Nat} (hc : c < 256) (l : List Nat) (hl : Byt l) : upw c l < 256 := by
  cases l with
  | nil => show 1 < 256; decide
  | cons y ys => exact gmul_lt (xor_lt8 hc hl.head) _

theorem upw_snoc {c : Nat} (hc : c < 256) (l : List Nat) (hl : Byt l) {y : Nat} (hy : y < 256) : upw c (l ++ [y]) = gmul (upw c l) (c ^^^ y) := by
  have hcy := xor_lt8 hc hy
  induction l with
  | nil => show gmul (c ^^^ y) 1 = gmul 1 (c ^^^ y); rw [gmul_one hcy, gmul_one_left hcy]
  | cons z zs ih =>
    have h1 := xor_lt8 hc hl.head
    show gmul (c ^^^ z) (upw c (zs ++ [y])) = gmul (gmul (c ^^^ z) (upw c zs)) (c ^^^ y)
    rw [ih hl.tail, gmul_assoc h1 (upw_lt hc zs hl.tail)]

theorem upw_ne {s : Nat} (hs : s < 256) (l : List Nat) (hl : Byt l) (h : s ∉ l) : upw s l ≠ 0 := by
  induction l with
  | nil => show 1 ≠ 0; decide
  | cons y ys ih =>
    have h1 : s ^^^ y ≠ 0 := fun e => h (by rw [xor_self_zero e]; simp)
    exact gmul_ne (xor_lt8 hs hl.head) (upw_lt hs ys hl.tail) h1 (ih hl.tail (fun q => h (by simp [q])))

theorem ginv_gmul {a b : Nat} (ha : a < 256) (hb : b < 256) (a0 : a ≠ 0) (b0 : b ≠ 0) : ginv (gmul a b) = gmul (ginv a) (ginv b) := by
  refine (ginv_only (gmul_lt ha b) (gmul_lt (ginv_lt a) _) ?_).symm
  have h1 := ginv_mul ha a0
  have h2 := ginv_mul hb b0
  have ia := ginv_lt a
  have ib := ginv_lt b
  generalize ginv a = A at h1 ia
  generalize ginv b = B at h2 ib
  rw [gmul_comm ha hb, gmul_assoc hb ha, ← gmul_assoc ha ia, h1, gmul_one_left ib, h2]

theorem wt_up {x s : Nat} (hx : x < 256) (hs : s < 256) (l : List Nat) (hl : Byt l) (h : s ∉ l) : gmul (upw x l) (ginv (upw s l)) = wt x s l := by
  induction l with
  | nil =>
    show gmul 1 (ginv 1) = 1
    exact ginv_mul (by decide) (by decide)
  | cons y ys ih =>
    have hn : s ∉ ys := fun q => h (by simp [q])
    have h1 : s ^^^ y ≠ 0 := fun e => h (by rw [xor_self_zero e]; simp)
    have e := ih hl.tail hn
    rw [wt, ← e]
    show gmul (gmul (x ^^^ y) (upw x ys)) (ginv (gmul (s ^^^ y) (upw s ys))) = _
    rw [ginv_gmul (xor_lt8 hs hl.head) (upw_lt hs ys hl.tail) h1 (upw_ne hs ys hl.tail hn)]
    have a1 := xor_lt8 hx hl.head
    have a2 := upw_lt hx ys hl.tail
    have a3 := ginv_lt (s ^^^ y)
    have a4 := ginv_lt (upw s ys)
    generalize x ^^^ y = A at a1
    generalize upw x ys = B at a2
    generalize ginv (s ^^^ y) = C at a3
    generalize ginv (upw s ys) = D at a4
    rw [gmul_assoc a1 a2, gmul_assoc a1 a3, ← gmul_assoc a2 a3, gmul_comm a2 a3, gmul_assoc a3 a2]

theorem oth_snoc (s : Nat) (l : List Nat) (y : Nat) : oth s (l ++ [y]) = if y = s then oth s l else oth s l ++ [y] := by
  unfold oth
  rw [List.filter_append]
  by_cases e : y = s
  · rw [if_pos e]; simp [e]
  · rw [if_neg e]; simp [e]

/-- A code's factors, one behind the other. -/
def wts (at_ : List Nat) (x : Nat) : List Nat := at_.map (fun s => wt x s (oth s at_))

theorem wts_length (at_ : List Nat) (x : Nat) : (wts at_ x).length = at_.length := by simp [wts]

theorem wts_byt {at_ : List Nat} (ha : Byt at_) {x : Nat} (hx : x < 256) : Byt (wts at_ x) := fun y hy => by
  obtain ⟨s, _, rfl⟩ := List.mem_map.1 hy
  exact wt_lt hx _ (oth_byt ha)

theorem wts_getD {at_ : List Nat} {x r : Nat} (hr : r < at_.length) : (wts at_ x).getD r 0 = wt x (at_.getD r 0) (oth (at_.getD r 0) at_) := by
  rw [← List.getElem_eq_getD (h := by rw [wts_length]; exact hr) 0, ← List.getElem_eq_getD (h := hr) 0]
  simp [wts]

theorem lsum_snoc (all : List Nat) (x : Nat) (l : List (Nat × Nat)) (p : Nat × Nat) : lsum all x (l ++ [p]) = lsum all x l ^^^ gmul (wt x p.1 (oth p.1 all)) p.2 := by
  induction l with
  | nil => simp [lsum]
  | cons q r ih => simp only [List.cons_append, lsum, ih, Nat.xor_assoc]

theorem fs_lsum (at_ vals : List Nat) (x : Nat) (hl : vals.length = at_.length) (t : Nat) (ht : t ≤ at_.length) :
    fs t (fun r => gmul ((wts at_ x).getD r 0) (vals.getD r 0)) = lsum at_ x ((at_.zip vals).take t) := by
  induction t with
  | zero => rfl
  | succ t ih =>
    have hz : t < (at_.zip vals).length := by simp; omega
    rw [List.take_succ_eq_append_getElem hz, lsum_snoc, ← ih (by omega)]
    show _ ^^^ gmul ((wts at_ x).getD t 0) (vals.getD t 0) = _ ^^^ _
    rw [wts_getD (by omega), List.getElem_zip, ← List.getElem_eq_getD (h := by omega) 0, ← List.getElem_eq_getD (h := by omega) 0]

/-- The sum of what is told times the factors is the polynomial's value. -/
theorem dot_poly {at_ vals : List Nat} (ha : Byt at_) (hv : Byt vals) (hl : vals.length = at_.length) {x : Nat} (hx : x < 256) :
    fs at_.length (fun r => gmul ((wts at_ x).getD r 0) (vals.getD r 0)) = pev (poly at_ vals) x := by
  have hz : (at_.zip vals).length = at_.length := by simp [hl]
  have hw : ∀ p ∈ at_.zip vals, p.2 < 256 := fun p hp => hv _ (List.of_mem_zip (a := p.1) (b := p.2) hp).2
  rw [fs_lsum at_ vals x hl _ (Nat.le_refl _), List.take_of_length_le (by omega), ← pev_lpol ha hx _ hw]
  rfl

end Go.Proofs.Ytebjkbhidpdpfaa.Bt
