/- The document's own queue of layer 12, in memory; May, Left. -/
import Derived.Test.YtgcpkploeobafaaEdVal
namespace Go.Proofs.Ytgcpkploeobafaa
open Go.RowKit
open Bt

/-- A list of jobs in an array of the queue's own. -/
abbrev OwnJ (S : Nat → Prop) (w : World) (rb : Nat) : Nat → Prop := fun k => S k ∧ k ≠ rb ∧ ∃ cur, w.heap[k]? = some (.cells cur 38 (0, 0))

/-- The document's queue. -/
structure RQ (S : Nat → Prop) (w : World) (rb : Nat) (v : Value) (x : List Jb) : Prop where
  head : w.heap[rb]? = some (.cells #[v] 41 (0, 0))
  inB : S rb
  js : JsAt (OwnJ S w rb) w v x
  lt : ∀ k, S k → k < w.heap.size
  ok : QOk x

def RQue (S : Nat → Prop) (w : World) (rb : Nat) (x : List Jb) : Prop := ∃ v, RQ S w rb v x

theorem RQ.cell {S : Nat → Prop} {w : World} {rb : Nat} {v : Value} {x : List Jb} (h : RQ S w rb v x) : w.cell? ⟨rb, 0, none⟩ = some v := by rw [cell_of_row _ _ 0 _ _ _ h.head]; rfl

theorem RQ.kept {S T : Nat → Prop} {w w' : World} {rb : Nat} {v : Value} {x : List Jb} (h : RQ S w rb v x) (hc : Chg T w w') (hT : ∀ k, S k → ¬ T k) : RQ S w' rb v x := by
  refine ⟨(hc.block rb (h.lt rb h.inB) (hT rb h.inB)).trans h.head, h.inB, ?_, fun k hk => Nat.lt_of_lt_of_le (h.lt k hk) hc.size, h.ok⟩
  obtain ⟨ao, c, e, r, hp⟩ := h.js
  refine ⟨ao, c, e, r, fun h0 => ?_⟩
  obtain ⟨pb, off, e1, ⟨s1, s2, cur, s3⟩, e3⟩ := hp h0
  exact ⟨pb, off, e1, ⟨s1, s2, cur, (hc.block pb (lt_of_heap s3) (hT pb s1)).trans s3⟩, fun t ht => (e3 t ht).chg hc (hT pb s1)⟩

theorem RQ.below {S : Nat → Prop} {w w' : World} {rb : Nat} {v : Value} {x : List Jb} (h : RQ S w rb v x) (hb : Below w.heap.size w w') : RQ S w' rb v x := h.kept (below_chg hb) (fun _ _ => id)

theorem RQue.ok {S : Nat → Prop} {w : World} {rb : Nat} {x : List Jb} (h : RQue S w rb x) : QOk x := by obtain ⟨v, h⟩ := h; exact h.ok
theorem RQue.lt {S : Nat → Prop} {w : World} {rb : Nat} {x : List Jb} (h : RQue S w rb x) : ∀ k, S k → k < w.heap.size := by obtain ⟨v, h⟩ := h; exact h.lt
theorem RQue.kept {S T : Nat → Prop} {w w' : World} {rb : Nat} {x : List Jb} (h : RQue S w rb x) (hc : Chg T w w') (hT : ∀ k, S k → ¬ T k) : RQue S w' rb x := by obtain ⟨v, h⟩ := h; exact ⟨v, h.kept hc hT⟩

/-- What a call leaves. -/
def LeftR (S : Nat → Prop) (w w' : World) (b : Nat) (x : List Jb) : Prop := ∃ S', RQue S' w' b x ∧ Chg S w w' ∧ ∀ k, S' k → S k ∨ w.heap.size ≤ k
def LeftRJ (S : Nat → Prop) (w w' : World) (b : Nat) (x : List Jb) (v : Value) (l : List Jb) : Prop := ∃ S', JsAt (fun k => w.heap.size ≤ k ∧ k < w'.heap.size ∧ ¬ S' k) w' v l ∧ RQue S' w' b x ∧ Chg S w w' ∧ ∀ k, S' k → S k ∨ w.heap.size ≤ k

theorem mayJ_parts (b0 b1 b2 b3 b4 b5 b6 : Int) : mayJ ⟨b0, b1, b2, b3, b4, b5, b6⟩ = (decide (1 ≤ b6) && (decide (b6 ≤ 1000) && (decide (0 ≤ b4) && (decide (b4 ≤ 1099511627776) && (decide (0 ≤ b5) && decide (b5 ≤ 1099511627776)))))) := by
  rw [Bool.eq_iff_iff]
  simp only [mayJ, Bool.and_eq_true, decide_eq_true_eq]
  omega

set_option maxRecDepth 100000 in
set_option maxHeartbeats 4000000 in
theorem refMay12_in (b0 b1 b2 b3 b4 b5 b6 : Int) (w : World) :
    Calls Try.prog 20 #[Jv ⟨b0, b1, b2, b3, b4, b5, b6⟩] w fun e w' => e = .returned (.bool (mayJ ⟨b0, b1, b2, b3, b4, b5, b6⟩)) ∧ Below w.heap.size w w' := by
  have HB := Hid.intro ((Below.refl _ w).alloc (Nat.le_refl _) (.cells #[.int .i64 b0, .int .i64 b1, .int .i64 b2, .int .i64 b3, .int .i64 b4, .int .i64 b5, .int .i64 b6] 38))
  rw [mayJ_parts]
  by_cases h1 : 1 ≤ b6
  case neg =>
    rw [decide_eq_false h1, Bool.false_and]
    go_enter Try.func20, Try.ntmps20
    go_wp2
    go_ret
    exact ⟨rfl, HB.out⟩
  rw [decide_eq_true h1, Bool.true_and]
  by_cases h2 : b6 ≤ 1000
  case neg =>
    rw [decide_eq_false h2, Bool.false_and]
    go_enter Try.func20, Try.ntmps20
    go_wp2
    go_ret
    exact ⟨rfl, HB.out⟩
  rw [decide_eq_true h2, Bool.true_and]
  by_cases h3 : 0 ≤ b4
  case neg =>
    rw [decide_eq_false h3, Bool.false_and]
    go_enter Try.func20, Try.ntmps20
    go_wp2
    go_ret
    exact ⟨rfl, HB.out⟩
  rw [decide_eq_true h3, Bool.true_and]
  by_cases h4 : b4 ≤ 1099511627776
  case neg =>
    rw [decide_eq_false h4, Bool.false_and]
    go_enter Try.func20, Try.ntmps20
    go_wp2
    go_ret
    exact ⟨rfl, HB.out⟩
  rw [decide_eq_true h4, Bool.true_and]
  by_cases h5 : 0 ≤ b5
  case neg =>
    rw [decide_eq_false h5, Bool.false_and]
    go_enter Try.func20, Try.ntmps20
    go_wp2
    go_ret
    exact ⟨rfl, HB.out⟩
  rw [decide_eq_true h5, Bool.true_and]
  by_cases h6 : b5 ≤ 1099511627776
  case neg =>
    rw [decide_eq_false h6]
    go_enter Try.func20, Try.ntmps20
    go_wp2
    go_ret
    exact ⟨by first | rfl | (simp; omega), HB.out⟩
  rw [decide_eq_true h6]
  go_enter Try.func20, Try.ntmps20
  go_wp2
  go_ret
  exact ⟨by first | rfl | (simp; omega), HB.out⟩

theorem refMay12_any (j : Jb) (w : World) :
    Calls Try.prog 20 #[Jv j] w fun e w' => e = .returned (.bool (mayJ j)) ∧ Below w.heap.size w w' := refMay12_in j.bed j.kind j.tick j.value j.since j.dl j.left w

theorem leftQ_take (l : List Jb) {i : Nat} (hi : i < l.length) : leftQ (l.take (i + 1)) = leftQ (l.take i) + l[i].left := by
  rw [List.take_add_one, List.getElem?_eq_getElem hi, leftQ_append]
  simp [leftQ]

set_option maxRecDepth 100000 in
set_option maxHeartbeats 1000000 in
theorem refLeft12_any (rb : Nat) (S : Nat → Prop) (x : List Jb) (w : World) (hc : RQue S w rb x) :
    Calls Try.prog 25 #[.pointer (some ⟨rb, 0, none⟩)] w fun e w' => e = .returned (.int .i64 (leftQ x)) ∧ Below w.heap.size w w' := by
  obtain ⟨v, h⟩ := hc
  have hv := h.cell
  have OK := Hid.intro h.ok
  have few := h.ok.few
  obtain ⟨ao, c, rfl, _, hp⟩ := h.js
  have HP := Hid.intro hp
  obtain ⟨L, hL⟩ : ∃ L, L = x.length := ⟨_, rfl⟩
  have HL := Hid.intro hL
  obtain ⟨Z, hZ⟩ : ∃ Z, Z = leftQ x := ⟨_, rfl⟩
  have HZ := Hid.intro hZ
  rw [← hL] at hv few
  rw [← hZ]
  clear hp hL hZ h
  go_enter Try.func25, Try.ntmps25
  go_wp2_with fail
  go_loop [3, 4] (fun nv iv => ∃ (k N : Nat), k ≤ L ∧ N ≤ 1000 * k ∧ iv = .int .i64 k ∧ nv = .int .i64 N ∧ (N : Int) = leftQ (x.take k)) (fun _ iv => L - (intOf iv).toNat)
  case atStart => exact ⟨0, 0, by omega, by omega, rfl, rfl, by simp [leftQ]⟩
  case round =>
    obtain ⟨k, N, hk, hNb, rfl, rfl, hN⟩ := hrel
    have HN := Hid.intro hN
    clear hN
    by_cases hlt : k < L
    · have hlt' : k < x.length := by rw [← HL.out]; exact hlt
      have k0 : (0 : Int) ≤ (k : Int) := by omega
      have k1 : (k : Int) < (L : Int) := by omega
      obtain ⟨pb, off, rfl, _, hcc⟩ := HP.out (by omega)
      obtain ⟨d0, d1, d2, d3, d4, d5, d6⟩ := hcc k hlt'
      have ST := Hid.intro (leftQ_take x hlt')
      have mj := (mayJ_true (OK.out.all _ (List.getElem_mem hlt'))).1
      generalize x[k] = jb at *
      obtain ⟨A, hA⟩ := Int.eq_ofNat_of_zero_le (show 0 ≤ jb.left by omega)
      rw [hA] at d6 ST mj
      have mA : A ≤ 1000 := by omega
      clear hcc d0 d1 d2 d3 d4 d5 hA mj
      go_wp2
      go_round
      case rel => exact ⟨k + 1, N + A, by omega, by omega, by go_num, by go_num, by rw [ST.out, ← HN.out]; push_cast; rfl⟩
      case measure => simp [intOf]; omega
    · obtain rfl : k = L := by omega
      have k1 : ¬ (k : Int) < (k : Int) := by omega
      have FN : Hid ((N : Int) = Z) := by
        rw [Hid, HN.out, HZ.out, List.take_of_length_le (by rw [← HL.out]; exact Nat.le_refl _)]
      go_wp2
      go_ret
      exact ⟨by rw [← FN.out]; rfl, Below.refl _ _⟩

end Go.Proofs.Ytgcpkploeobafaa
