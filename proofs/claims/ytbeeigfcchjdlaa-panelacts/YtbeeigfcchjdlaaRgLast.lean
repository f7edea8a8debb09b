/- A region that draws its order, whose last operation waits for all others: what the loads read is held until then, and not behind it. -/
import Derived.Test.YtbeeigfcchjdlaaBase
import Derived.Deep.RegionHeldLaw
namespace Go.Proofs.Ytbeeigfcchjdlaa
open Go Go.RowKit

section
variable {P : Program} {ops : Array Oper} {Q : Exit → Act → World → Prop} {S : World → Prop} {z : Nat}

/-- In whatever order; S stands behind each but the last, z. -/
def Until (P : Program) (ops : Array Oper) (Q : Exit → Act → World → Prop) (S : World → Prop) (z : Nat) : Nat → Array Bool → Act → World → Prop
  | 0, ls, a, w => Region.ready .any ops ls = [] ∧ Q .normal a w
  | n + 1, ls, a, w => (Region.ready .any ops ls = [] → Q .normal a w) ∧ ∀ i ∈ Region.ready .any ops ls, wpOp P ops Q i (fun a' w' => (i ≠ z → S w') ∧ Until P ops Q S z n (ls.setIfInBounds i true) a' w') a w

theorem Until.any {n : Nat} {ls : Array Bool} {a : Act} {w : World} (h : Until P ops Q S z n ls a w) : wpAny P .any ops Q n ls a w := by
  induction n generalizing ls a w with
  | zero => exact h
  | succ n ih => exact ⟨h.1, fun i hi => wpOp_mono (fun _ _ q => ih q.2) (h.2 i hi)⟩

theorem until_start {id : Nat} {a : Act} {w : World} (hm : P.follows .mixedOrders = true) (h : Until P ops Q S z ops.size (Array.replicate ops.size false) a w.drew) : (Code.region id ops true).wp P Q a w :=
  wp_region_any hm h.any

theorem until_done {ls : Array Bool} {a : Act} {w : World} (hr : Region.ready .any ops ls = []) (h : Q .normal a w) (n : Nat) : Until P ops Q S z n ls a w := by
  cases n with
  | zero => exact ⟨hr, h⟩
  | succ n => exact ⟨fun _ => h, fun i hi => by rw [hr] at hi; cases hi⟩

/-- One that yields its value wherever S stands, and for which the last waits, is taken first. -/
theorem until_take {i : Nat} {oi oz : Oper} {v : Value} (hi : ops[i]? = some oi) (hz : ops[z]? = some oz) (hw : (oz.after.any (fun e => Region.binds .any e && e.on == i)) = true) (hs : Region.noSelect ops = true)
    (hQ : ∀ c a w, Q (.panic c) (a.put oi.dst v) w → Q (.panic c) a w) {n : Nat} {ls : Array Bool} {a : Act} {w : World}
    (hf : ∀ j oj, ops[j]? = some oj → j ≠ i → ls.getD j true = false → (∀ e ∈ oj.after, Region.binds .any e = true → e.on ≠ i) → oi.apart ops oj = true)
    (hr : i ∈ Region.ready .any ops ls) (hy : YieldsIf P ops S oi v a) (hS : S w) (h : Until P ops Q S z n (ls.setIfInBounds i true) (a.put oi.dst v) w) : Until P ops Q S z (n + 1) ls a w := by
  have un : ∀ ls : Array Bool, i ∈ Region.ready .any ops ls → z ∈ Region.ready .any ops ls → False := fun ls h1 h2 => by
    obtain ⟨_, oz', hoz, hall⟩ := mem_ready.1 h2
    rw [hz] at hoz
    cases hoz
    obtain ⟨e, he, hb⟩ := Array.any_eq_true'.1 hw
    simp only [Bool.and_eq_true, beq_iff_eq] at hb
    have l1 := hall e he hb.1
    have l0 := (mem_ready.1 h1).1
    rw [hb.2] at l1
    rcases Nat.lt_or_ge i ls.size with q | q
    · simp [q] at l0 l1
      rw [l0] at l1
      cases l1
    · simp [Array.getElem?_eq_none q] at l1
  have nosel := Region.noSelect_spec hs
  induction n generalizing ls a w with
  | zero =>
    refine ⟨fun e => (by rw [e] at hr; cases hr), fun j hj => ?_⟩
    by_cases q : j = i
    · subst q
      exact hy.wpOp hi hS ⟨fun _ => hS, h⟩
    · have r := ready_mono hj q
      rw [h.1] at r
      cases r
  | succ n ih =>
    refine ⟨fun e => (by rw [e] at hr; cases hr), fun j hj => ?_⟩
    by_cases q : j = i
    · subst q
      exact hy.wpOp hi hS ⟨fun _ => hS, h⟩
    · have hjz : j ≠ z := fun e => by subst e; exact un ls hr hj
      obtain ⟨hjun, oj, hoj, hall⟩ := mem_ready.1 hj
      have away : ∀ e ∈ oj.after, Region.binds .any e = true → e.on ≠ i := fun e he hb heq => by
        have l1 := hall e he hb
        have l0 := (mem_ready.1 hr).1
        rw [heq] at l1
        rcases Nat.lt_or_ge i ls.size with p | p
        · simp [p] at l0 l1
          rw [l0] at l1
          cases l1
        · simp [Array.getElem?_eq_none p] at l1
      have step := wpOp_putIf hoj (hf j oj hoj q hjun away) (fun cs b => nosel i oi cs b hi) (fun cs b => nosel j oj cs b hoj) hQ hy (h.2 j (ready_mono hj q))
      refine wpOp_mono (fun a' w' r => ⟨fun _ => r.2.1 hjz, ih (fun k ok hk hki hun hno => hf k ok hk hki ?_ hno) (ready_mono hr (Ne.symm q)) r.1 (r.2.1 hjz) ?_⟩) step
      · by_cases e : j = k
        · subst e; exact hjun
        · rw [getD_set_ne true e] at hun; exact hun
      · rw [Array.setIfInBounds_comm _ _ q]
        exact r.2.2

/-- One comes up. -/
def Comes (P : Program) (ops : Array Oper) (Q : Exit → Act → World → Prop) (S : World → Prop) (z n : Nat) (ls : Array Bool) (i : Nat) (a : Act) (w : World) : Prop := wpOp P ops Q i (fun a' w' => (i ≠ z → S w') ∧ Until P ops Q S z n (ls.setIfInBounds i true) a' w') a w

theorem comes {i n : Nat} {o : Oper} {ls : Array Bool} {a : Act} {w : World} (ho : ops[i]? = some o)
    (h : ∀ K : Act → World → Prop, Shut (∀ a w, (i ≠ z → S w) → Until P ops Q S z n (ls.setIfInBounds i true) a w → K a w) → if Region.wanted o (yielded ops a.tmps) = true then Oper.wp P o a w K Q else K (a.put o.dst undef) w) : Comes P ops Q S z n ls i a w :=
  wpOp_step ho (fun K hK => h K (fun a w h1 h2 => hK a w ⟨h1, h2⟩))

theorem until_one {i n : Nat} {ls : Array Bool} {a : Act} {w : World} (hr : Region.ready .any ops ls = [i]) (h : Comes P ops Q S z n ls i a w) : Until P ops Q S z (n + 1) ls a w :=
  ⟨fun e => (by rw [hr] at e; cases e), fun j hj => (by
    rw [hr] at hj
    obtain rfl : j = i := by simpa using hj
    exact h)⟩

theorem until_two {i k n : Nat} {ls : Array Bool} {a : Act} {w : World} (hr : Region.ready .any ops ls = [i, k]) (h : Comes P ops Q S z n ls i a w) (h' : Comes P ops Q S z n ls k a w) : Until P ops Q S z (n + 1) ls a w :=
  ⟨fun e => (by rw [hr] at e; cases e), fun j hj => by
    rw [hr] at hj
    rcases List.mem_cons.1 hj with e | e
    · subst e; exact h
    · obtain rfl : j = k := by simpa using e
      exact h'⟩

end

end Go.Proofs.Ytbeeigfcchjdlaa
