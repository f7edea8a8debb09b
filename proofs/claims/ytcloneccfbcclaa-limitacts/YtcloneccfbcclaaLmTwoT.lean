/- Two tables side by side. -/
import Derived.Test.YtcloneccfbcclaaLmL
namespace Go.Proofs.Ytcloneccfbcclaa
open Go.RowKit
open Bt

section
variable {P Q : (Nat → Prop) → World → Prop} {R : Nat → Prop} {B : Nat} {w : World}

/-- A call that turns nothing, of the first. -/
theorem Two.look {f : Nat} {args : Array Value} {E : Ending → Prop} (O : Owned P) (O' : Owned Q) (h : Two P Q R B w) (hc : ∀ S, P S w → Calls Try.prog f args w fun e w' => E e ∧ Below w.heap.size w w') : Calls Try.prog f args w fun e w' => E e ∧ Two P Q R B w' ∧ Below w.heap.size w w' := by
  have h0 := h
  obtain ⟨S, T, h1, _⟩ := h
  exact (hc S h1).mono fun e w' ⟨he, hb⟩ => ⟨he, h0.below O O' hb, hb⟩

theorem Two.look2 {f : Nat} {args : Array Value} {E : Ending → Prop} (O : Owned P) (O' : Owned Q) (h : Two P Q R B w) (hc : ∀ S, Q S w → Calls Try.prog f args w fun e w' => E e ∧ Below w.heap.size w w') : Calls Try.prog f args w fun e w' => E e ∧ Two P Q R B w' ∧ Below w.heap.size w w' :=
  (Two.look O' O h.swap hc).mono fun _ _ ⟨he, h1, h2⟩ => ⟨he, h1.swap, h2⟩

end

theorem two_more {R : Nat → Prop} {B : Nat} {w : World} {a b n m n' m' : Nat} {A C : List Kp} (h : Two (TB a A n) (TB b C m) R B w) (hn : n ≤ n') (hm : m ≤ m') : Two (TB a A n') (TB b C m') R B w := by
  obtain ⟨S, T, h1, h2, r⟩ := h
  exact ⟨S, T, Tab.more h1 hn, Tab.more h2 hm, r⟩

/-! ### Two tables that differ in what came of others alone -/

theorem isSome_list (L : List Kp) (b k : Int) : (findK L b k).isSome = (listT L).any (fun l => decide (l.bed = b) && decide (l.kind = k)) := by
  unfold findK listT
  rw [List.any_map, Bool.eq_iff_iff, List.find?_isSome, List.any_eq_true]
  rfl

theorem see_list (L : List Kp) (b k v : Int) : listT (seeT L b k v) = listT L := by
  unfold listT seeT
  rw [List.map_map]
  refine List.map_congr_left fun x _ => ?_
  simp only [Function.comp]
  split <;> rfl

theorem set_list (L : List Kp) (l : Lm) : listT (L.map (fun x => if isK l.bed l.kind x = true then (⟨l, 0⟩ : Kp) else x)) = (listT L).map (fun y => if (decide (y.bed = l.bed) && decide (y.kind = l.kind)) = true then l else y) := by
  unfold listT
  rw [List.map_map, List.map_map]
  refine List.map_congr_left fun x _ => ?_
  show (if isK l.bed l.kind x = true then (⟨l, 0⟩ : Kp) else x).lm = if isK l.bed l.kind x = true then l else x.lm
  cases isK l.bed l.kind x <;> rfl

/-- Alike: the same limits, and the same of one bed and kind. -/
def Alike (bed kind : Int) (A C : List Kp) : Prop := listT A = listT C ∧ findK A bed kind = findK C bed kind

theorem Alike.some {bed kind : Int} {A C : List Kp} (h : Alike bed kind A C) (b k : Int) : (findK A b k).isSome = (findK C b k).isSome := by
  rw [isSome_list, isSome_list, h.1]

theorem Alike.len {bed kind : Int} {A C : List Kp} (h : Alike bed kind A C) : A.length = C.length := by
  have := congrArg List.length h.1
  simpa [listT] using this

theorem Alike.setE {bed kind : Int} {A C : List Kp} (h : Alike bed kind A C) (l : Lm) : setE A l = setE C l := by
  have e := h.some l.bed l.kind
  unfold Bt.setE
  rw [h.len, ← Option.not_isSome, ← Option.not_isSome, e]

theorem Alike.setT {bed kind : Int} {A C : List Kp} (h : Alike bed kind A C) (l : Lm) : Alike bed kind (setT A l) (setT C l) := by
  have e := h.some l.bed l.kind
  have el := h.len
  cases hm : mayL l with
  | false => rw [(setT_not hm).2, (setT_not hm).2]; exact h
  | true =>
    cases ha : findK A l.bed l.kind with
    | some x =>
      cases hc : findK C l.bed l.kind with
      | none => rw [ha, hc] at e; cases e
      | some y =>
        rw [(setT_there hm ha).2, (setT_there hm hc).2]
        refine ⟨by rw [set_list, set_list, h.1], ?_⟩
        rw [set_find A l ha, set_find C l hc, h.2]
    | none =>
      cases hc : findK C l.bed l.kind with
      | some y => rw [ha, hc] at e; cases e
      | none =>
        by_cases hl : A.length < 40
        · rw [(setT_new hm ha hl).2, (setT_new hm hc (by omega)).2]
          refine ⟨by have := h.1; unfold listT at this ⊢; rw [List.map_append, List.map_append, this], ?_⟩
          rw [new_find A l ha, new_find C l hc, h.2]
        · rw [(setT_full hm ha (by omega)).2, (setT_full hm hc (by omega)).2]; exact h

theorem Alike.other {bed kind : Int} {A C : List Kp} (h : Alike bed kind A C) {b k : Int} (hne : ¬ (b = bed ∧ k = kind)) (v : Int) : Alike bed kind (seeT A b k v) C := by
  refine ⟨by rw [see_list, h.1], ?_⟩
  rw [seeT_find, if_neg (fun q => hne (by cases q; exact ⟨rfl, rfl⟩)), h.2]

theorem Alike.own {bed kind : Int} {A C : List Kp} (h : Alike bed kind A C) (v : Int) : Alike bed kind (seeT A bed kind v) (seeT C bed kind v) := by
  refine ⟨by rw [see_list, see_list, h.1], ?_⟩
  rw [seeT_find, seeT_find, if_pos rfl, if_pos rfl, h.2]

theorem Alike.on {bed kind : Int} {A C : List Kp} (h : Alike bed kind A C) : onK A bed kind = onK C bed kind := by
  unfold onK
  rw [h.2]

theorem Alike.bey {bed kind : Int} {A C : List Kp} (h : Alike bed kind A C) : beyK A bed kind = beyK C bed kind := by
  unfold beyK
  rw [h.2]

end Go.Proofs.Ytcloneccfbcclaa
