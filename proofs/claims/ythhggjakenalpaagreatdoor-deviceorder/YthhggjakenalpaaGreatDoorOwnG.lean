/- Things that own their blocks, for whatever things: one among held blocks, two apart from one another. No function of the program is named here. -/
import Derived.Test.YthhggjakenalpaaGreatDoorBase
namespace Go.Proofs.YthhggjakenalpaaGreatDoor
set_option maxRecDepth 100000
open Go.RowKit

/-- 'P S w': something lies in the blocks S of w. It stays while others are written, and its blocks are there. -/
structure Owned (P : (Nat → Prop) → World → Prop) : Prop where
  kept : ∀ {S T : Nat → Prop} {w w' : World}, P S w → Chg T w w' → (∀ k, S k → ¬ T k) → P S w'
  lt : ∀ {S : Nat → Prop} {w : World}, P S w → ∀ k, S k → k < w.heap.size

/-- What a call leaves: but for its own blocks, and new ones, all as it was. -/
def LeftG (P : (Nat → Prop) → World → Prop) (S : Nat → Prop) (w w' : World) : Prop := ∃ S', P S' w' ∧ Chg S w w' ∧ ∀ k, S' k → S k ∨ w.heap.size ≤ k

/-- One, whose blocks lie outside F; what lies in F is as it was in w0. -/
def One (P : (Nat → Prop) → World → Prop) (F : Nat → Prop) (w0 w : World) : Prop :=
  ∃ S, P S w ∧ (∀ k, S k → ¬ F k) ∧ (∀ k, F k → k < w0.heap.size) ∧ Chg (fun k => ¬ F k) w0 w

section
variable {P P' Q : (Nat → Prop) → World → Prop} {F R : Nat → Prop} {w0 w w' : World}

theorem One.chg (h : One P F w0 w) : Chg (fun k => ¬ F k) w0 w := by
  obtain ⟨S, _, _, _, h⟩ := h
  exact h

theorem One.cell (h : One P F w0 w) {a : Addr} {v : Value} (hc : w0.cell? a = some v) (hF : F a.block) : w.cell? a = some v := cell_chg h.chg hc (fun q => q hF)

theorem One.block (h : One P F w0 w) {k : Nat} (hF : F k) : w.heap[k]? = w0.heap[k]? := by
  obtain ⟨S, _, _, h2, h3⟩ := h
  exact h3.block k (h2 k hF) (fun q => q hF)

theorem One.below (O : Owned P) (h : One P F w0 w) (hb : Below w.heap.size w w') : One P F w0 w' := by
  obtain ⟨S, h1, h2, h3, h4⟩ := h
  exact ⟨S, O.kept h1 (below_chg hb) (fun _ _ => id), h2, h3, h4.trans (below_chg hb) (fun _ f _ => f.elim)⟩

/-- Behind more memory, that is held, too. -/
theorem One.grow (O : Owned P) (h : One P F w0 w) (hb : Below w.heap.size w w') : One P (fun k => F k ∨ (w.heap.size ≤ k ∧ k < w'.heap.size)) w' w' := by
  obtain ⟨S, h1, h2, h3, h4⟩ := h
  refine ⟨S, O.kept h1 (below_chg hb) (fun _ _ => id), fun k hk q => ?_, fun k hk => ?_, Chg.refl _ _⟩
  · rcases q with q | q
    · exact h2 k hk q
    · have := O.lt h1 k hk; omega
  · rcases hk with q | q
    · have := h3 k q
      have := h4.size
      have := hb.size
      omega
    · exact q.2

theorem One.write (O : Owned P) (h : One P F w0 w) {p : Addr} (hF : F p.block) (v : Value) : One P F (w.setCell p v) (w.setCell p v) := by
  obtain ⟨S, h1, h2, h3, h4⟩ := h
  have hc : Chg (fun k => k = p.block) w (w.setCell p v) := Chg.setCell (S := fun k => k = p.block) (Chg.refl _ w) (fun _ => rfl) v
  refine ⟨S, O.kept h1 hc (fun k hk e => h2 k hk (e ▸ hF)), h2, fun k hk => ?_, Chg.refl _ _⟩
  have := h3 k hk
  have := h4.size
  have := hc.size
  omega

theorem One.less {G : Nat → Prop} (h : One P F w0 w) (hG : ∀ k, G k → F k) : One P G w0 w := by
  obtain ⟨S, h1, h2, h3, h4⟩ := h
  exact ⟨S, h1, fun k hk q => h2 k hk (hG k q), fun k hk => h3 k (hG k hk), h4.mono (fun k hk _ q => hk (hG k q))⟩

theorem One.here (h : One P F w0 w) : One P F w w := by
  obtain ⟨S, h1, h2, h3, h4⟩ := h
  exact ⟨S, h1, h2, fun k hk => Nat.lt_of_lt_of_le (h3 k hk) h4.size, Chg.refl _ _⟩

theorem one_new {T : Nat → Prop} (h : P T w) (hT : ∀ k, T k → w0.heap.size ≤ k) (hb : Below w0.heap.size w0 w) : One P (fun k => k < w0.heap.size) w0 w :=
  ⟨T, h, fun k hk q => by have := hT k hk; omega, fun _ => id, (below_chg hb).mono (fun _ f _ => f.elim)⟩

theorem One.out {B : Nat} (h : One P (fun k => k < B) w0 w) (hB : B ≤ w0.heap.size) : Below B w0 w := h.chg.below hB (fun k hk => by omega)

theorem One.left {S : Nat → Prop} (h2 : ∀ k, S k → ¬ F k) (h3 : ∀ k, F k → k < w0.heap.size) (h4 : Chg (fun k => ¬ F k) w0 w) (hl : LeftG P' S w w') : One P' F w0 w' := by
  obtain ⟨S', q1, q2, q3⟩ := hl
  refine ⟨S', q1, fun k hk q => ?_, h3, h4.trans q2 (fun k hk _ => h2 k hk)⟩
  rcases q3 k hk with r | r
  · exact h2 k r q
  · have := h3 k q
    have := h4.size
    omega

/-- A call that turns it. -/
theorem One.call {f : Nat} {args : Array Value} {E : Ending → Prop} (h : One P F w0 w) (hc : ∀ S, P S w → Calls Tryz.prog f args w fun e w' => E e ∧ LeftG P' S w w') : Calls Tryz.prog f args w fun e w' => E e ∧ One P' F w0 w' := by
  obtain ⟨S, h1, h2, h3, h4⟩ := h
  exact (hc S h1).mono fun e w' ⟨he, hl⟩ => ⟨he, One.left h2 h3 h4 hl⟩

/-- A call that turns nothing. -/
theorem One.look {f : Nat} {args : Array Value} {E : Ending → Prop} (O : Owned P) (h : One P F w0 w) (hc : ∀ S, P S w → Calls Tryz.prog f args w fun e w' => E e ∧ Below w.heap.size w w') : Calls Tryz.prog f args w fun e w' => E e ∧ One P F w0 w' := by
  have h0 := h
  obtain ⟨S, h1, _⟩ := h
  exact (hc S h1).mono fun e w' ⟨he, hb⟩ => ⟨he, h0.below O hb⟩

/-- Two: both lie from B on, apart from one another and from what lies in R. -/
def Two (P Q : (Nat → Prop) → World → Prop) (R : Nat → Prop) (B : Nat) (w : World) : Prop :=
  ∃ S T, P S w ∧ Q T w ∧ (∀ k, S k → ¬ T k) ∧ (∀ k, S k → B ≤ k ∧ ¬ R k) ∧ (∀ k, T k → B ≤ k ∧ ¬ R k)

theorem Two.swap {B : Nat} (h : Two P Q R B w) : Two Q P R B w := by
  obtain ⟨S, T, h1, h2, h3, h4, h5⟩ := h
  exact ⟨T, S, h2, h1, fun k hk q => h3 k q hk, h5, h4⟩

theorem Two.kept {B : Nat} (O : Owned P) (O' : Owned Q) {T : Nat → Prop} (h : Two P Q R B w) (hc : Chg T w w') (hT : ∀ k, T k → R k) : Two P Q R B w' := by
  obtain ⟨S, U, h1, h2, h3, h4, h5⟩ := h
  exact ⟨S, U, O.kept h1 hc (fun k hk q => (h4 k hk).2 (hT k q)), O'.kept h2 hc (fun k hk q => (h5 k hk).2 (hT k q)), h3, h4, h5⟩

theorem Two.below {B : Nat} (O : Owned P) (O' : Owned Q) (h : Two P Q R B w) (hb : Below w.heap.size w w') : Two P Q R B w' := h.kept O O' (below_chg hb) (fun _ f => f.elim)

theorem Two.less {B : Nat} {G : Nat → Prop} (h : Two P Q R B w) (hG : ∀ k, G k → R k) : Two P Q G B w := by
  obtain ⟨S, T, h1, h2, h3, h4, h5⟩ := h
  exact ⟨S, T, h1, h2, h3, fun k hk => ⟨(h4 k hk).1, fun q => (h4 k hk).2 (hG k q)⟩, fun k hk => ⟨(h5 k hk).1, fun q => (h5 k hk).2 (hG k q)⟩⟩

/-- More memory, that is held. -/
theorem Two.grow {B : Nat} (O : Owned P) (O' : Owned Q) (h : Two P Q R B w) (hb : Below w.heap.size w w') : Two P Q (fun k => R k ∨ w.heap.size ≤ k) B w' := by
  obtain ⟨S, T, h1, h2, h3, h4, h5⟩ := h
  refine ⟨S, T, O.kept h1 (below_chg hb) (fun _ _ => id), O'.kept h2 (below_chg hb) (fun _ _ => id), h3, fun k hk => ⟨(h4 k hk).1, fun q => ?_⟩, fun k hk => ⟨(h5 k hk).1, fun q => ?_⟩⟩
  · rcases q with q | q
    · exact (h4 k hk).2 q
    · have := O.lt h1 k hk; omega
  · rcases q with q | q
    · exact (h5 k hk).2 q
    · have := O'.lt h2 k hk; omega

theorem Two.left {B : Nat} (O' : Owned Q) {S T : Nat → Prop} (h2 : Q T w) (h3 : ∀ k, S k → ¬ T k) (h4 : ∀ k, S k → B ≤ k ∧ ¬ R k) (h5 : ∀ k, T k → B ≤ k ∧ ¬ R k) (hR : ∀ k, R k → k < w.heap.size) (hB : B ≤ w.heap.size) (hl : LeftG P' S w w') : Two P' Q R B w' ∧ Chg (fun k => B ≤ k ∧ ¬ R k) w w' := by
  obtain ⟨S', q1, q2, q3⟩ := hl
  refine ⟨⟨S', T, q1, O'.kept h2 q2 (fun k hk q => h3 k q hk), fun k hk q => ?_, fun k hk => ?_, h5⟩, q2.mono (fun k hk _ => h4 k hk)⟩
  · rcases q3 k hk with r | r
    · exact h3 k r q
    · have := O'.lt h2 k q; omega
  · rcases q3 k hk with r | r
    · exact h4 k r
    · exact ⟨by omega, fun q => by have := hR k q; omega⟩

/-- A call that turns the first. -/
theorem Two.call {B : Nat} {f : Nat} {args : Array Value} {E : Ending → Prop} (O' : Owned Q) (h : Two P Q R B w) (hR : ∀ k, R k → k < w.heap.size) (hB : B ≤ w.heap.size) (hc : ∀ S, P S w → Calls Tryz.prog f args w fun e w' => E e ∧ LeftG P' S w w') :
    Calls Tryz.prog f args w fun e w' => E e ∧ Two P' Q R B w' ∧ Chg (fun k => B ≤ k ∧ ¬ R k) w w' := by
  obtain ⟨S, T, h1, h2, h3, h4, h5⟩ := h
  exact (hc S h1).mono fun e w' ⟨he, hl⟩ => ⟨he, Two.left O' h2 h3 h4 h5 hR hB hl⟩

/-- A call that turns the second. -/
theorem Two.call2 {B : Nat} {f : Nat} {args : Array Value} {E : Ending → Prop} (O : Owned P) (h : Two P Q R B w) (hR : ∀ k, R k → k < w.heap.size) (hB : B ≤ w.heap.size) (hc : ∀ S, Q S w → Calls Tryz.prog f args w fun e w' => E e ∧ LeftG P' S w w') :
    Calls Tryz.prog f args w fun e w' => E e ∧ Two P P' R B w' ∧ Chg (fun k => B ≤ k ∧ ¬ R k) w w' :=
  (Two.call O h.swap hR hB hc).mono fun _ _ ⟨he, h1, h2⟩ => ⟨he, h1.swap, h2⟩

/-- Two that are new, one behind the other. -/
theorem two_new {S T : Nat → Prop} {B : Nat} {w1 w2 : World} (O : Owned P) (h1 : P S w1) (hS : ∀ k, S k → w.heap.size ≤ k) (h2 : Q T w2) (hT : ∀ k, T k → w1.heap.size ≤ k) (b1 : Below w.heap.size w w1) (b2 : Below w1.heap.size w1 w2) (hB : B ≤ w.heap.size) (hR : ∀ k, R k → k < w.heap.size) : Two P Q R B w2 := by
  have := b1.size
  refine ⟨S, T, O.kept h1 (below_chg b2) (fun _ _ => id), h2, fun k hk q => ?_, fun k hk => ?_, fun k hk => ?_⟩
  · have := O.lt h1 k hk
    have := hT k q
    omega
  · have := hS k hk
    exact ⟨by omega, fun q => by have := hR k q; omega⟩
  · have := hT k hk
    exact ⟨by omega, fun q => by have := hR k q; omega⟩

end

end Go.Proofs.YthhggjakenalpaaGreatDoor
