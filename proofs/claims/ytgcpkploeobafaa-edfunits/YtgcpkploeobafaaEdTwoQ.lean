/- Two queues of the code's own, side by side. -/
import Derived.Test.YtgcpkploeobafaaEdCon
namespace Go.Proofs.Ytgcpkploeobafaa
open Go.RowKit
open Bt

/-- Both queues lie from B on, apart from one another and from what lies in R. -/
def TwoQ (R : Nat → Prop) (B : Nat) (w : World) (a b : Nat) (x y : List Jb) (n : Nat) : Prop :=
  ∃ S T, Que S w a x n ∧ Que T w b y n ∧ (∀ k, S k → ¬ T k) ∧ (∀ k, S k → B ≤ k ∧ ¬ R k) ∧ (∀ k, T k → B ≤ k ∧ ¬ R k)

variable {R : Nat → Prop} {B : Nat} {w w' : World} {a b : Nat} {x y : List Jb} {n : Nat}

theorem TwoQ.more {n' : Nat} (h : TwoQ R B w a b x y n) (hn : n ≤ n') : TwoQ R B w a b x y n' := by
  obtain ⟨S, T, h1, h2, h3⟩ := h
  exact ⟨S, T, h1.more hn, h2.more hn, h3⟩

theorem TwoQ.swap (h : TwoQ R B w a b x y n) : TwoQ R B w b a y x n := by
  obtain ⟨S, T, h1, h2, h3, h4, h5⟩ := h
  exact ⟨T, S, h2, h1, fun k hk q => h3 k q hk, h5, h4⟩

theorem TwoQ.okX (h : TwoQ R B w a b x y n) : QOk x := by
  obtain ⟨S, T, h1, _⟩ := h
  exact h1.ok

theorem TwoQ.okY (h : TwoQ R B w a b x y n) : QOk y := h.swap.okX

theorem TwoQ.kept {T : Nat → Prop} (h : TwoQ R B w a b x y n) (hc : Chg T w w') (hT : ∀ k, T k → R k) : TwoQ R B w' a b x y n := by
  obtain ⟨S, U, h1, h2, h3, h4, h5⟩ := h
  exact ⟨S, U, h1.kept hc (fun k hk q => (h4 k hk).2 (hT k q)), h2.kept hc (fun k hk q => (h5 k hk).2 (hT k q)), h3, h4, h5⟩

theorem TwoQ.below (h : TwoQ R B w a b x y n) (hb : Below w.heap.size w w') : TwoQ R B w' a b x y n := h.kept (below_chg hb) (fun _ f => f.elim)

theorem TwoQ.less {G : Nat → Prop} (h : TwoQ R B w a b x y n) (hG : ∀ k, G k → R k) : TwoQ G B w a b x y n := by
  obtain ⟨S, T, h1, h2, h3, h4, h5⟩ := h
  exact ⟨S, T, h1, h2, h3, fun k hk => ⟨(h4 k hk).1, fun q => (h4 k hk).2 (hG k q)⟩, fun k hk => ⟨(h5 k hk).1, fun q => (h5 k hk).2 (hG k q)⟩⟩

/-- More memory, that is held. -/
theorem TwoQ.grow (h : TwoQ R B w a b x y n) (hb : Below w.heap.size w w') : TwoQ (fun k => R k ∨ w.heap.size ≤ k) B w' a b x y n := by
  obtain ⟨S, T, h1, h2, h3, h4, h5⟩ := h
  refine ⟨S, T, h1.kept (below_chg hb) (fun _ _ => id), h2.kept (below_chg hb) (fun _ _ => id), h3, fun k hk => ⟨(h4 k hk).1, fun q => ?_⟩, fun k hk => ⟨(h5 k hk).1, fun q => ?_⟩⟩
  · rcases q with q | q
    · exact (h4 k hk).2 q
    · have := h1.lt k hk; omega
  · rcases q with q | q
    · exact (h5 k hk).2 q
    · have := h2.lt k hk; omega

/-- What is held is written; more memory, that is held. -/
theorem TwoQ.grown {T : Nat → Prop} (h : TwoQ R B w a b x y n) (hc : Chg T w w') (hT : ∀ k, T k → R k) : TwoQ (fun k => R k ∨ w.heap.size ≤ k) B w' a b x y n := by
  obtain ⟨S, U, h1, h2, h3, h4, h5⟩ := h
  refine ⟨S, U, h1.kept hc (fun k hk q => (h4 k hk).2 (hT k q)), h2.kept hc (fun k hk q => (h5 k hk).2 (hT k q)), h3, fun k hk => ⟨(h4 k hk).1, fun q => ?_⟩, fun k hk => ⟨(h5 k hk).1, fun q => ?_⟩⟩
  · rcases q with q | q
    · exact (h4 k hk).2 q
    · have := h1.lt k hk; omega
  · rcases q with q | q
    · exact (h5 k hk).2 q
    · have := h2.lt k hk; omega

theorem grown_chg {row : Option Nat} (h : w.grownBy w' row) : Chg (fun k => row = some k) w w' := ⟨h.os, h.tape, h.output, h.size, fun k hk hn => h.block k hk (fun q => hn q.symm)⟩

theorem twoq_new {S T : Nat → Prop} {w1 w2 : World} (hB : B ≤ w.heap.size) (h1 : Que S w1 a [] n) (hS : ∀ k, S k → w.heap.size ≤ k) (b1 : Below w.heap.size w w1) (h2 : Que T w2 b [] n) (hT : ∀ k, T k → w1.heap.size ≤ k) (b2 : Below w1.heap.size w1 w2) : TwoQ (fun _ => False) B w2 a b [] [] n := by
  have := b1.size
  refine ⟨S, T, h1.kept (below_chg b2) (fun _ _ => id), h2, fun k hk q => ?_, fun k hk => ⟨by have := hS k hk; omega, id⟩, fun k hk => ⟨by have := hT k hk; omega, id⟩⟩
  have := h1.lt k hk
  have := hT k q
  omega

/-- The first one is turned. -/
theorem TwoQ.left {S T : Nat → Prop} {x' : List Jb} (h2 : Que T w b y n) (h3 : ∀ k, S k → ¬ T k) (h4 : ∀ k, S k → B ≤ k ∧ ¬ R k) (h5 : ∀ k, T k → B ≤ k ∧ ¬ R k) (hR : ∀ k, R k → k < w.heap.size) (hB : B ≤ w.heap.size) (hl : LeftE S w w' a x' n) : TwoQ R B w' a b x' y n ∧ Chg (fun k => B ≤ k ∧ ¬ R k) w w' := by
  obtain ⟨S', q1, q2, q3⟩ := hl
  refine ⟨⟨S', T, q1, h2.kept q2 (fun k hk q => h3 k q hk), fun k hk q => ?_, fun k hk => ?_, h5⟩, q2.mono (fun k hk _ => h4 k hk)⟩
  · rcases q3 k hk with r | r
    · exact h3 k r q
    · have := h2.lt k q; omega
  · rcases q3 k hk with r | r
    · exact h4 k r
    · exact ⟨by omega, fun q => by have := hR k q; omega⟩

theorem TwoQ.leftJ {S T : Nat → Prop} {x' l : List Jb} {v : Value} (h2 : Que T w b y n) (h3 : ∀ k, S k → ¬ T k) (h4 : ∀ k, S k → B ≤ k ∧ ¬ R k) (h5 : ∀ k, T k → B ≤ k ∧ ¬ R k) (hR : ∀ k, R k → k < w.heap.size) (hB : B ≤ w.heap.size) (hl : LeftJ S w w' a x' v l n) :
    ∃ N : Nat → Prop, JsAt N w' v l ∧ (∀ k, N k → w.heap.size ≤ k ∧ k < w'.heap.size) ∧ TwoQ (fun k => R k ∨ N k) B w' a b x' y n ∧ Chg (fun k => B ≤ k ∧ ¬ R k) w w' := by
  obtain ⟨S', p, q1, q2, q3⟩ := hl
  have hS' : ∀ k, S' k → ¬ R k ∧ B ≤ k := fun k hk => by
    rcases q3 k hk with r | r
    · exact ⟨(h4 k r).2, (h4 k r).1⟩
    · exact ⟨fun q => by have := hR k q; omega, by omega⟩
  refine ⟨fun k => w.heap.size ≤ k ∧ k < w'.heap.size ∧ ¬ S' k, p, fun k hk => ⟨hk.1, hk.2.1⟩, ⟨S', T, q1, h2.kept q2 (fun k hk q => h3 k q hk), fun k hk q => ?_, fun k hk => ⟨(hS' k hk).2, fun q => ?_⟩, fun k hk => ⟨(h5 k hk).1, fun q => ?_⟩⟩, q2.mono (fun k hk _ => h4 k hk)⟩
  · rcases q3 k hk with r | r
    · exact h3 k r q
    · have := h2.lt k q; omega
  · rcases q with q | q
    · exact (hS' k hk).1 q
    · exact q.2.2 hk
  · rcases q with q | q
    · exact (h5 k hk).2 q
    · have := h2.lt k hk; omega

theorem twoq_push (j : Jb) (h : TwoQ R B w a b x y n) (hR : ∀ k, R k → k < w.heap.size) (hB : B ≤ w.heap.size) (hn : n ≤ 1000000 := by omega) :
    Calls Try.prog 16 #[.pointer (some ⟨a, 0, none⟩), Jv j] w fun e w' => e = .returned (.int .i64 (pushE' x j)) ∧ TwoQ R B w' a b (pushQ x j) y (n + 1) ∧ Chg (fun k => B ≤ k ∧ ¬ R k) w w' := by
  obtain ⟨S, T, h1, h2, h3, h4, h5⟩ := h
  refine (epush_any a j S x n hn w h1).mono ?_
  rintro e w' ⟨rfl, hl⟩
  exact ⟨rfl, TwoQ.left (h2.more (Nat.le_succ n)) h3 h4 h5 hR hB hl⟩

theorem twoq_pushB (j : Jb) (h : TwoQ R B w a b x y n) (hR : ∀ k, R k → k < w.heap.size) (hB : B ≤ w.heap.size) (hn : n ≤ 1000000 := by omega) :
    Calls Try.prog 16 #[.pointer (some ⟨b, 0, none⟩), Jv j] w fun e w' => e = .returned (.int .i64 (pushE' y j)) ∧ TwoQ R B w' a b x (pushQ y j) (n + 1) ∧ Chg (fun k => B ≤ k ∧ ¬ R k) w w' := by
  refine (twoq_push j h.swap hR hB hn).mono ?_
  rintro e w' ⟨rfl, h1, h2⟩
  exact ⟨rfl, h1.swap, h2⟩

theorem twoq_work (u : Int) (h : TwoQ R B w a b x y n) (hR : ∀ k, R k → k < w.heap.size) (hB : B ≤ w.heap.size) (hu : u ≤ 9223372036854775807 := by omega) :
    Calls Try.prog 11 #[.pointer (some ⟨a, 0, none⟩), .int .i64 u] w fun e w' => ∃ v N, e = .returned (.tuple #[v, .int .i64 (workN x u.toNat : Int)]) ∧ JsAt N w' v (workD x u.toNat) ∧ (∀ k, N k → w.heap.size ≤ k ∧ k < w'.heap.size) ∧ TwoQ (fun k => R k ∨ N k) B w' a b (workR x u.toNat) y n ∧ Chg (fun k => B ≤ k ∧ ¬ R k) w w' := by
  obtain ⟨S, T, h1, h2, h3, h4, h5⟩ := h
  refine (ework_any a u S x n hu w h1).mono ?_
  rintro e w' ⟨v, rfl, hl⟩
  obtain ⟨N, g⟩ := TwoQ.leftJ h2 h3 h4 h5 hR hB hl
  exact ⟨v, N, rfl, g⟩

theorem twoq_workB (u : Int) (h : TwoQ R B w a b x y n) (hR : ∀ k, R k → k < w.heap.size) (hB : B ≤ w.heap.size) (hu : u ≤ 9223372036854775807 := by omega) :
    Calls Try.prog 11 #[.pointer (some ⟨b, 0, none⟩), .int .i64 u] w fun e w' => ∃ v N, e = .returned (.tuple #[v, .int .i64 (workN y u.toNat : Int)]) ∧ JsAt N w' v (workD y u.toNat) ∧ (∀ k, N k → w.heap.size ≤ k ∧ k < w'.heap.size) ∧ TwoQ (fun k => R k ∨ N k) B w' a b x (workR y u.toNat) n ∧ Chg (fun k => B ≤ k ∧ ¬ R k) w w' := by
  refine (twoq_work u h.swap hR hB hu).mono ?_
  rintro e w' ⟨v, N, rfl, h1, h2, h3, h4⟩
  exact ⟨v, N, rfl, h1, h2, h3.swap, h4⟩

theorem twoq_list (h : TwoQ R B w a b x y n) :
    Calls Try.prog 14 #[.pointer (some ⟨a, 0, none⟩)] w fun e w' => ∃ v, e = .returned v ∧ JsAt (fun k => w.heap.size ≤ k ∧ k < w'.heap.size) w' v x ∧ Below w.heap.size w w' := by
  obtain ⟨S, T, h1, _⟩ := h
  exact elist_any a S x n w h1

theorem twoq_listB (h : TwoQ R B w a b x y n) :
    Calls Try.prog 14 #[.pointer (some ⟨b, 0, none⟩)] w fun e w' => ∃ v, e = .returned v ∧ JsAt (fun k => w.heap.size ≤ k ∧ k < w'.heap.size) w' v y ∧ Below w.heap.size w w' := twoq_list h.swap

theorem twoq_left (h : TwoQ R B w a b x y n) :
    Calls Try.prog 15 #[.pointer (some ⟨a, 0, none⟩)] w fun e w' => e = .returned (.int .i64 (leftQ x)) ∧ Below w.heap.size w w' := by
  obtain ⟨S, T, h1, _⟩ := h
  exact eleft_any a S x n w h1

theorem twoq_leftB (h : TwoQ R B w a b x y n) :
    Calls Try.prog 15 #[.pointer (some ⟨b, 0, none⟩)] w fun e w' => e = .returned (.int .i64 (leftQ y)) ∧ Below w.heap.size w w' := twoq_left h.swap

end Go.Proofs.Ytgcpkploeobafaa
