/- Both queues, the code's and the document's, side by side. -/
import Derived.Test.YtgcpkploeobafaaEdConD
import Derived.Test.YtgcpkploeobafaaEdRefL
import Derived.Test.YtgcpkploeobafaaEdRefW
import Derived.Test.YtgcpkploeobafaaEdRefP
namespace Go.Proofs.Ytgcpkploeobafaa
open Go.RowKit
open Bt

/-- Both queues lie from B on, apart from one another and from what lies in R. -/
def TwoR (R : Nat → Prop) (B : Nat) (w : World) (a b : Nat) (x y : List Jb) (n : Nat) : Prop :=
  ∃ S T, Que S w a x n ∧ RQue T w b y ∧ (∀ k, S k → ¬ T k) ∧ (∀ k, S k → B ≤ k ∧ ¬ R k) ∧ (∀ k, T k → B ≤ k ∧ ¬ R k)

variable {R : Nat → Prop} {B : Nat} {w w' : World} {a b : Nat} {x y : List Jb} {N0 : Nat}

theorem TwoR.more {n' : Nat} (h : TwoR R B w a b x y N0) (hn : N0 ≤ n') : TwoR R B w a b x y n' := by
  obtain ⟨S, T, h1, h3⟩ := h
  exact ⟨S, T, h1.more hn, h3⟩

theorem TwoR.okX (h : TwoR R B w a b x y N0) : QOk x := by
  obtain ⟨S, T, h1, _⟩ := h
  exact h1.ok

theorem TwoR.kept {T : Nat → Prop} (h : TwoR R B w a b x y N0) (hc : Chg T w w') (hT : ∀ k, T k → R k) : TwoR R B w' a b x y N0 := by
  obtain ⟨S, U, h1, h2, h3, h4, h5⟩ := h
  exact ⟨S, U, h1.kept hc (fun k hk q => (h4 k hk).2 (hT k q)), h2.kept hc (fun k hk q => (h5 k hk).2 (hT k q)), h3, h4, h5⟩

theorem TwoR.below (h : TwoR R B w a b x y N0) (hb : Below w.heap.size w w') : TwoR R B w' a b x y N0 := h.kept (below_chg hb) (fun _ f => f.elim)

theorem TwoR.less {G : Nat → Prop} (h : TwoR R B w a b x y N0) (hG : ∀ k, G k → R k) : TwoR G B w a b x y N0 := by
  obtain ⟨S, T, h1, h2, h3, h4, h5⟩ := h
  exact ⟨S, T, h1, h2, h3, fun k hk => ⟨(h4 k hk).1, fun q => (h4 k hk).2 (hG k q)⟩, fun k hk => ⟨(h5 k hk).1, fun q => (h5 k hk).2 (hG k q)⟩⟩

/-- More memory, that is held. -/
theorem TwoR.grow (h : TwoR R B w a b x y N0) (hb : Below w.heap.size w w') : TwoR (fun k => R k ∨ w.heap.size ≤ k) B w' a b x y N0 := by
  obtain ⟨S, T, h1, h2, h3, h4, h5⟩ := h
  refine ⟨S, T, h1.kept (below_chg hb) (fun _ _ => id), h2.kept (below_chg hb) (fun _ _ => id), h3, fun k hk => ⟨(h4 k hk).1, fun q => ?_⟩, fun k hk => ⟨(h5 k hk).1, fun q => ?_⟩⟩
  · rcases q with q | q
    · exact (h4 k hk).2 q
    · have := h1.lt k hk; omega
  · rcases q with q | q
    · exact (h5 k hk).2 q
    · have := h2.lt k hk; omega

/-- What is held is written; more memory, that is held. -/
theorem TwoR.grown {T : Nat → Prop} (h : TwoR R B w a b x y N0) (hc : Chg T w w') (hT : ∀ k, T k → R k) : TwoR (fun k => R k ∨ w.heap.size ≤ k) B w' a b x y N0 := by
  obtain ⟨S, U, h1, h2, h3, h4, h5⟩ := h
  refine ⟨S, U, h1.kept hc (fun k hk q => (h4 k hk).2 (hT k q)), h2.kept hc (fun k hk q => (h5 k hk).2 (hT k q)), h3, fun k hk => ⟨(h4 k hk).1, fun q => ?_⟩, fun k hk => ⟨(h5 k hk).1, fun q => ?_⟩⟩
  · rcases q with q | q
    · exact (h4 k hk).2 q
    · have := h1.lt k hk; omega
  · rcases q with q | q
    · exact (h5 k hk).2 q
    · have := h2.lt k hk; omega

theorem twor_new {S T : Nat → Prop} {w1 w2 : World} (hB : B ≤ w.heap.size) (h1 : Que S w1 a [] N0) (hS : ∀ k, S k → w.heap.size ≤ k) (b1 : Below w.heap.size w w1) (h2 : RQue T w2 b []) (hT : ∀ k, T k → w1.heap.size ≤ k) (b2 : Below w1.heap.size w1 w2) : TwoR (fun _ => False) B w2 a b [] [] N0 := by
  have := b1.size
  refine ⟨S, T, h1.kept (below_chg b2) (fun _ _ => id), h2, fun k hk q => ?_, fun k hk => ⟨by have := hS k hk; omega, id⟩, fun k hk => ⟨by have := hT k hk; omega, id⟩⟩
  have := h1.lt k hk
  have := hT k q
  omega

theorem TwoR.leftA {S T : Nat → Prop} {x' : List Jb} (h2 : RQue T w b y) (h3 : ∀ k, S k → ¬ T k) (h4 : ∀ k, S k → B ≤ k ∧ ¬ R k) (h5 : ∀ k, T k → B ≤ k ∧ ¬ R k) (hR : ∀ k, R k → k < w.heap.size) (hB : B ≤ w.heap.size) (hl : LeftE S w w' a x' N0) : TwoR R B w' a b x' y N0 ∧ Chg (fun k => B ≤ k ∧ ¬ R k) w w' := by
  obtain ⟨S', q1, q2, q3⟩ := hl
  refine ⟨⟨S', T, q1, h2.kept q2 (fun k hk q => h3 k q hk), fun k hk q => ?_, fun k hk => ?_, h5⟩, q2.mono (fun k hk _ => h4 k hk)⟩
  · rcases q3 k hk with r | r
    · exact h3 k r q
    · have := h2.lt k q; omega
  · rcases q3 k hk with r | r
    · exact h4 k r
    · exact ⟨by omega, fun q => by have := hR k q; omega⟩

theorem TwoR.leftB {S T : Nat → Prop} {y' : List Jb} (h1 : Que S w a x N0) (h3 : ∀ k, S k → ¬ T k) (h4 : ∀ k, S k → B ≤ k ∧ ¬ R k) (h5 : ∀ k, T k → B ≤ k ∧ ¬ R k) (hR : ∀ k, R k → k < w.heap.size) (hB : B ≤ w.heap.size) (hl : LeftR T w w' b y') : TwoR R B w' a b x y' N0 ∧ Chg (fun k => B ≤ k ∧ ¬ R k) w w' := by
  obtain ⟨T', q1, q2, q3⟩ := hl
  refine ⟨⟨S, T', h1.kept q2 (fun k hk q => h3 k hk q), q1, fun k hk q => ?_, h4, fun k hk => ?_⟩, q2.mono (fun k hk _ => h5 k hk)⟩
  · rcases q3 k q with r | r
    · exact h3 k hk r
    · have := h1.lt k hk; omega
  · rcases q3 k hk with r | r
    · exact h5 k r
    · exact ⟨by omega, fun q => by have := hR k q; omega⟩

theorem TwoR.leftJA {S T : Nat → Prop} {x' l : List Jb} {v : Value} (h2 : RQue T w b y) (h3 : ∀ k, S k → ¬ T k) (h4 : ∀ k, S k → B ≤ k ∧ ¬ R k) (h5 : ∀ k, T k → B ≤ k ∧ ¬ R k) (hR : ∀ k, R k → k < w.heap.size) (hB : B ≤ w.heap.size) (hl : LeftJ S w w' a x' v l N0) :
    ∃ N : Nat → Prop, JsAt N w' v l ∧ (∀ k, N k → w.heap.size ≤ k ∧ k < w'.heap.size) ∧ TwoR (fun k => R k ∨ N k) B w' a b x' y N0 ∧ Chg (fun k => B ≤ k ∧ ¬ R k) w w' := by
  obtain ⟨S', p, q1, q2, q3⟩ := hl
  have hS' : ∀ k, S' k → ¬ R k ∧ B ≤ k := fun k hk => by
    rcases q3 k hk with r | r
    · exact ⟨(h4 k r).2, (h4 k r).1⟩
    · exact ⟨fun q => by have := hR k q; omega, by omega⟩
  refine ⟨fun k => w.heap.size ≤ k ∧ k < w'.heap.size ∧ ¬ S' k, p, fun k hk => ⟨hk.1, hk.2.1⟩, ⟨S', T, q1, h2.kept q2 (fun k hk q => h3 k q hk), fun k hk q => ?_, fun k hk => ⟨(hS' k hk).2, fun q => ?_⟩, fun k hk => ⟨(h5 k hk).1, fun q => ?_⟩⟩, q2.mono (fun k hk _ => h4 k hk)⟩
  · rcases q3 k hk with r | r
    · exact h3 k r q
    · have := h2.lt k q; omega
  · rcases q with q | q
    · exact (hS' k hk).1 q
    · exact q.2.2 hk
  · rcases q with q | q
    · exact (h5 k hk).2 q
    · have := h2.lt k hk; omega

theorem TwoR.leftJB {S T : Nat → Prop} {y' l : List Jb} {v : Value} (h1 : Que S w a x N0) (h3 : ∀ k, S k → ¬ T k) (h4 : ∀ k, S k → B ≤ k ∧ ¬ R k) (h5 : ∀ k, T k → B ≤ k ∧ ¬ R k) (hR : ∀ k, R k → k < w.heap.size) (hB : B ≤ w.heap.size) (hl : LeftRJ T w w' b y' v l) :
    ∃ N : Nat → Prop, JsAt N w' v l ∧ (∀ k, N k → w.heap.size ≤ k ∧ k < w'.heap.size) ∧ TwoR (fun k => R k ∨ N k) B w' a b x y' N0 ∧ Chg (fun k => B ≤ k ∧ ¬ R k) w w' := by
  obtain ⟨T', p, q1, q2, q3⟩ := hl
  have hT' : ∀ k, T' k → ¬ R k ∧ B ≤ k := fun k hk => by
    rcases q3 k hk with r | r
    · exact ⟨(h5 k r).2, (h5 k r).1⟩
    · exact ⟨fun q => by have := hR k q; omega, by omega⟩
  refine ⟨fun k => w.heap.size ≤ k ∧ k < w'.heap.size ∧ ¬ T' k, p, fun k hk => ⟨hk.1, hk.2.1⟩, ⟨S, T', h1.kept q2 (fun k hk q => h3 k hk q), q1, fun k hk q => ?_, fun k hk => ⟨(h4 k hk).1, fun q => ?_⟩, fun k hk => ⟨(hT' k hk).2, fun q => ?_⟩⟩, q2.mono (fun k hk _ => h5 k hk)⟩
  · rcases q3 k q with r | r
    · exact h3 k hk r
    · have := h1.lt k hk; omega
  · rcases q with q | q
    · exact (h4 k hk).2 q
    · have := h1.lt k hk; omega
  · rcases q with q | q
    · exact (hT' k hk).1 q
    · exact q.2.2 hk

theorem r_push (j : Jb) (h : TwoR R B w a b x y N0) (hR : ∀ k, R k → k < w.heap.size) (hB : B ≤ w.heap.size) (hn : N0 ≤ 1000000 := by omega) :
    Calls Try.prog 16 #[.pointer (some ⟨a, 0, none⟩), Jv j] w fun e w' => e = .returned (.int .i64 (pushE' x j)) ∧ TwoR R B w' a b (pushQ x j) y (N0 + 1) ∧ Chg (fun k => B ≤ k ∧ ¬ R k) w w' := by
  obtain ⟨S, T, h1, h2, h3, h4, h5⟩ := h
  refine (epush_any a j S x N0 hn w h1).mono ?_
  rintro e w' ⟨rfl, hl⟩
  exact ⟨rfl, TwoR.leftA h2 h3 h4 h5 hR hB hl⟩

theorem r_rpush (j : Jb) (h : TwoR R B w a b x y N0) (hR : ∀ k, R k → k < w.heap.size) (hB : B ≤ w.heap.size) :
    Calls Try.prog 18 #[.pointer (some ⟨b, 0, none⟩), Jv j] w fun e w' => e = .returned (.int .i64 (pushE' y j)) ∧ TwoR R B w' a b x (pushQ y j) N0 ∧ Chg (fun k => B ≤ k ∧ ¬ R k) w w' := by
  obtain ⟨S, T, h1, h2, h3, h4, h5⟩ := h
  refine (refPush12_any b j T y w h2).mono ?_
  rintro e w' ⟨rfl, hl⟩
  exact ⟨rfl, TwoR.leftB h1 h3 h4 h5 hR hB hl⟩

theorem r_drop (n : Int) (h : TwoR R B w a b x y N0) (hR : ∀ k, R k → k < w.heap.size) (hB : B ≤ w.heap.size) :
    Calls Try.prog 13 #[.pointer (some ⟨a, 0, none⟩), .int .i64 n] w fun e w' => e = .returned (.int .i64 (dropN x n : Int)) ∧ TwoR R B w' a b (dropR x n) y N0 ∧ Chg (fun k => B ≤ k ∧ ¬ R k) w w' := by
  obtain ⟨S, T, h1, h2, h3, h4, h5⟩ := h
  refine (edrop_any a n S x N0 w h1).mono ?_
  rintro e w' ⟨rfl, hl⟩
  exact ⟨rfl, TwoR.leftA h2 h3 h4 h5 hR hB hl⟩

theorem r_rdrop (n : Int) (h : TwoR R B w a b x y N0) (hR : ∀ k, R k → k < w.heap.size) (hB : B ≤ w.heap.size) :
    Calls Try.prog 24 #[.pointer (some ⟨b, 0, none⟩), .int .i64 n] w fun e w' => e = .returned (.int .i64 (dropN y n : Int)) ∧ TwoR R B w' a b x (dropR y n) N0 ∧ Chg (fun k => B ≤ k ∧ ¬ R k) w w' := by
  obtain ⟨S, T, h1, h2, h3, h4, h5⟩ := h
  refine (refDrop12_any b n T y w h2).mono ?_
  rintro e w' ⟨rfl, hl⟩
  exact ⟨rfl, TwoR.leftB h1 h3 h4 h5 hR hB hl⟩

theorem r_work (u : Int) (h : TwoR R B w a b x y N0) (hR : ∀ k, R k → k < w.heap.size) (hB : B ≤ w.heap.size) (hu : u ≤ 9223372036854775807 := by omega) :
    Calls Try.prog 11 #[.pointer (some ⟨a, 0, none⟩), .int .i64 u] w fun e w' => ∃ v N, e = .returned (.tuple #[v, .int .i64 (workN x u.toNat : Int)]) ∧ JsAt N w' v (workD x u.toNat) ∧ (∀ k, N k → w.heap.size ≤ k ∧ k < w'.heap.size) ∧ TwoR (fun k => R k ∨ N k) B w' a b (workR x u.toNat) y N0 ∧ Chg (fun k => B ≤ k ∧ ¬ R k) w w' := by
  obtain ⟨S, T, h1, h2, h3, h4, h5⟩ := h
  refine (ework_any a u S x N0 hu w h1).mono ?_
  rintro e w' ⟨v, rfl, hl⟩
  obtain ⟨N, g⟩ := TwoR.leftJA h2 h3 h4 h5 hR hB hl
  exact ⟨v, N, rfl, g⟩

theorem r_rwork (u : Int) (hu : u ≤ 100000) (h : TwoR R B w a b x y N0) (hR : ∀ k, R k → k < w.heap.size) (hB : B ≤ w.heap.size) :
    Calls Try.prog 21 #[.pointer (some ⟨b, 0, none⟩), .int .i64 u] w fun e w' => ∃ v N, e = .returned (.tuple #[v, .int .i64 (workN y u.toNat : Int)]) ∧ JsAt N w' v (workD y u.toNat) ∧ (∀ k, N k → w.heap.size ≤ k ∧ k < w'.heap.size) ∧ TwoR (fun k => R k ∨ N k) B w' a b x (workR y u.toNat) N0 ∧ Chg (fun k => B ≤ k ∧ ¬ R k) w w' := by
  obtain ⟨S, T, h1, h2, h3, h4, h5⟩ := h
  refine (refWork12_any b u hu T y w h2).mono ?_
  rintro e w' ⟨v, rfl, hl⟩
  obtain ⟨N, g⟩ := TwoR.leftJB h1 h3 h4 h5 hR hB hl
  exact ⟨v, N, rfl, g⟩

theorem r_late (n : Int) (h : TwoR R B w a b x y N0) (hR : ∀ k, R k → k < w.heap.size) (hB : B ≤ w.heap.size) :
    Calls Try.prog 12 #[.pointer (some ⟨a, 0, none⟩), .int .i64 n] w fun e w' => ∃ v N, e = .returned (v) ∧ JsAt N w' v (lateD x n) ∧ (∀ k, N k → w.heap.size ≤ k ∧ k < w'.heap.size) ∧ TwoR (fun k => R k ∨ N k) B w' a b (lateR x n) y N0 ∧ Chg (fun k => B ≤ k ∧ ¬ R k) w w' := by
  obtain ⟨S, T, h1, h2, h3, h4, h5⟩ := h
  refine (elate_any a n S x N0 w h1).mono ?_
  rintro e w' ⟨v, rfl, hl⟩
  obtain ⟨N, g⟩ := TwoR.leftJA h2 h3 h4 h5 hR hB hl
  exact ⟨v, N, rfl, g⟩

theorem r_rlate (n : Int) (h : TwoR R B w a b x y N0) (hR : ∀ k, R k → k < w.heap.size) (hB : B ≤ w.heap.size) :
    Calls Try.prog 23 #[.pointer (some ⟨b, 0, none⟩), .int .i64 n] w fun e w' => ∃ v N, e = .returned (v) ∧ JsAt N w' v (lateD y n) ∧ (∀ k, N k → w.heap.size ≤ k ∧ k < w'.heap.size) ∧ TwoR (fun k => R k ∨ N k) B w' a b x (lateR y n) N0 ∧ Chg (fun k => B ≤ k ∧ ¬ R k) w w' := by
  obtain ⟨S, T, h1, h2, h3, h4, h5⟩ := h
  refine (refLate12_any b n T y w h2).mono ?_
  rintro e w' ⟨v, rfl, hl⟩
  obtain ⟨N, g⟩ := TwoR.leftJB h1 h3 h4 h5 hR hB hl
  exact ⟨v, N, rfl, g⟩

theorem r_list (h : TwoR R B w a b x y N0) :
    Calls Try.prog 14 #[.pointer (some ⟨a, 0, none⟩)] w fun e w' => ∃ v, e = .returned v ∧ JsAt (fun k => w.heap.size ≤ k ∧ k < w'.heap.size) w' v x ∧ Below w.heap.size w w' := by
  obtain ⟨S, T, h1, _⟩ := h
  exact elist_any a S x N0 w h1

theorem r_left (h : TwoR R B w a b x y N0) :
    Calls Try.prog 15 #[.pointer (some ⟨a, 0, none⟩)] w fun e w' => e = .returned (.int .i64 (leftQ x)) ∧ Below w.heap.size w w' := by
  obtain ⟨S, T, h1, _⟩ := h
  exact eleft_any a S x N0 w h1

theorem r_rleft (h : TwoR R B w a b x y N0) :
    Calls Try.prog 25 #[.pointer (some ⟨b, 0, none⟩)] w fun e w' => e = .returned (.int .i64 (leftQ y)) ∧ Below w.heap.size w w' := by
  obtain ⟨S, T, _, h2, _⟩ := h
  exact refLeft12_any b T y w h2

/-- What the document's queue lists. -/
theorem TwoR.lists (h : TwoR R B w a b x y N0) : ∃ v N, w.cell? ⟨b, 0, none⟩ = some v ∧ JsAt N w v y := by
  obtain ⟨S, T, _, ⟨v, h2⟩, _⟩ := h
  exact ⟨v, _, h2.cell, h2.js⟩

end Go.Proofs.Ytgcpkploeobafaa
