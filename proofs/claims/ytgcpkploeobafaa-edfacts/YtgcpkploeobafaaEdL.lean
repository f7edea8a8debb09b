/- A queue among other things: the blocks that are not to be touched stay. -/
import Derived.Test.YtgcpkploeobafaaEdCon
import Derived.Laws.OwnMore
import Derived.Deep.OwnRows
namespace Go.Proofs.Ytgcpkploeobafaa
open Go.RowKit
open Bt

/-- A queue whose own blocks lie outside F; what lies in F is as it was in w0. -/
def QL (F : Nat → Prop) (w0 w : World) (b : Nat) (x : List Jb) (n : Nat) : Prop :=
  ∃ S, Que S w b x n ∧ (∀ k, S k → ¬ F k) ∧ (∀ k, F k → k < w0.heap.size) ∧ Chg (fun k => ¬ F k) w0 w

variable {F : Nat → Prop} {w0 w w' : World} {b : Nat} {x : List Jb} {n : Nat}

theorem QL.more {n' : Nat} (h : QL F w0 w b x n) (hn : n ≤ n') : QL F w0 w b x n' := by
  obtain ⟨S, h1, h2⟩ := h
  exact ⟨S, h1.more hn, h2⟩

theorem QL.ok (h : QL F w0 w b x n) : QOk x := by
  obtain ⟨S, h, _⟩ := h
  exact h.ok

theorem QL.chg (h : QL F w0 w b x n) : Chg (fun k => ¬ F k) w0 w := by
  obtain ⟨S, _, _, _, h⟩ := h
  exact h

theorem QL.cell (h : QL F w0 w b x n) {a : Addr} {v : Value} (hc : w0.cell? a = some v) (hF : F a.block) : w.cell? a = some v := cell_chg h.chg hc (fun q => q hF)

theorem QL.block (h : QL F w0 w b x n) {k : Nat} (hF : F k) : w.heap[k]? = w0.heap[k]? := by
  obtain ⟨S, _, _, h2, h3⟩ := h
  exact h3.block k (h2 k hF) (fun q => q hF)

theorem QL.reads (h : QL F w0 w b x n) {ao : Option Addr} {bs : List Nat} (hr : Reads w0 ao bs) (hF : ∀ ad, ao = some ad → F ad.block) : Reads w ao bs :=
  hr.kept h.chg (fun ad ha q => q (hF ad ha))

theorem QL.below (h : QL F w0 w b x n) (hb : Below w.heap.size w w') : QL F w0 w' b x n := by
  obtain ⟨S, h1, h2, h3, h4⟩ := h
  exact ⟨S, h1.kept (below_chg hb) (fun _ _ => id), h2, h3, h4.trans (below_chg hb) (fun _ f _ => f.elim)⟩

theorem QL.here (h : QL F w0 w b x n) : QL F w w b x n := by
  obtain ⟨S, h1, h2, h3, h4⟩ := h
  exact ⟨S, h1, h2, fun k hk => Nat.lt_of_lt_of_le (h3 k hk) h4.size, Chg.refl _ _⟩

/-- Something that is held is written. -/
theorem QL.write (h : QL F w0 w b x n) {p : Addr} (hF : F p.block) (v : Value) : QL F (w.setCell p v) (w.setCell p v) b x n := by
  obtain ⟨S, h1, h2, h3, h4⟩ := h
  have hc : Chg (fun k => k = p.block) w (w.setCell p v) := Chg.setCell (S := fun k => k = p.block) (Chg.refl _ w) (fun _ => rfl) v
  refine ⟨S, h1.kept hc (fun k hk e => h2 k hk (e ▸ hF)), h2, fun k hk => ?_, Chg.refl _ _⟩
  have := h3 k hk
  have := h4.size
  have := hc.size
  omega

theorem QL.less {G : Nat → Prop} (h : QL F w0 w b x n) (hG : ∀ k, G k → F k) : QL G w0 w b x n := by
  obtain ⟨S, h1, h2, h3, h4⟩ := h
  exact ⟨S, h1, fun k hk q => h2 k hk (hG k q), fun k hk => h3 k (hG k hk), h4.mono (fun k hk _ q => hk (hG k q))⟩

/-- Behind more memory, that is held, too. -/
theorem QL.grow (h : QL F w0 w b x n) (hb : Below w.heap.size w w') : QL (fun k => F k ∨ (w.heap.size ≤ k ∧ k < w'.heap.size)) w' w' b x n := by
  obtain ⟨S, h1, h2, h3, h4⟩ := h
  refine ⟨S, h1.kept (below_chg hb) (fun _ _ => id), fun k hk q => ?_, fun k q => ?_, Chg.refl _ _⟩
  · rcases q with q | ⟨q, _⟩
    · exact h2 k hk q
    · have := h1.lt k hk; omega
  · rcases q with q | ⟨_, q⟩
    · have := h3 k q
      have := h4.size
      have := hb.size
      omega
    · exact q

theorem QL.out (h : QL F w0 w b x n) {B : Nat} (hB : B ≤ w0.heap.size) (hF : ∀ k, k < B → F k) : Below B w0 w :=
  h.chg.below hB (fun k hk => by
    rcases Nat.lt_or_ge k B with q | q
    · exact absurd (hF k q) hk
    · exact q)

theorem QL.left {S : Nat → Prop} {y : List Jb} (h2 : ∀ k, S k → ¬ F k) (h3 : ∀ k, F k → k < w0.heap.size) (h4 : Chg (fun k => ¬ F k) w0 w) (hl : LeftE S w w' b y n) : QL F w0 w' b y n := by
  obtain ⟨S', q1, q2, q3⟩ := hl
  refine ⟨S', q1, fun k hk hF => ?_, h3, h4.trans q2 (fun k hk _ => h2 k hk)⟩
  rcases q3 k hk with q | q
  · exact h2 k q hF
  · have := h3 k hF
    have := h4.size
    omega

theorem ql_new {S : Nat → Prop} (h : Que S w' b x n) (hS : ∀ k, S k → w.heap.size ≤ k) (hb : Below w.heap.size w w') : QL (fun k => k < w.heap.size) w' w' b x n :=
  ⟨S, h, fun k hk q => by have := hS k hk; omega, fun k hk => Nat.lt_of_lt_of_le hk hb.size, Chg.refl _ _⟩

theorem QL.rebase {G : Nat → Prop} {w1 w2 : World} {y : List Jb} {n' : Nat} (h : QL F w0 w b x n) (hb : Below w.heap.size w w1) (h' : QL G w1 w2 b y n') (hG : ∀ k, F k → G k) : QL F w0 w2 b y n' := by
  obtain ⟨S, _, _, h3, h4⟩ := h
  obtain ⟨S', q1, q2, _, q4⟩ := h'
  exact ⟨S', q1, fun k hk q => q2 k hk (hG k q), h3, (h4.trans (below_chg hb) (fun _ f _ => f.elim)).trans q4 (fun k hk _ q => hk (hG k q))⟩

theorem QL.leftJ {S : Nat → Prop} {y l : List Jb} {v : Value} (h2 : ∀ k, S k → ¬ F k) (h3 : ∀ k, F k → k < w0.heap.size) (h4 : Chg (fun k => ¬ F k) w0 w) (hl : LeftJ S w w' b y v l n) : ∃ G, (∀ k, F k → G k) ∧ JsAt G w' v l ∧ QL G w' w' b y n ∧ QL F w0 w' b y n := by
  obtain ⟨S', hp, q1, q2, q3⟩ := hl
  have hsl : QL F w0 w' b y n := QL.left h2 h3 h4 ⟨S', q1, q2, q3⟩
  have hF' : ∀ k, S' k → ¬ F k := fun k hk hf => by
    rcases q3 k hk with q | q
    · exact h2 k q hf
    · have := h3 k hf
      have := h4.size
      omega
  refine ⟨fun k => F k ∨ (w.heap.size ≤ k ∧ k < w'.heap.size ∧ ¬ S' k), fun k hk => .inl hk, hp.mono (fun k hk => .inr hk), ⟨S', q1, fun k hk q => ?_, fun k q => ?_, Chg.refl _ _⟩, hsl⟩
  · rcases q with q | q
    · exact hF' k hk q
    · exact q.2.2 hk
  · rcases q with q | q
    · have := h3 k q
      have := h4.size
      have := q2.size
      omega
    · exact q.2.1

theorem qlpush (j : Jb) (h : QL F w0 w b x n) (hn : n ≤ 1000000 := by omega) :
    Calls Try.prog 16 #[.pointer (some ⟨b, 0, none⟩), Jv j] w fun e w' => e = .returned (.int .i64 (pushE' x j)) ∧ QL F w0 w' b (pushQ x j) (n + 1) := by
  obtain ⟨S, h1, h2, h3, h4⟩ := h
  refine (epush_any b j S x n hn w h1).mono ?_
  rintro e w' ⟨rfl, hl⟩
  exact ⟨rfl, QL.left h2 h3 h4 hl⟩

theorem qlwork (u : Int) (h : QL F w0 w b x n) (hu : u ≤ 9223372036854775807 := by omega) :
    Calls Try.prog 11 #[.pointer (some ⟨b, 0, none⟩), .int .i64 u] w fun e w' => ∃ v G, e = .returned (.tuple #[v, .int .i64 (workN x u.toNat : Int)]) ∧ (∀ k, F k → G k) ∧ JsAt G w' v (workD x u.toNat) ∧ QL G w' w' b (workR x u.toNat) n ∧ QL F w0 w' b (workR x u.toNat) n := by
  obtain ⟨S, h1, h2, h3, h4⟩ := h
  refine (ework_any b u S x n hu w h1).mono ?_
  rintro e w' ⟨v, rfl, hl⟩
  obtain ⟨G, g⟩ := QL.leftJ h2 h3 h4 hl
  exact ⟨v, G, rfl, g⟩

theorem qllate (now : Int) (h : QL F w0 w b x n) :
    Calls Try.prog 12 #[.pointer (some ⟨b, 0, none⟩), .int .i64 now] w fun e w' => ∃ v G, e = .returned v ∧ (∀ k, F k → G k) ∧ JsAt G w' v (lateD x now) ∧ QL G w' w' b (lateR x now) n ∧ QL F w0 w' b (lateR x now) n := by
  obtain ⟨S, h1, h2, h3, h4⟩ := h
  refine (elate_any b now S x n w h1).mono ?_
  rintro e w' ⟨v, rfl, hl⟩
  obtain ⟨G, g⟩ := QL.leftJ h2 h3 h4 hl
  exact ⟨v, G, rfl, g⟩

theorem qllist (h : QL F w0 w b x n) :
    Calls Try.prog 14 #[.pointer (some ⟨b, 0, none⟩)] w fun e w' => ∃ v, e = .returned v ∧ JsAt (fun k => w.heap.size ≤ k ∧ k < w'.heap.size) w' v x ∧ Below w.heap.size w w' := by
  obtain ⟨S, h1, _⟩ := h
  exact elist_any b S x n w h1

theorem qlleft (h : QL F w0 w b x n) :
    Calls Try.prog 15 #[.pointer (some ⟨b, 0, none⟩)] w fun e w' => e = .returned (.int .i64 (leftQ x)) ∧ Below w.heap.size w w' := by
  obtain ⟨S, h1, _⟩ := h
  exact eleft_any b S x n w h1

end Go.Proofs.Ytgcpkploeobafaa
