/- A table among other things: the blocks that are not to be touched stay. -/
import Derived.Test.YtohedeeajcdjcaaDoorRoCon
import Derived.Laws.OwnMore
import Derived.Deep.OwnRows
namespace Go.Proofs.YtohedeeajcdjcaaDoor
open Go.RowKit
open Bt

/-- A table whose own blocks lie outside F; what lies in F is as it was in w0. -/
def TL (F : Nat → Prop) (w0 w : World) (b : Nat) (x : Tab) : Prop :=
  ∃ S, Tabl S w b x ∧ (∀ k, S k → ¬ F k) ∧ (∀ k, F k → k < w0.heap.size) ∧ Chg (fun k => ¬ F k) w0 w

variable {F : Nat → Prop} {w0 w w' : World} {b : Nat} {x : Tab}

theorem TL.ok (h : TL F w0 w b x) : x.Ok := by
  obtain ⟨S, h, _⟩ := h
  exact h.ok

theorem TL.chg (h : TL F w0 w b x) : Chg (fun k => ¬ F k) w0 w := by
  obtain ⟨S, _, _, _, h⟩ := h
  exact h

theorem TL.cell (h : TL F w0 w b x) {a : Addr} {v : Value} (hc : w0.cell? a = some v) (hF : F a.block) : w.cell? a = some v := cell_chg h.chg hc (fun q => q hF)

theorem TL.block (h : TL F w0 w b x) {k : Nat} (hF : F k) : w.heap[k]? = w0.heap[k]? := by
  obtain ⟨S, _, _, h2, h3⟩ := h
  exact h3.block k (h2 k hF) (fun q => q hF)

theorem TL.wid (h : TL F w0 w b x) (hW : Wid w0) (h0 : F 0) : Wid w := by
  obtain ⟨t, fr, hW⟩ := hW
  exact ⟨t, fr, (h.block h0).trans hW⟩

theorem TL.reads (h : TL F w0 w b x) {ao : Option Addr} {bs : List Nat} (hr : Reads w0 ao bs) (hF : ∀ ad, ao = some ad → F ad.block) : Reads w ao bs :=
  hr.kept h.chg (fun ad ha q => q (hF ad ha))

theorem TL.below (h : TL F w0 w b x) (hb : Below w.heap.size w w') : TL F w0 w' b x := by
  obtain ⟨S, h1, h2, h3, h4⟩ := h
  exact ⟨S, h1.kept (below_chg hb) (fun _ _ => id), h2, h3, h4.trans (below_chg hb) (fun _ f _ => f.elim)⟩

theorem TL.here (h : TL F w0 w b x) : TL F w w b x := by
  obtain ⟨S, h1, h2, h3, h4⟩ := h
  exact ⟨S, h1, h2, fun k hk => Nat.lt_of_lt_of_le (h3 k hk) h4.size, Chg.refl _ _⟩

/-- Something that is held is written. -/
theorem TL.write (h : TL F w0 w b x) {p : Addr} (hF : F p.block) (v : Value) : TL F (w.setCell p v) (w.setCell p v) b x := by
  obtain ⟨S, h1, h2, h3, h4⟩ := h
  have hc : Chg (fun k => k = p.block) w (w.setCell p v) := Chg.setCell (S := fun k => k = p.block) (Chg.refl _ w) (fun _ => rfl) v
  refine ⟨S, h1.kept hc (fun k hk e => h2 k hk (e ▸ hF)), h2, fun k hk => ?_, Chg.refl _ _⟩
  have := h3 k hk
  have := h4.size
  have := hc.size
  omega

theorem TL.less {G : Nat → Prop} (h : TL F w0 w b x) (hG : ∀ k, G k → F k) : TL G w0 w b x := by
  obtain ⟨S, h1, h2, h3, h4⟩ := h
  exact ⟨S, h1, fun k hk q => h2 k hk (hG k q), fun k hk => h3 k (hG k hk), h4.mono (fun k hk _ q => hk (hG k q))⟩

/-- Behind more memory, that is held, too. -/
theorem TL.grow (h : TL F w0 w b x) (hb : Below w.heap.size w w') : TL (fun k => F k ∨ (w.heap.size ≤ k ∧ k < w'.heap.size)) w' w' b x := by
  obtain ⟨S, h1, h2, h3, h4⟩ := h
  refine ⟨S, h1.kept (below_chg hb) (fun _ _ => id), fun k hk q => ?_, fun k q => ?_, Chg.refl _ _⟩
  · rcases q with q | ⟨q, _⟩
    · exact h2 k hk q
    · have := h1.lt k hk; omega
  · rcases q with q | ⟨_, q⟩
    · have := h3 k q
      have := h4.size
      have := hb.size
      omega
    · exact q

theorem TL.out (h : TL F w0 w b x) {B : Nat} (hB : B ≤ w0.heap.size) (hF : ∀ k, k < B → F k) : Below B w0 w :=
  h.chg.below hB (fun k hk => by
    rcases Nat.lt_or_ge k B with q | q
    · exact absurd (hF k q) hk
    · exact q)

theorem TL.left {S : Nat → Prop} {y : Tab} (h2 : ∀ k, S k → ¬ F k) (h3 : ∀ k, F k → k < w0.heap.size) (h4 : Chg (fun k => ¬ F k) w0 w) (hl : LeftT S w w' b y) : TL F w0 w' b y := by
  obtain ⟨S', q1, q2, q3⟩ := hl
  refine ⟨S', q1, fun k hk hF => ?_, h3, h4.trans q2 (fun k hk _ => h2 k hk)⟩
  rcases q3 k hk with q | q
  · exact h2 k q hF
  · have := h3 k hF
    have := h4.size
    omega

theorem tl_new {S : Nat → Prop} (h : Tabl S w' b x) (hS : ∀ k, S k → w.heap.size ≤ k) (hb : Below w.heap.size w w') : TL (fun k => k < w.heap.size) w' w' b x :=
  ⟨S, h, fun k hk q => by have := hS k hk; omega, fun k hk => Nat.lt_of_lt_of_le hk hb.size, Chg.refl _ _⟩

theorem TL.rebase {G : Nat → Prop} {w1 w2 : World} {y : Tab} (h : TL F w0 w b x) (hb : Below w.heap.size w w1) (h' : TL G w1 w2 b y) (hG : ∀ k, F k → G k) : TL F w0 w2 b y := by
  obtain ⟨S, _, _, h3, h4⟩ := h
  obtain ⟨S', q1, q2, _, q4⟩ := h'
  exact ⟨S', q1, fun k hk q => q2 k hk (hG k q), h3, (h4.trans (below_chg hb) (fun _ f _ => f.elim)).trans q4 (fun k hk _ q => hk (hG k q))⟩

theorem tlhear (tx ant rssi now : Int) (hn : 0 ≤ now ∧ now ≤ 2 ^ 40) (h : TL F w0 w b x) (hw : Wid w) :
    Calls Tryd.prog 15 #[.pointer (some ⟨b, 0, none⟩), .int .i64 tx, .int .i64 ant, .int .i64 rssi, .int .i64 now] w fun e w' => e = .returned (.int .i64 (hearT x tx ant rssi)) ∧ TL F w0 w' b (hearX x tx ant rssi now) := by
  obtain ⟨S, h1, h2, h3, h4⟩ := h
  refine (ohear_any b tx ant rssi now hn S x w hw h1).mono ?_
  rintro e w' ⟨rfl, hl⟩
  exact ⟨rfl, TL.left h2 h3 h4 hl⟩

theorem tlforget (now : Int) (hn : 0 ≤ now ∧ now ≤ 2 ^ 41) (h : TL F w0 w b x) :
    Calls Tryd.prog 16 #[.pointer (some ⟨b, 0, none⟩), .int .i64 now] w fun e w' => ∃ v G, e = .returned v ∧ (∀ k, F k → G k) ∧ NumsAt G w' v (goneX x now) ∧ TL G w' w' b (forgetX x now) ∧ TL F w0 w' b (forgetX x now) := by
  obtain ⟨S, h1, h2, h3, h4⟩ := h
  refine (oforget_any b now hn S x w h1).mono ?_
  rintro e w' ⟨v, F', rfl, hp, q1, q2, q3⟩
  have hsl : TL F w0 w' b (forgetX x now) := TL.left h2 h3 h4 ⟨F', q1, q2, q3⟩
  have hF' : ∀ k, F' k → ¬ F k := fun k hk hf => by
    rcases q3 k hk with q | q
    · exact h2 k q hf
    · have := h3 k hf
      have := h4.size
      omega
  refine ⟨v, fun k => F k ∨ (w.heap.size ≤ k ∧ k < w'.heap.size ∧ ¬ F' k), rfl, fun k hk => .inl hk, hp.mono (fun k hk => .inr hk), ⟨F', q1, fun k hk q => ?_, fun k q => ?_, Chg.refl _ _⟩, hsl⟩
  · rcases q with q | q
    · exact hF' k hk q
    · exact q.2.2 hk
  · rcases q with q | q
    · have := h3 k q
      have := h4.size
      have := q2.size
      omega
    · exact q.2.1

theorem tllist (h : TL F w0 w b x) :
    Calls Tryd.prog 17 #[.pointer (some ⟨b, 0, none⟩)] w fun e w' => ∃ v, e = .returned v ∧ SensAt (fun k => w.heap.size ≤ k ∧ k < w'.heap.size) w' v x.l ∧ Below w.heap.size w w' := by
  obtain ⟨S, h1, _⟩ := h
  exact olist_any b S x w h1

theorem tlhome (tx : Int) (h : TL F w0 w b x) :
    Calls Tryd.prog 13 #[.pointer (some ⟨b, 0, none⟩), .int .i64 tx] w fun e w' => e = .returned (.tuple #[.int .i64 (homeA x tx), .bool (homeB x tx)]) ∧ Below w.heap.size w w' := by
  obtain ⟨S, h1, _⟩ := h
  exact ohome_any b tx S x w h1

end Go.Proofs.YtohedeeajcdjcaaDoor
