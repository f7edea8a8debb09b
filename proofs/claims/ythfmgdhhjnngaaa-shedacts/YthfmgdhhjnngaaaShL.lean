/- A controller among other things: the blocks that are not to be touched stay. -/
import Derived.Test.YthfmgdhhjnngaaaShK2
import Derived.Test.YthfmgdhhjnngaaaShK3
import Derived.Test.YthfmgdhhjnngaaaShOrd
namespace Go.Proofs.Ythfmgdhhjnngaaa
open Go.RowKit
open Bt

/-- A controller whose own blocks lie outside F; what lies in F is as it was in w0. -/
def HL (F : Nat → Prop) (w0 w : World) (b : Nat) (x : Ctl) : Prop :=
  ∃ S, Ctr S w b x ∧ (∀ k, S k → ¬ F k) ∧ (∀ k, F k → k < w0.heap.size) ∧ Chg (fun k => ¬ F k) w0 w

variable {F : Nat → Prop} {w0 w w' : World} {b : Nat} {x : Ctl}

theorem HL.ok (h : HL F w0 w b x) : x.Ok := by
  obtain ⟨S, h, _⟩ := h
  exact h.ok

theorem HL.chg (h : HL F w0 w b x) : Chg (fun k => ¬ F k) w0 w := by
  obtain ⟨S, _, _, _, h⟩ := h
  exact h

theorem HL.cell (h : HL F w0 w b x) {a : Addr} {v : Value} (hc : w0.cell? a = some v) (hF : F a.block) : w.cell? a = some v := cell_chg h.chg hc (fun q => q hF)

theorem HL.block (h : HL F w0 w b x) {k : Nat} (hF : F k) : w.heap[k]? = w0.heap[k]? := by
  obtain ⟨S, _, _, h2, h3⟩ := h
  exact h3.block k (h2 k hF) (fun q => q hF)

theorem HL.nums (h : HL F w0 w b x) {R : Nat → Prop} {v : Value} {l : List Int} (hn : NumsAt R w0 v l) (hR : ∀ k, R k → F k) : NumsAt R w v l := hn.kept h.chg (fun k hk q => q (hR k hk))

theorem HL.below (h : HL F w0 w b x) (hb : Below w.heap.size w w') : HL F w0 w' b x := by
  obtain ⟨S, h1, h2, h3, h4⟩ := h
  exact ⟨S, h1.kept (below_chg hb) (fun _ _ => id), h2, h3, h4.trans (below_chg hb) (fun _ f _ => f.elim)⟩

theorem HL.here (h : HL F w0 w b x) : HL F w w b x := by
  obtain ⟨S, h1, h2, h3, h4⟩ := h
  exact ⟨S, h1, h2, fun k hk => Nat.lt_of_lt_of_le (h3 k hk) h4.size, Chg.refl _ _⟩

/-- Something that is held is written. -/
theorem HL.write (h : HL F w0 w b x) {p : Addr} (hF : F p.block) (v : Value) : HL F (w.setCell p v) (w.setCell p v) b x := by
  obtain ⟨S, h1, h2, h3, h4⟩ := h
  have hc : Chg (fun k => k = p.block) w (w.setCell p v) := Chg.setCell (S := fun k => k = p.block) (Chg.refl _ w) (fun _ => rfl) v
  refine ⟨S, h1.kept hc (fun k hk e => h2 k hk (e ▸ hF)), h2, fun k hk => ?_, Chg.refl _ _⟩
  have := h3 k hk
  have := h4.size
  have := hc.size
  omega

/-- Behind more memory, that is held, too. -/
theorem HL.grow (h : HL F w0 w b x) (hb : Below w.heap.size w w') : HL (fun k => F k ∨ (w.heap.size ≤ k ∧ k < w'.heap.size)) w' w' b x := by
  obtain ⟨S, h1, h2, h3, h4⟩ := h
  refine ⟨S, h1.kept (below_chg hb) (fun _ _ => id), fun k hk q => ?_, fun k hk => ?_, Chg.refl _ _⟩
  · rcases q with q | q
    · exact h2 k hk q
    · have := h1.lt k hk; omega
  · rcases hk with q | q
    · have := h3 k q
      have := h4.size
      have := hb.size
      omega
    · exact q.2

theorem HL.less {G : Nat → Prop} (h : HL F w0 w b x) (hG : ∀ k, G k → F k) : HL G w0 w b x := by
  obtain ⟨S, h1, h2, h3, h4⟩ := h
  exact ⟨S, h1, fun k hk q => h2 k hk (hG k q), fun k hk => h3 k (hG k hk), h4.mono (fun k hk _ q => hk (hG k q))⟩

theorem hl_new {T : Nat → Prop} (h : Ctr T w b x) (hT : ∀ k, T k → w0.heap.size ≤ k) (hb : Below w0.heap.size w0 w) : HL (fun k => k < w0.heap.size) w0 w b x :=
  ⟨T, h, fun k hk q => by have := hT k hk; omega, fun _ => id, (below_chg hb).mono (fun _ f _ => f.elim)⟩

theorem HL.out {B : Nat} (h : HL (fun k => k < B) w0 w b x) (hB : B ≤ w0.heap.size) : Below B w0 w := h.chg.below hB (fun k hk => by omega)

theorem HL.left {S : Nat → Prop} {x' : Ctl} (h2 : ∀ k, S k → ¬ F k) (h3 : ∀ k, F k → k < w0.heap.size) (h4 : Chg (fun k => ¬ F k) w0 w) (hl : LeftC S w w' b x') : HL F w0 w' b x' := by
  obtain ⟨S', q1, q2, q3⟩ := hl
  refine ⟨S', q1, fun k hk q => ?_, h3, h4.trans q2 (fun k hk _ => h2 k hk)⟩
  rcases q3 k hk with r | r
  · exact h2 k r q
  · have := h3 k q
    have := h4.size
    omega

theorem hladd (bed prio : Int) (h : HL F w0 w b x) :
    Calls Try.prog 11 #[.pointer (some ⟨b, 0, none⟩), .int .i64 bed, .int .i64 prio] w fun e w' => e = .returned (.int .i64 (addE x bed)) ∧ HL F w0 w' b (addC x bed prio) := by
  obtain ⟨S, h1, h2, h3, h4⟩ := h
  refine (hadd_any b bed prio S x w h1).mono ?_
  rintro e w' ⟨rfl, hl⟩
  exact ⟨rfl, HL.left h2 h3 h4 hl⟩

theorem hlremove (bed : Int) (h : HL F w0 w b x) :
    Calls Try.prog 12 #[.pointer (some ⟨b, 0, none⟩), .int .i64 bed] w fun e w' => e = .returned (.int .i64 (remE x bed)) ∧ HL F w0 w' b (remC x bed) := by
  obtain ⟨S, h1, h2, h3, h4⟩ := h
  refine (hremove_any b bed S x w h1).mono ?_
  rintro e w' ⟨rfl, hl⟩
  exact ⟨rfl, HL.left h2 h3 h4 hl⟩

theorem hltick (o : Bool) (h : HL F w0 w b x) :
    Calls Try.prog 13 #[.pointer (some ⟨b, 0, none⟩), .bool o] w fun e w' => e = .returned (.int .i64 (tickD x o)) ∧ HL F w0 w' b (tickC x o) := by
  obtain ⟨S, h1, h2, h3, h4⟩ := h
  refine (htick_any b o S x w h1).mono ?_
  rintro e w' ⟨rfl, hl⟩
  exact ⟨rfl, HL.left h2 h3 h4 hl⟩

theorem hllevel (bed : Int) (h : HL F w0 w b x) :
    Calls Try.prog 14 #[.pointer (some ⟨b, 0, none⟩), .int .i64 bed] w fun e w' => e = .returned (.int .i64 (levS x bed : Int)) ∧ HL F w0 w' b x := by
  have h0 := h
  obtain ⟨S, h1, _⟩ := h
  refine (hlevel_any b bed S x w h1).mono ?_
  rintro e w' ⟨rfl, hb⟩
  exact ⟨rfl, h0.below hb⟩

theorem hlcalm (h : HL F w0 w b x) :
    Calls Try.prog 16 #[.pointer (some ⟨b, 0, none⟩)] w fun e w' => e = .returned (.int .i64 (x.calm : Int)) ∧ HL F w0 w' b x := by
  have h0 := h
  obtain ⟨S, h1, _⟩ := h
  refine (hcalm_any b S x w h1).mono ?_
  rintro e w' ⟨rfl, hb⟩
  exact ⟨rfl, h0.below hb⟩

theorem hlorder (h : HL F w0 w b x) :
    Calls Try.prog 15 #[.pointer (some ⟨b, 0, none⟩)] w fun e w' => ∃ v, e = .returned v ∧ NumsAt (fun k => w.heap.size ≤ k ∧ k < w'.heap.size) w' v (ordS x) ∧ HL F w0 w' b x ∧ Below w.heap.size w w' := by
  have h0 := h
  obtain ⟨S, h1, _⟩ := h
  refine (horder_any b S x w h1).mono ?_
  rintro e w' ⟨v, rfl, hn, hb⟩
  exact ⟨v, rfl, hn, h0.below hb, hb⟩

end Go.Proofs.Ythfmgdhhjnngaaa
