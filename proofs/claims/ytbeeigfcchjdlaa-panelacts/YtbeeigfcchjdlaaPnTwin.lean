/- The document's own panel beside the code's; an act in a block of its own. -/
import Derived.Test.YtbeeigfcchjdlaaPnAlive
import Derived.Test.YtbeeigfcchjdlaaPnArg
import Derived.Test.YtbeeigfcchjdlaaPnR2
import Derived.Test.YtbeeigfcchjdlaaPnR4
namespace Go.Proofs.Ytbeeigfcchjdlaa
open Go.RowKit
open Pn

/-- Both panels hold the same. -/
def TwinP (ta rb : Nat) (L : List Al) (u : Int) (R : Nat → Prop) (B : Nat) (w : World) : Prop := Two (PK ta L u) (PR rb L u) R B w

variable {ta rb B : Nat} {L L1 : List Al} {u u1 : Int} {R G : Nat → Prop} {w w' : World}

theorem TwinP.below (h : TwinP ta rb L u R B w) (hb : Below w.heap.size w w') : TwinP ta rb L u R B w' := Two.below (pk_owned _ _ _) (pr_owned _ _ _) h hb

theorem TwinP.grow (h : TwinP ta rb L u R B w) (hb : Below w.heap.size w w') : TwinP ta rb L u (fun k => R k ∨ w.heap.size ≤ k) B w' := Two.grow (pk_owned _ _ _) (pr_owned _ _ _) h hb

theorem TwinP.less (h : TwinP ta rb L u R B w) (hG : ∀ k, G k → R k) : TwinP ta rb L u G B w := Two.less h hG

theorem TwinP.ok (h : TwinP ta rb L u R B w) : OkA L := by
  obtain ⟨S, T, ⟨v, h⟩, _⟩ := h
  exact h.ok

theorem twin_list (h : TwinP ta rb L u R B w) : Calls Try.prog 16 #[.pointer (some ⟨ta, 0, none⟩)] w fun e w' => ∃ v', e = .returned v' ∧ NewR 42 5 w.heap.size w L.length (acells (sortA L)) w' v' := by
  obtain ⟨S, T, h1, _⟩ := h
  exact plist_any ta S L u w h1

theorem twin_rlist (h : TwinP ta rb L u R B w) : Calls Try.prog 23 #[.pointer (some ⟨rb, 0, none⟩)] w fun e w' => ∃ v', e = .returned v' ∧ NewR 42 5 w.heap.size w L.length (acells (sortA L)) w' v' := by
  obtain ⟨S, T, _, h2, _⟩ := h
  exact refList16_any rb T L u w h2

theorem twin_sound (x : Int) (h : TwinP ta rb L u R B w) : Calls Try.prog 14 #[.pointer (some ⟨ta, 0, none⟩), .int .i64 x] w fun e w' => e = .returned (.bool (soundA L u x)) ∧ Below w.heap.size w w' := by
  obtain ⟨S, T, h1, _⟩ := h
  exact psound_any ta x S L u w h1

theorem twin_rsound (x : Int) (h : TwinP ta rb L u R B w) : Calls Try.prog 24 #[.pointer (some ⟨rb, 0, none⟩), .int .i64 x] w fun e w' => e = .returned (.bool (soundA L u x)) ∧ Below w.heap.size w w' := by
  obtain ⟨S, T, _, h2, _⟩ := h
  exact (refSound16_any rb x T L u w h2).mono fun e w' ⟨he, hw⟩ => ⟨he, by rw [← hw]; exact Below.refl _ _⟩

/-- The document's time until which it is silent is written. -/
theorem twin_until (x : Int) (h : Two (PK ta L u1) (PR rb L u) R B w) : (w.cell? ⟨rb, 1, none⟩ = some (.int .i64 u) ∧ w.frozen? ⟨rb, 1, none⟩ = false) ∧ Two (PK ta L u1) (PR rb L x) R B (w.setCell ⟨rb, 1, none⟩ (.int .i64 x)) ∧ Chg (fun k => B ≤ k ∧ ¬ R k) w (w.setCell ⟨rb, 1, none⟩ (.int .i64 x)) := by
  obtain ⟨S, T, h1, ⟨v, h2⟩, h3, h4, h5⟩ := h
  obtain ⟨_, _, c1, f1⟩ := h2.cells
  obtain ⟨q1, q2⟩ := h2.until x
  exact ⟨⟨c1, f1⟩, ⟨S, T, (pk_owned ta L u1).kept h1 q2 (fun k hk q => h3 k hk q), ⟨v, q1⟩, h3, h4, h5⟩, q2.mono (fun k hk _ => h5 k hk)⟩

/-- An act's cells, in a block of its own. -/
abbrev actV16 (k x0 x1 x2 : Int) : Obj := .cells #[.int .i64 k, .int .i64 x0, .int .i64 x1, .int .i64 x2] 36 (0, 0)

/-- What an act's cells hold, plainly. -/
def Cells4P (W : World) (bs : Nat) (k x0 x1 x2 : Int) : Prop := W.cell? ⟨bs, 0, none⟩ = some (.int .i64 k) ∧ W.cell? ⟨bs, 1, none⟩ = some (.int .i64 x0) ∧ W.cell? ⟨bs, 2, none⟩ = some (.int .i64 x1) ∧ W.cell? ⟨bs, 3, none⟩ = some (.int .i64 x2)

theorem act16_block {w : World} {g : Nat} {k x0 x1 x2 : Int} (h : w.heap[g]? = some (actV16 k x0 x1 x2)) : Cells4P w g k x0 x1 x2 :=
  ⟨by rw [cell_of_row _ _ 0 _ _ _ h]; rfl, by rw [cell_of_row _ _ 1 _ _ _ h]; rfl, by rw [cell_of_row _ _ 2 _ _ _ h]; rfl, by rw [cell_of_row _ _ 3 _ _ _ h]; rfl⟩

theorem Cells4P.chg {S : Nat → Prop} {w w' : World} {b : Nat} {k x0 x1 x2 : Int} (h : Cells4P w b k x0 x1 x2) (hc : Chg S w w') (hS : ¬ S b) : Cells4P w' b k x0 x1 x2 :=
  ⟨cell_chg hc h.1 hS, cell_chg hc h.2.1 hS, cell_chg hc h.2.2.1 hS, cell_chg hc h.2.2.2 hS⟩

end Go.Proofs.Ytbeeigfcchjdlaa
