/- Lists of rows of bytes in memory: how they read, and those of one's own. -/
import Derived.Test.YthhggjakenalpaaGreatDoorRsRag
import Derived.Test.YthhggjakenalpaaGreatDoorMPlain
import Derived.Deep.Matrix
namespace Go.Proofs.YthhggjakenalpaaGreatDoor
set_option maxRecDepth 100000
open Go.RowKit
open Bt

theorem belowN {B : Nat} {a w : World} (h : Below B a w) (n : Nat) : Below B a (w.drewN n) := ⟨h.os, h.tape, h.output, h.size, h.block⟩

/-- A slice that begins at ao reads as the rows L. -/
def ReadsL (w : World) (ao : Option Addr) (L : List (List Nat)) : Prop :=
  0 < L.length → ∃ b off, ao = some ⟨b, off, none⟩ ∧ ∀ r, r < L.length → ∃ a c, w.cell? ⟨b, off + r, none⟩ = some (.slice a (L.getD r []).length c) ∧ Reads w a (L.getD r []) ∧ (a = none → c = 0)

theorem ReadsL.below {w w' : World} {ao : Option Addr} {L : List (List Nat)} (h : ReadsL w ao L) (hb : Below w.heap.size w w') : ReadsL w' ao L := by
  intro h0
  obtain ⟨b, off, ha, hr⟩ := h h0
  refine ⟨b, off, ha, fun r hl => ?_⟩
  obtain ⟨a, c, h1, h2, h3⟩ := hr r hl
  exact ⟨a, c, (hb.cell (cell_lt h1)).trans h1, h2.below hb, h3⟩

/-- Rows of one's own, at a place of one's own. -/
structure ShsAt (B : Nat) (w : World) (mb off : Nat) (A : Nat → Option Addr) (C : Nat → Nat) (L : List (List Nat)) : Prop where
  cell : ∀ r, r < L.length → w.cell? ⟨mb, off + r, none⟩ = some (.slice (A r) (L.getD r []).length (C r))
  frozen : ∀ r, r < L.length → w.frozen? ⟨mb, off + r, none⟩ = false
  row : ∀ r, r < L.length → Reads w (A r) (L.getD r [])
  cap : ∀ r, r < L.length → A r = none → C r = 0
  lenCap : ∀ r, r < L.length → (L.getD r []).length ≤ C r
  newTop : B ≤ mb
  ltTop : mb < w.heap.size
  newRow : ∀ r ad, r < L.length → A r = some ad → B ≤ ad.block ∧ ad.block ≠ mb

/-- A list of rows of one's own, as a value: none, or so many. -/
def Shs (B : Nat) (w : World) (v : Value) (L : List (List Nat)) : Prop :=
  (L = [] ∧ ∃ ao cap, v = .slice ao 0 cap ∧ (ao = none → cap = 0)) ∨ ∃ mb off mc A C, v = .slice (some ⟨mb, off, none⟩) L.length mc ∧ ShsAt B w mb off A C L

variable {B : Nat} {w : World} {mb off : Nat} {A : Nat → Option Addr} {C : Nat → Nat} {L : List (List Nat)}

theorem ShsAt.kept {S : Nat → Prop} {w' : World} (h : ShsAt B w mb off A C L) (hc : Chg S w w') (hf : ∀ r, r < L.length → w'.frozen? ⟨mb, off + r, none⟩ = w.frozen? ⟨mb, off + r, none⟩) (hm : ¬ S mb) (hr : ∀ r ad, r < L.length → A r = some ad → ¬ S ad.block) : ShsAt B w' mb off A C L :=
  ⟨fun r hl => cell_chg hc (h.cell r hl) hm, fun r hl => (hf r hl).trans (h.frozen r hl), fun r hl => (h.row r hl).kept hc (fun ad ha => hr r ad hl ha), h.cap, h.lenCap, h.newTop, Nat.lt_of_lt_of_le h.ltTop hc.size, h.newRow⟩

theorem frozen_block {w w' : World} {a : Addr} (h : w'.heap[a.block]? = w.heap[a.block]?) : w'.frozen? a = w.frozen? a := by
  unfold World.frozen?
  rw [h]

theorem ShsAt.below {w' : World} (h : ShsAt B w mb off A C L) (hb : Below w.heap.size w w') : ShsAt B w' mb off A C L :=
  h.kept (below_chg hb) (fun r hl => frozen_block (hb.block _ (cell_lt (h.cell r hl)))) id (fun _ _ _ _ => id)

theorem ShsAt.reads (h : ShsAt B w mb off A C L) : ReadsL w (some ⟨mb, off, none⟩) L := fun _ =>
  ⟨mb, off, rfl, fun r hl => ⟨A r, C r, h.cell r hl, h.row r hl, h.cap r hl⟩⟩

/-- A row lost. -/
theorem ShsAt.lost (h : ShsAt B w mb off A C L) {r : Nat} (hr : r < L.length) :
    ShsAt B (w.setCell ⟨mb, off + r, none⟩ (.slice none 0 0)) mb off (fun s => if s = r then none else A s) (fun s => if s = r then 0 else C s) (L.set r []) := by
  have hg : ∀ s, s < L.length → (L.set r []).getD s [] = if s = r then [] else L.getD s [] := fun s hs => by
    rw [List.getD_eq_getElem?_getD, List.getElem?_set]
    by_cases e : r = s
    · rw [if_pos e, if_pos e.symm, if_pos hr]; rfl
    · rw [if_neg e, if_neg (fun q => e q.symm)]; rfl
  have hc : Chg (fun k => k = mb) w (w.setCell ⟨mb, off + r, none⟩ (.slice none 0 0)) := Chg.setCell (S := fun k => k = mb) (p := ⟨mb, off + r, none⟩) (Chg.refl _ w) (fun _ => rfl) _
  have hlen : (L.set r []).length = L.length := List.length_set
  refine ⟨fun s hs => ?_, fun s hs => ?_, fun s hs => ?_, fun s hs => ?_, fun s hs => ?_, h.newTop, by simpa using h.ltTop, fun s ad hs ha => ?_⟩ <;> rw [hlen] at hs
  · rw [hg s hs]
    by_cases e : s = r
    · subst e
      simp only [if_pos]
      exact World.cell?_setCell_same' _ _ _ (by rw [h.cell s hs]; rfl)
    · simp only [if_neg e]
      rw [World.cell?_setCell_other _ _ _ _ (fun q => e (by have := congrArg Addr.off q; simp at this; omega))]
      exact h.cell s hs
  · rw [World.frozen?_setCell]; exact h.frozen s hs
  · rw [hg s hs]
    by_cases e : s = r
    · simp only [if_pos e]; exact fun h0 => absurd h0 (by simp)
    · simp only [if_neg e]
      exact (h.row s hs).kept hc (fun ad ha => (h.newRow s ad hs ha).2)
  · by_cases e : s = r
    · simp only [if_pos e]; exact fun _ => trivial
    · simp only [if_neg e]; exact h.cap s hs
  · rw [hg s hs]
    by_cases e : s = r
    · simp only [if_pos e]; exact Nat.zero_le _
    · simp only [if_neg e]; exact h.lenCap s hs
  · replace ha : (if s = r then none else A s) = some ad := ha
    by_cases e : s = r
    · rw [if_pos e] at ha; cases ha
    · rw [if_neg e] at ha; exact h.newRow s ad hs ha

/-- Rows that grew each for itself are rows of one's own. -/
theorem Rag.shs {i mc : Nat} {vs : Nat → Value} {R : Nat → List Nat} (h : Rag B w mb i mc vs R) : ∃ A C, ShsAt B w mb 0 A C ((List.range i).map R) ∧ ∀ r, r < i → vs r = .slice (A r) (R r).length (C r) := by
  have key : ∀ r, r < i → ∃ (y : Option Addr × Nat), vs r = .slice y.1 (R r).length y.2 ∧ Reads w y.1 (R r) ∧ (y.1 = none → y.2 = 0) ∧ (R r).length ≤ y.2 ∧ ∀ ad, y.1 = some ad → (vs r).ownBlock = some ad.block := fun r hr => by
    have ho := h.row r hr
    obtain ⟨ao, cap, e, h1, h2⟩ := row_of_owns ho
    refine ⟨(ao, cap), e, h1, ?_, ?_, h2⟩
    · intro e0
      rcases ho.2 with ⟨hv, h0⟩ | ⟨g, cp, cur, hv, _⟩
      · rw [e] at hv; simp at hv; exact hv.2.2
      · rw [e] at hv; simp at hv e0; rw [e0] at hv; exact absurd hv.1 (by simp)
    · rcases ho.2 with ⟨hv, h0⟩ | ⟨g, cp, cur, hv, _, _, hl, _⟩
      · rw [h0]; exact Nat.zero_le _
      · rw [e] at hv; simp at hv; omega
  obtain ⟨y, hy⟩ := Go.Deep.choose_lt key
  have hg : ∀ r, r < i → ((List.range i).map R).getD r [] = R r := fun r hr => by
    rw [← List.getElem_eq_getD (h := by simpa using hr) []]; simp
  have hlen : ((List.range i).map R).length = i := by simp
  refine ⟨fun r => (y r).1, fun r => (y r).2, ⟨fun r hr => ?_, fun r hr => ?_, fun r hr => ?_, fun r hr => ?_, fun r hr => ?_, h.newTop, ownsRow_lt h.top rfl, fun r ad hr ha => ?_⟩, fun r hr => (hy r hr).1⟩ <;> (try rw [hlen] at hr)
  · rw [hg r hr, Nat.zero_add, h.cellTop hr, (hy r hr).1]
  · rw [Nat.zero_add]; exact h.frozenTop r
  · rw [hg r hr]; exact (hy r hr).2.1
  · exact (hy r hr).2.2.1
  · rw [hg r hr]; exact (hy r hr).2.2.2.1
  · have e := (hy r hr).2.2.2.2 ad ha
    exact ⟨h.newRow r _ hr e, fun q => h.topApart hr (by rw [e, q])⟩

end Go.Proofs.YthhggjakenalpaaGreatDoor
