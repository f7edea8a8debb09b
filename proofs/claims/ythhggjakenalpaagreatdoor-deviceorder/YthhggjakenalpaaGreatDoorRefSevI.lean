/- A list of parts that is being made. -/
import Derived.Test.YthhggjakenalpaaGreatDoorCoPart
import Derived.Laws.OwnMore
import Derived.Deep.AppendLies
namespace Go.Proofs.YthhggjakenalpaaGreatDoor
set_option maxRecDepth 100000
open Go.RowKit
open Bt

def pcell (P : Nat → Prt) (ad : Nat → Option Addr) (cp : Nat → Nat) (i : Nat) : List Value := [.int .i64 ((P i).group : Int), .bool (P i).gap, .slice (ad i) (P i).data.length (cp i)]

def pcells (P : Nat → Prt) (ad : Nat → Option Addr) (cp : Nat → Nat) : Nat → List Value
  | 0 => []
  | t + 1 => pcells P ad cp t ++ pcell P ad cp t

theorem pcells_length (P : Nat → Prt) (ad : Nat → Option Addr) (cp : Nat → Nat) (t : Nat) : (pcells P ad cp t).length = t * 3 := by
  induction t with
  | zero => rfl
  | succ t ih => rw [pcells, List.length_append, ih]; simp [pcell]; omega

theorem pcells_congr {P : Nat → Prt} {ad ad' : Nat → Option Addr} {cp cp' : Nat → Nat} {t : Nat} (h : ∀ i, i < t → ad i = ad' i ∧ cp i = cp' i) : pcells P ad cp t = pcells P ad' cp' t := by
  induction t with
  | zero => rfl
  | succ t ih => rw [pcells, pcells, ih (fun i hi => h i (by omega)), pcell, pcell, (h t (by omega)).1, (h t (by omega)).2]

theorem pcells_at {P : Nat → Prt} {ad : Nat → Option Addr} {cp : Nat → Nat} {t i : Nat} (h : i < t) : (pcells P ad cp t)[i * 3]? = some (.int .i64 ((P i).group : Int)) ∧ (pcells P ad cp t)[i * 3 + 1]? = some (.bool (P i).gap) ∧ (pcells P ad cp t)[i * 3 + 2]? = some (.slice (ad i) (P i).data.length (cp i)) := by
  induction t with
  | zero => omega
  | succ t ih =>
    rw [pcells]
    have hl := pcells_length P ad cp t
    by_cases e : i < t
    · rw [List.getElem?_append_left (by omega), List.getElem?_append_left (by omega), List.getElem?_append_left (by omega)]
      exact ih e
    · obtain rfl : i = t := by omega
      rw [List.getElem?_append_right (by omega), List.getElem?_append_right (by omega), List.getElem?_append_right (by omega), hl]
      simp [pcell, Nat.add_sub_cancel_left]

/-- The first so many parts, the list's block its own. -/
structure PtsAt (B : Nat) (w : World) (v : Value) (P : Nat → Prt) (ad : Nat → Option Addr) (cp : Nat → Nat) (t : Nat) : Prop where
  own : w.ownsRow 0 66 3 v t (pcells P ad cp t)
  ap : ∀ k, v.ownBlock = some k → B ≤ k
  rd : ∀ i, i < t → Reads w (ad i) (P i).data ∧ Room (ad i) (cp i) (P i).data.length ∧ ∀ a, ad i = some a → B ≤ a.block
  sep : ∀ i, i < t → ∀ a, ad i = some a → v.ownBlock ≠ some a.block

variable {B : Nat} {w w' : World} {v : Value} {P : Nat → Prt} {ad : Nat → Option Addr} {cp : Nat → Nat} {t : Nat}

theorem PtsAt.start : PtsAt B w (.slice none 0 0) P ad cp 0 := ⟨World.ownsRow_nil _ _ _ _, fun k h => by simp [Value.ownBlock] at h, fun i h => by omega, fun i h => by omega⟩

theorem PtsAt.kept {S : Nat → Prop} (h : PtsAt B w v P ad cp t) (hc : Chg S w w') (hS : ∀ k, B ≤ k → ¬ S k) : PtsAt B w' v P ad cp t :=
  ⟨ownsRow_keep h.own fun k hk => hc.block k (World.ownsRow.lt h.own k hk).2 (hS k (h.ap k hk)), h.ap, fun i hi => ⟨(h.rd i hi).1.kept hc (fun a ha => hS _ ((h.rd i hi).2.2 a ha)), (h.rd i hi).2⟩, h.sep⟩

theorem PtsAt.below (h : PtsAt B w v P ad cp t) (hb : Below w.heap.size w w') : PtsAt B w' v P ad cp t := h.kept (below_chg hb) (fun _ _ => id)

theorem PtsAt.parts (h : PtsAt B w v P ad cp t) : PartsAt B w v ((List.range t).map P) := by
  have hl : ((List.range t).map P).length = t := by simp
  obtain ⟨ao, cap, rfl, hf⟩ := ownsRow_form h.own
  refine ⟨ao, cap, by rw [hl], fun h0 => ?_⟩
  rw [hl] at h0
  rcases hf with hf | ⟨g, rfl⟩
  · omega
  · refine ⟨g, 0, rfl, h.ap g rfl, fun i hi => ?_⟩
    have hi' : i < t := by rw [hl] at hi; exact hi
    have e : ((List.range t).map P)[i] = P i := by simp
    obtain ⟨q1, q2, q3⟩ := pcells_at (P := P) (ad := ad) (cp := cp) hi'
    obtain ⟨r1, r2, r3⟩ := h.rd i hi'
    rw [e]
    refine ⟨ad i, cp i, ?_, ?_, ?_, r1, r2, r3⟩
    · rw [Nat.zero_add, h.own.cellAt (i * 3) (by omega)]; exact q1
    · rw [Nat.zero_add, h.own.cellAt (i * 3 + 1) (by omega)]; exact q2
    · rw [Nat.zero_add, h.own.cellAt (i * 3 + 2) (by omega)]; exact q3

/-- One part more: the list as the append leaves it. -/
theorem PtsAt.more (h : PtsAt B w v P ad cp t) {W w7 : World} {g7 cp7 c : Nat} {a : Option Addr} (hW : Below w.heap.size w W)
    (hown : w7.ownsRow 0 66 3 (.slice (some ⟨g7, 0, none⟩) (t + 1) cp7) (t + 1) (pcells P ad cp t ++ [.int .i64 ((P t).group : Int), .bool (P t).gap, .slice a (P t).data.length c]))
    (hgrow : W.grownBy w7 v.ownBlock) (hat : v.ownBlock = some g7 ∨ W.heap.size ≤ g7) (hB : B ≤ w.heap.size)
    (hr : Reads w a (P t).data) (hm : Room a c (P t).data.length) (ha : ∀ x, a = some x → B ≤ x.block ∧ x.block < w.heap.size ∧ v.ownBlock ≠ some x.block) (hlt : ∀ i, i < t → ∀ x, ad i = some x → x.block < w.heap.size) :
    PtsAt B w7 (.slice (some ⟨g7, 0, none⟩) (t + 1) cp7) P (fun i => if i = t then a else ad i) (fun i => if i = t then c else cp i) (t + 1) := by
  have C7 : Chg (fun q => v.ownBlock = some q) w w7 := ((below_chg hW).mono (fun _ q _ => q.elim)).grown hgrow (fun q hq _ => hq)
  refine ⟨?_, fun k hk => ?_, fun i hi => ?_, fun i hi x hx => ?_⟩
  · rw [pcells, pcells_congr (ad' := ad) (cp' := cp) (fun i hi => ⟨if_neg (by omega), if_neg (by omega)⟩)]
    simpa [pcell] using hown
  · obtain rfl : g7 = k := by simpa [Value.ownBlock] using hk
    rcases hat with q | q
    · exact h.ap _ q
    · have := hW.size; omega
  · by_cases e : i = t
    · subst e
      simp only [if_true]
      exact ⟨hr.kept C7 (fun x hx => (ha x hx).2.2), hm, fun x hx => (ha x hx).1⟩
    · simp only [if_neg e]
      exact ⟨(h.rd i (by omega)).1.kept C7 (fun x hx => h.sep i (by omega) x hx), (h.rd i (by omega)).2⟩
  · intro q
    have q : g7 = x.block := by simpa [Value.ownBlock] using q
    have hb : x.block < w.heap.size ∧ v.ownBlock ≠ some x.block := by
      by_cases e : i = t
      · simp only [if_pos e] at hx; exact (ha x hx).2
      · simp only [if_neg e] at hx; exact ⟨hlt i (by omega) x hx, h.sep i (by omega) x hx⟩
    rcases hat with q2 | q2
    · exact hb.2 (q ▸ q2)
    · have := hW.size; omega

end Go.Proofs.YthhggjakenalpaaGreatDoor
