/- What waits, in memory: a job and its number; a list of them. -/
import Derived.Test.YtgcpkploeobafaaEdVal
import Derived.Test.YtgcpkploeobafaaEdRep
import Derived.Laws.AppendOwnNone
namespace Go.Proofs.Ytgcpkploeobafaa
open Go.RowKit
open Bt

/-- What waits, as a value. -/
abbrev Wv (a : It) : Value := .agg #[.int .i64 a.job.bed, .int .i64 a.job.kind, .int .i64 a.job.tick, .int .i64 a.job.value, .int .i64 a.job.since, .int .i64 a.job.dl, .int .i64 a.job.left, .int .i64 (a.num : Int)]

/-- Its cells. -/
def wcell (a : It) : List Value := [.int .i64 a.job.bed, .int .i64 a.job.kind, .int .i64 a.job.tick, .int .i64 a.job.value, .int .i64 a.job.since, .int .i64 a.job.dl, .int .i64 a.job.left, .int .i64 (a.num : Int)]

def wcells (l : List It) : List Value := l.flatMap wcell

theorem wcells_append (a b : List It) : wcells (a ++ b) = wcells a ++ wcells b := by simp [wcells]

theorem wcells_one (b : It) : wcells [b] = wcell b := by simp [wcells]

theorem wcells_length (l : List It) : (wcells l).length = l.length * 8 := by
  induction l with
  | nil => rfl
  | cons b l ih => rw [show wcells (b :: l) = wcell b ++ wcells l from rfl, List.length_append, ih, List.length_cons]; simp [wcell]; omega

theorem wcells_at (l : List It) {i j : Nat} (h : i < l.length) (hj : j < 8) : (wcells l)[i * 8 + j]? = (wcell l[i])[j]? := by
  induction l generalizing i with
  | nil => exact absurd h (by simp)
  | cons b l ih =>
    rw [show wcells (b :: l) = wcell b ++ wcells l from rfl]
    have hs : (wcell b).length = 8 := rfl
    cases i with
    | zero => rw [List.getElem?_append_left (by omega)]; simp
    | succ i =>
      rw [List.getElem?_append_right (by omega), hs, show (i + 1) * 8 + j - 8 = i * 8 + j by omega]
      exact ih (by simpa using h)

theorem wcells_onecell (l : List It) : ∀ u ∈ wcells l, u.oneCell' = true := by
  intro u hu
  obtain ⟨b, _, hb⟩ := List.mem_flatMap.1 hu
  simp only [wcell, List.mem_cons, List.not_mem_nil, or_false] at hb
  rcases hb with rfl | rfl | rfl | rfl | rfl | rfl | rfl | rfl <;> rfl

/-- One is written anew. -/
def setW (L : List Value) (i : Nat) (a : It) : List Value :=
  ((((((((L).set (i * 8) (.int .i64 a.job.bed)).set (i * 8 + 1) (.int .i64 a.job.kind)).set (i * 8 + 2) (.int .i64 a.job.tick)).set (i * 8 + 3) (.int .i64 a.job.value)).set (i * 8 + 4) (.int .i64 a.job.since)).set (i * 8 + 5) (.int .i64 a.job.dl)).set (i * 8 + 6) (.int .i64 a.job.left)).set (i * 8 + 7) (.int .i64 (a.num : Int))

theorem wcells_set (l : List It) {i : Nat} (a : It) : setW (wcells l) i a = wcells (l.set i a) := by
  apply List.ext_getElem?
  intro j
  have hl := wcells_length l
  have hl2 := wcells_length (l.set i a)
  rw [List.length_set] at hl2
  unfold setW
  by_cases hj : j < l.length * 8
  · have hj6 : j = (j / 8) * 8 + j % 8 := by omega
    have hq : j / 8 < l.length := by omega
    have hm : j % 8 < 8 := Nat.mod_lt _ (by decide)
    have e2 : (wcells (l.set i a))[j]? = (wcell ((l.set i a)[j / 8]'(by simpa using hq)))[j % 8]? := by
      conv => lhs; rw [hj6]
      exact wcells_at _ (by simpa using hq) hm
    have e1 : (wcells l)[j]? = (wcell l[j / 8])[j % 8]? := by
      conv => lhs; rw [hj6]
      exact wcells_at l hq hm
    rw [e2]
    simp only [List.getElem?_set, List.length_set, hl, List.getElem_set]
    have cases8 : j % 8 = 0 ∨ j % 8 = 1 ∨ j % 8 = 2 ∨ j % 8 = 3 ∨ j % 8 = 4 ∨ j % 8 = 5 ∨ j % 8 = 6 ∨ j % 8 = 7 := by omega
    by_cases e : i = j / 8
    · rw [if_pos e]
      rcases cases8 with q | q | q | q | q | q | q | q
      · rw [q, if_neg (by omega), if_neg (by omega), if_neg (by omega), if_neg (by omega), if_neg (by omega), if_neg (by omega), if_neg (by omega), if_pos (by omega), if_pos (by omega)]; rfl
      · rw [q, if_neg (by omega), if_neg (by omega), if_neg (by omega), if_neg (by omega), if_neg (by omega), if_neg (by omega), if_pos (by omega), if_pos (by omega)]; rfl
      · rw [q, if_neg (by omega), if_neg (by omega), if_neg (by omega), if_neg (by omega), if_neg (by omega), if_pos (by omega), if_pos (by omega)]; rfl
      · rw [q, if_neg (by omega), if_neg (by omega), if_neg (by omega), if_neg (by omega), if_pos (by omega), if_pos (by omega)]; rfl
      · rw [q, if_neg (by omega), if_neg (by omega), if_neg (by omega), if_pos (by omega), if_pos (by omega)]; rfl
      · rw [q, if_neg (by omega), if_neg (by omega), if_pos (by omega), if_pos (by omega)]; rfl
      · rw [q, if_neg (by omega), if_pos (by omega), if_pos (by omega)]; rfl
      · rw [q, if_pos (by omega), if_pos (by omega)]; rfl
    · rw [if_neg e, if_neg (by omega), if_neg (by omega), if_neg (by omega), if_neg (by omega), if_neg (by omega), if_neg (by omega), if_neg (by omega), if_neg (by omega), e1]
  · rw [List.getElem?_eq_none (by simp only [List.length_set]; omega), List.getElem?_eq_none (by omega)]

/-- Writing one's eight cells. -/
def setC (w : World) (g o : Nat) (a : It) : World :=
  ((((((((w).setCell ⟨g, o, none⟩ (.int .i64 a.job.bed)).setCell ⟨g, o + 1, none⟩ (.int .i64 a.job.kind)).setCell ⟨g, o + 2, none⟩ (.int .i64 a.job.tick)).setCell ⟨g, o + 3, none⟩ (.int .i64 a.job.value)).setCell ⟨g, o + 4, none⟩ (.int .i64 a.job.since)).setCell ⟨g, o + 5, none⟩ (.int .i64 a.job.dl)).setCell ⟨g, o + 6, none⟩ (.int .i64 a.job.left)).setCell ⟨g, o + 7, none⟩ (.int .i64 (a.num : Int))

theorem owns_setC {w : World} {g c n i : Nat} {l : List It} (h : w.ownsRow 0 56 8 (.slice (some ⟨g, 0, none⟩) n c) n (wcells l)) (a : It) : (setC w g (i * 8) a).ownsRow 0 56 8 (.slice (some ⟨g, 0, none⟩) n c) n (wcells (l.set i a)) := by
  rw [← wcells_set]
  unfold setC setW
  exact (World.ownsRow.stored (World.ownsRow.stored (World.ownsRow.stored (World.ownsRow.stored (World.ownsRow.stored (World.ownsRow.stored (World.ownsRow.stored (World.ownsRow.stored h (i * 8) _).1 (i * 8 + 1) _).1 (i * 8 + 2) _).1 (i * 8 + 3) _).1 (i * 8 + 4) _).1 (i * 8 + 5) _).1 (i * 8 + 6) _).1 (i * 8 + 7) _).1

theorem chg_setC (w : World) (g o : Nat) (a : It) : Chg (fun k => k = g) w (setC w g o a) := by
  unfold setC
  exact ((((((((Chg.refl (fun k => k = g) w).setCell (fun _ => rfl) _).setCell (fun _ => rfl) _).setCell (fun _ => rfl) _).setCell (fun _ => rfl) _).setCell (fun _ => rfl) _).setCell (fun _ => rfl) _).setCell (fun _ => rfl) _).setCell (fun _ => rfl) _

/-- One's cells. -/
def WtAt (w : World) (b o : Nat) (a : It) : Prop := w.cell? ⟨b, o, none⟩ = some (.int .i64 a.job.bed) ∧ w.cell? ⟨b, o + 1, none⟩ = some (.int .i64 a.job.kind) ∧ w.cell? ⟨b, o + 2, none⟩ = some (.int .i64 a.job.tick) ∧ w.cell? ⟨b, o + 3, none⟩ = some (.int .i64 a.job.value) ∧ w.cell? ⟨b, o + 4, none⟩ = some (.int .i64 a.job.since) ∧ w.cell? ⟨b, o + 5, none⟩ = some (.int .i64 a.job.dl) ∧ w.cell? ⟨b, o + 6, none⟩ = some (.int .i64 a.job.left) ∧ w.cell? ⟨b, o + 7, none⟩ = some (.int .i64 (a.num : Int))

theorem wt_of_owns {w : World} {g c : Nat} {l : List It} (h : w.ownsRow 0 56 8 (.slice (some ⟨g, 0, none⟩) l.length c) l.length (wcells l)) {i : Nat} (hi : i < l.length) : WtAt w g (i * 8) l[i] := by
  have hl := wcells_length l
  have q : ∀ j, j < 8 → w.cell? ⟨g, i * 8 + j, none⟩ = (wcell l[i])[j]? := fun j hj => by
    rw [h.cellAt (i * 8 + j) (by omega)]
    exact wcells_at l hi hj
  exact ⟨q 0 (by omega), q 1 (by omega), q 2 (by omega), q 3 (by omega), q 4 (by omega), q 5 (by omega), q 6 (by omega), q 7 (by omega)⟩

theorem WtAt.chg {S : Nat → Prop} {w w' : World} {b o : Nat} {a : It} (h : WtAt w b o a) (hc : Chg S w w') (hb : ¬ S b) : WtAt w' b o a := by
  obtain ⟨c0, c1, c2, c3, c4, c5, c6, c7⟩ := h
  exact ⟨cell_chg hc c0 hb, cell_chg hc c1 hb, cell_chg hc c2 hb, cell_chg hc c3 hb, cell_chg hc c4 hb, cell_chg hc c5 hb, cell_chg hc c6 hb, cell_chg hc c7 hb⟩

theorem info_wait : (Try.prog.info? 56).map (fun i => (i.zero, i.size, i.bytes)) = some (some (.agg #[.int .i64 0, .int .i64 0, .int .i64 0, .int .i64 0, .int .i64 0, .int .i64 0, .int .i64 0, .int .i64 0]), 8, 64) := by kernel_rfl

/-- Which of two numbers is less. -/
def cmpI (x y : Int) : Int := if x < y then -1 else if y < x then 1 else 0

/-- The first that isn't nought. -/
def orI (x y z : Int) : Int := if x = 0 then (if y = 0 then z else y) else x

theorem ltI_or (a b : It) : ltI a b = decide (orI (cmpI a.job.dl b.job.dl) (cmpI a.job.bed b.job.bed) (cmpI (a.num : Int) (b.num : Int)) < 0) := by
  unfold ltI
  rw [decide_eq_decide]
  unfold orI cmpI
  repeat' split
  all_goals omega

theorem cmpI_range (x y : Int) : -1 ≤ cmpI x y ∧ cmpI x y ≤ 1 := by
  unfold cmpI
  repeat' split
  all_goals omega

end Go.Proofs.Ytgcpkploeobafaa
