/- Plain: loads step by step; what Admit and Discharge leave. -/
import Derived.Test.YthofgajchejdfaaLdVal
namespace Go.Proofs.Ythofgajchejdfaa
open Go.RowKit
open Bt

/-- May a bed be, step by step. -/
def perB (p : Int) : Bool := decide (1 ≤ p ∧ p ≤ 60 ∧ 60 % p = 0)

theorem ofB_steps {b : Bdd} (h : mayB b = true) : ∃ (P Q C : Nat), b.period = (P : Int) ∧ b.cost = (C : Int) ∧ 1 ≤ P ∧ P ≤ 60 ∧ P * Q = 60 ∧ C ≤ 100 ∧ ofB b = (C : Int) * (Q : Int) ∧ Q ≤ 60 := by
  obtain ⟨⟨p1, p2, p3⟩, _, _, ⟨c1, c2⟩, _⟩ := mayB_true h
  obtain ⟨C, hC⟩ := Int.eq_ofNat_of_zero_le (show 0 ≤ b.cost by omega)
  have hof : ofB b = b.cost * 60 / b.period := by unfold ofB; rw [if_pos h]
  rcases periods p1 p2 p3 with e | e | e | e | e | e | e | e | e | e | e | e
  · exact ⟨1, 60, C, e, hC, by decide, by decide, by decide, by omega, by rw [hof, e, hC]; omega, by decide⟩
  · exact ⟨2, 30, C, e, hC, by decide, by decide, by decide, by omega, by rw [hof, e, hC]; omega, by decide⟩
  · exact ⟨3, 20, C, e, hC, by decide, by decide, by decide, by omega, by rw [hof, e, hC]; omega, by decide⟩
  · exact ⟨4, 15, C, e, hC, by decide, by decide, by decide, by omega, by rw [hof, e, hC]; omega, by decide⟩
  · exact ⟨5, 12, C, e, hC, by decide, by decide, by decide, by omega, by rw [hof, e, hC]; omega, by decide⟩
  · exact ⟨6, 10, C, e, hC, by decide, by decide, by decide, by omega, by rw [hof, e, hC]; omega, by decide⟩
  · exact ⟨10, 6, C, e, hC, by decide, by decide, by decide, by omega, by rw [hof, e, hC]; omega, by decide⟩
  · exact ⟨12, 5, C, e, hC, by decide, by decide, by decide, by omega, by rw [hof, e, hC]; omega, by decide⟩
  · exact ⟨15, 4, C, e, hC, by decide, by decide, by decide, by omega, by rw [hof, e, hC]; omega, by decide⟩
  · exact ⟨20, 3, C, e, hC, by decide, by decide, by decide, by omega, by rw [hof, e, hC]; omega, by decide⟩
  · exact ⟨30, 2, C, e, hC, by decide, by decide, by decide, by omega, by rw [hof, e, hC]; omega, by decide⟩
  · exact ⟨60, 1, C, e, hC, by decide, by decide, by decide, by omega, by rw [hof, e, hC]; omega, by decide⟩

theorem sumB_take (l : List Bdd) {i : Nat} (hi : i < l.length) : sumB (l.take (i + 1)) = sumB (l.take i) + ofB l[i] := by
  rw [List.take_add_one, List.getElem?_eq_getElem hi, sumB_append]
  simp [sumB]

theorem cellU {w w' : World} {a : Addr} {v : Value} (h : Below w.heap.size w w') (hc : w.cell? a = some v) : w'.cell? a = some v := (h.cell (cell_lt hc)).trans hc

/-- What Discharge and Admit leave. -/
def BdA (w : World) (L : List Bdd) (pe : Int) (e : Ending) (w' : World) : Prop := ∃ a d, e = .returned (.tuple #[.slice a L.length d, .int .i64 pe]) ∧ BdsAt (fun k => w.heap.size ≤ k) w' (.slice a L.length d) L ∧ (L.length ≤ d ∧ (a = none → d = 0)) ∧ Below w.heap.size w w'

theorem bda_none {w w' : World} {pe : Int} {e : Ending} (he : e = .returned (.tuple #[.slice none 0 0, .int .i64 pe])) (hb : Below w.heap.size w w') : BdA w [] pe e w' := ⟨none, 0, he, bds_nil _ _ _ _, ⟨Nat.le_refl _, fun _ => rfl⟩, hb⟩

theorem dischE_no {l : List Bdd} {x : Int} (h : placeB (·.bid) l x = -1) : dischE l x = 8 ∧ dischL l x = [] := by
  unfold dischE dischL
  rw [h]
  exact ⟨rfl, rfl⟩

theorem dischE_yes {l : List Bdd} {x : Int} {i : Nat} (h : placeB (·.bid) l x = (i : Int)) : dischE l x = 0 ∧ dischL l x = l.eraseIdx i := by
  unfold dischE dischL
  rw [h]
  exact ⟨if_pos (by omega), by rw [if_pos (by omega), Int.toNat_natCast]⟩

end Go.Proofs.Ythofgajchejdfaa
