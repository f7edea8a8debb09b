/- Samples that are parsed: the plain part. -/
import Derived.Test.YthhggjakenalpaaGreatDoorRcVal
import Derived.Test.YthhggjakenalpaaGreatDoorMPlain
namespace Go.Proofs.YthhggjakenalpaaGreatDoor
set_option maxRecDepth 100000
open Go.RowKit
open Bt

/-- What Parse leaves. -/
def PsA (w : World) (L : List Smp) (pe : Int) (e : Ending) (w' : World) : Prop := ∃ a c, e = .returned (.tuple #[.slice a L.length c, .int .i64 pe]) ∧ SmsAt (fun k => w.heap.size ≤ k) w' (.slice a L.length c) L ∧ Below w.heap.size w w'

theorem psa_none {w w' : World} {pe : Int} {e : Ending} (he : e = .returned (.tuple #[.slice none 0 0, .int .i64 pe])) (hb : Below w.heap.size w w') : PsA w [] pe e w' := ⟨none, 0, he, ⟨none, 0, rfl, fun q => by simp at q⟩, hb⟩

theorem parse_no {bs : List Nat} (h : ¬ (0 < bs.length ∧ 1 + 3 * cntM bs ≤ bs.length ∧ (∀ i, i < cntM bs → smOk bs i = true) ∧ ∀ j, j < bs.length → 1 + 3 * cntM bs ≤ j → bs.getD j 0 = 0)) : parseEM bs = 6 ∧ parseL bs = [] := by
  have e : parseB bs = false := decide_eq_false h
  unfold parseEM parseL
  rw [e]
  exact ⟨rfl, rfl⟩

theorem parse_yes {bs : List Nat} (h : 0 < bs.length ∧ 1 + 3 * cntM bs ≤ bs.length ∧ (∀ i, i < cntM bs → smOk bs i = true) ∧ ∀ j, j < bs.length → 1 + 3 * cntM bs ≤ j → bs.getD j 0 = 0) : parseEM bs = 0 ∧ parseL bs = (List.range (cntM bs)).map (fun i => smOf (smAt bs i)) := by
  have e : parseB bs = true := decide_eq_true h
  unfold parseEM parseL
  rw [e]
  exact ⟨rfl, rfl⟩

/-- The samples of so many places. -/
def smsP (bs : List Nat) (j : Nat) : List Smp := (List.range j).map (fun i => smOf (smAt bs i))

theorem smsP_step (bs : List Nat) (j : Nat) : smsP bs (j + 1) = smsP bs j ++ [smOf (smAt bs j)] := by
  unfold smsP
  rw [List.range_succ, List.map_append]
  rfl

theorem smsP_length (bs : List Nat) (j : Nat) : (smsP bs j).length = j := by simp [smsP]

theorem readB3 {bs : List Nat} (hY : ∀ b ∈ bs, b < 256) (i : Nat) : readB ((bs.drop i).take 3) < 16777216 := by
  have h := readB_lt ((bs.drop i).take 3) (fun b hb => hY b (List.mem_of_mem_drop (List.mem_of_mem_take hb)))
  refine Nat.lt_of_lt_of_le h ?_
  have : ((bs.drop i).take 3).length ≤ 3 := by simp; omega
  calc 256 ^ ((bs.drop i).take 3).length ≤ 256 ^ 3 := Nat.pow_le_pow_right (by decide) this
    _ = 16777216 := by decide

theorem cellZ {w w' : World} {a : Addr} {v : Value} (h : Below w.heap.size w w') (hc : w.cell? a = some v) : w'.cell? a = some v := (h.cell (cell_lt hc)).trans hc

end Go.Proofs.YthhggjakenalpaaGreatDoor
