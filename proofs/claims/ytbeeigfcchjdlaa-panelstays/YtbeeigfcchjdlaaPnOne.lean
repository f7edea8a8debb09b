/- Plain: a panel with one alarm at most. -/
import Derived.Test.YtbeeigfcchjdlaaPnPure
namespace Go.Proofs.Ytbeeigfcchjdlaa.Pn

variable {bed kind s now : Int}

theorem isA_self (on acked : Bool) : isA bed kind ⟨bed, kind, s, on, acked⟩ = true := by simp [isA]

theorem r_none (hk : kindA kind = true) : raiseB [] bed kind = true ∧ raiseL [] bed kind now = [⟨bed, kind, now, true, false⟩] := by
  have e : raiseB [] bed kind = true := by simp [raiseB, hk]
  exact ⟨e, by unfold raiseL; rw [if_pos e]; rfl⟩

theorem r_on (hk : kindA kind = true) (acked : Bool) : raiseB [⟨bed, kind, s, true, acked⟩] bed kind = false ∧ raiseL [⟨bed, kind, s, true, acked⟩] bed kind now = [⟨bed, kind, s, true, acked⟩] := by
  have e : raiseB [⟨bed, kind, s, true, acked⟩] bed kind = false := by simp [raiseB, hk, isA_self]
  exact ⟨e, by unfold raiseL; rw [if_neg (by rw [e]; decide)]⟩

theorem r_off (hk : kindA kind = true) (acked : Bool) : raiseB [⟨bed, kind, s, false, acked⟩] bed kind = true ∧ raiseL [⟨bed, kind, s, false, acked⟩] bed kind now = [⟨bed, kind, now, true, false⟩] := by
  have e : raiseB [⟨bed, kind, s, false, acked⟩] bed kind = true := by simp [raiseB, hk, isA_self]
  refine ⟨e, ?_⟩
  unfold raiseL
  rw [if_pos e]
  simp [isA_self, turnA]

theorem r_bad (L : List Al) (hk : kindA kind = false) : raiseB L bed kind = false ∧ raiseL L bed kind now = L := by
  have e : raiseB L bed kind = false := by simp [raiseB, hk]
  exact ⟨e, by unfold raiseL; rw [if_neg (by rw [e]; decide)]⟩

theorem c_none : clearB [] bed kind = false ∧ clearL [] bed kind = [] := ⟨rfl, rfl⟩

theorem c_one (on acked : Bool) : clearB [⟨bed, kind, s, on, acked⟩] bed kind = on ∧ clearL [⟨bed, kind, s, on, acked⟩] bed kind = if on = true then (if acked = true then [] else [⟨bed, kind, s, false, acked⟩]) else [⟨bed, kind, s, on, acked⟩] := by
  have e : clearB [⟨bed, kind, s, on, acked⟩] bed kind = on := by simp [clearB, isA_self]
  refine ⟨e, ?_⟩
  unfold clearL
  rw [e]
  cases on <;> cases acked <;> simp [turnA, tidyA, overA, isA_self]

theorem a_none : ackB [] bed kind = false ∧ ackL [] bed kind = [] := ⟨rfl, rfl⟩

theorem a_one (on acked : Bool) : ackB [⟨bed, kind, s, on, acked⟩] bed kind = !acked ∧ ackL [⟨bed, kind, s, on, acked⟩] bed kind = if acked = true then [⟨bed, kind, s, on, acked⟩] else if on = true then [⟨bed, kind, s, on, true⟩] else [] := by
  have e : ackB [⟨bed, kind, s, on, acked⟩] bed kind = !acked := by simp [ackB, isA_self]
  refine ⟨e, ?_⟩
  unfold ackL
  rw [e]
  cases on <;> cases acked <;> simp [turnA, tidyA, overA, isA_self]

/-- What there is of an alarm of which it is known whether it is on, and acknowledged. -/
def stA (bed kind s : Int) (on acked : Bool) : List Al := if on = true ∨ acked = false then [⟨bed, kind, s, on, acked⟩] else []

theorem st_len (on acked : Bool) : (stA bed kind s on acked).length = if on = true ∨ acked = false then 1 else 0 := by
  unfold stA
  split <;> rfl

theorem st_clear (on acked : Bool) : clearB (stA bed kind s on acked) bed kind = on ∧ clearL (stA bed kind s on acked) bed kind = stA bed kind s false acked := by
  cases on <;> cases acked
  · exact ⟨(c_one false false).1, (c_one false false).2⟩
  · exact c_none
  · exact ⟨(c_one true false).1, (c_one true false).2⟩
  · exact ⟨(c_one true true).1, (c_one true true).2⟩

theorem st_ack (on acked : Bool) : ackB (stA bed kind s on acked) bed kind = !acked ∧ ackL (stA bed kind s on acked) bed kind = stA bed kind s on true := by
  cases on <;> cases acked
  · exact ⟨(a_one false false).1, (a_one false false).2⟩
  · exact a_none
  · exact ⟨(a_one true false).1, (a_one true false).2⟩
  · exact ⟨(a_one true true).1, (a_one true true).2⟩

theorem st_raise (hk : kindA kind = true) (on acked : Bool) : raiseB (stA bed kind s on acked) bed kind = !on ∧ raiseL (stA bed kind s on acked) bed kind s = stA bed kind s true (if on = true then acked else false) := by
  cases on <;> cases acked
  · exact r_off hk false
  · exact r_none hk
  · exact r_on hk false
  · exact r_on hk true

end Go.Proofs.Ytbeeigfcchjdlaa.Pn
