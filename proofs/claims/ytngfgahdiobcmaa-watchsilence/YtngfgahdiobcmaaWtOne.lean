/- Plain: a watch of one bed. -/
import Derived.Test.YtngfgahdiobcmaaWtPure
namespace Go.Proofs.Ytngfgahdiobcmaa.Bt

theorem o1_add {bed most : Int} (now : Int) (h : mostWb most = true) : addWe [] bed most = 0 ∧ addWt [] bed most now = [⟨bed, most, now, false⟩] := by
  have e : addWe [] bed most = 0 := by simp [addWe, h]
  exact ⟨e, by unfold addWt; rw [if_pos e]; rfl⟩

theorem o1_not {bed most : Int} (h : mostWb most = false) : addWe [] bed most = 1 := by simp [addWe, h]

theorem o1_lost (bed most last : Int) (x : Bool) : lostWb [⟨bed, most, last, x⟩] bed = x := by simp [lostWb, isWb]

theorem o1_heard (bed most last now : Int) (x : Bool) : heardWt [⟨bed, most, last, x⟩] bed now = [⟨bed, most, now, false⟩] := by simp [heardWt, isWb]

theorem o1_look (bed most last now : Int) (x : Bool) : lookWt [⟨bed, most, last, x⟩] now = [⟨bed, most, last, x || decide (last + most < now)⟩] := by
  cases x <;> by_cases h : last + most < now <;> simp [lookWt, lookOne, dueWb, h]

theorem o1_told (bed most last now : Int) (x : Bool) : lookWl [⟨bed, most, last, x⟩] now = if x = false ∧ last + most < now then [bed] else [] := by
  cases x <;> by_cases h : last + most < now <;> simp [lookWl, dueWb, h]

end Go.Proofs.Ytngfgahdiobcmaa.Bt
