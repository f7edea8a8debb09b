/- The document's own answer of layer 10: is a sample right? -/
import Derived.Test.YthbfdfkkacmbhaaDoorRcVal
namespace Go.Proofs.YthbfdfkkacmbhaaDoor
open Go.RowKit
open Bt

theorem rightM_false {s : Smp} (h : ¬ ((1 ≤ s.kind ∧ s.kind ≤ 5) ∧ (0 ≤ s.tick ∧ s.tick ≤ 255) ∧ (0 ≤ s.value ∧ s.value ≤ 999) ∧ (s.kind = 5 → s.value ≤ 255))) : rightM s = false := decide_eq_false h

set_option maxRecDepth 100000 in
set_option maxHeartbeats 1000000 in
theorem refRight_any (s : Smp) (w : World) :
    Calls Tryd.prog 11 #[Sm s] w fun e w' => e = .returned (.bool (rightM s)) ∧ Below w.heap.size w w' := by
  obtain ⟨k, t, v⟩ := s
  show Calls Tryd.prog 11 #[.agg #[.int .i64 k, .int .i64 t, .int .i64 v]] w fun e w' => e = .returned (.bool (rightM ⟨k, t, v⟩)) ∧ Below w.heap.size w w'
  have HB := Hid.intro ((Below.refl _ w).alloc (Nat.le_refl _) (.cells #[.int .i64 k, .int .i64 t, .int .i64 v] 28))
  obtain ⟨R, hR⟩ : ∃ R, R = rightM ⟨k, t, v⟩ := ⟨_, rfl⟩
  rw [← hR]
  have NO : Hid (¬ ((1 ≤ k ∧ k ≤ 5) ∧ (0 ≤ t ∧ t ≤ 255) ∧ (0 ≤ v ∧ v ≤ 999) ∧ (k = 5 → v ≤ 255)) → R = false) := fun h => by rw [hR]; exact rightM_false h
  have YES : Hid (((1 ≤ k ∧ k ≤ 5) ∧ (0 ≤ t ∧ t ≤ 255) ∧ (0 ≤ v ∧ v ≤ 999) ∧ (k = 5 → v ≤ 255)) → R = true) := fun h => by rw [hR]; exact decide_eq_true h
  clear hR
  by_cases h1 : k < 1
  · have := NO.out (by omega); subst this
    go_enter Tryd.func11, Tryd.ntmps11
    go_wp2
    go_ret
    exact ⟨rfl, HB.out⟩
  by_cases h2 : 5 < k
  · have := NO.out (by omega); subst this
    go_enter Tryd.func11, Tryd.ntmps11
    go_wp2
    go_ret
    exact ⟨rfl, HB.out⟩
  by_cases h3 : t < 0
  · have := NO.out (by omega); subst this
    go_enter Tryd.func11, Tryd.ntmps11
    go_wp2
    go_ret
    exact ⟨rfl, HB.out⟩
  by_cases h4 : 255 < t
  · have := NO.out (by omega); subst this
    go_enter Tryd.func11, Tryd.ntmps11
    go_wp2
    go_ret
    exact ⟨rfl, HB.out⟩
  by_cases h5 : v < 0
  · have := NO.out (by omega); subst this
    go_enter Tryd.func11, Tryd.ntmps11
    go_wp2
    go_ret
    exact ⟨rfl, HB.out⟩
  by_cases h6 : 999 < v
  · have := NO.out (by omega); subst this
    go_enter Tryd.func11, Tryd.ntmps11
    go_wp2
    go_ret
    exact ⟨rfl, HB.out⟩
  by_cases h7 : k < 5
  · have := YES.out (by omega); subst this
    go_enter Tryd.func11, Tryd.ntmps11
    go_wp2
    go_ret
    exact ⟨rfl, HB.out⟩
  by_cases h8 : v < 256
  · have := YES.out (by omega); subst this
    go_enter Tryd.func11, Tryd.ntmps11
    go_wp2
    go_ret
    exact ⟨rfl, HB.out⟩
  have := NO.out (by omega)
  subst this
  go_enter Tryd.func11, Tryd.ntmps11
  go_wp2
  go_ret
  exact ⟨rfl, HB.out⟩

end Go.Proofs.YthbfdfkkacmbhaaDoor
