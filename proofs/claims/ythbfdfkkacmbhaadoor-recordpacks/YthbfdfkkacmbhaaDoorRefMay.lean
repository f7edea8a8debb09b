/- Contracts of the document's own May of layer 5. -/
import Derived.Test.YthbfdfkkacmbhaaDoorAppB
import Derived.Test.YthbfdfkkacmbhaaDoorRsAns
import Derived.Test.YthbfdfkkacmbhaaDoorRsCd
namespace Go.Proofs.YthbfdfkkacmbhaaDoor
open Go.RowKit
open Bt

set_option maxRecDepth 100000 in
set_option maxHeartbeats 1000000 in
theorem refMay_any (k n s : Int) (w : World) :
    Calls Tryd.prog 13 #[Cd k n s] w fun e w' => e = .returned (.bool (mayC k n s)) ∧ Below w.heap.size w w' := by
  obtain ⟨R, hR⟩ : ∃ R, R = mayC k n s := ⟨_, rfl⟩
  rw [← hR]
  have HR := Hid.intro hR
  clear hR
  by_cases h1 : 1 ≤ k
  · by_cases h2 : k ≤ 6
    · by_cases h3 : k ≤ n
      · by_cases h4 : n ≤ 10
        · by_cases h5 : 1 ≤ s
          · by_cases h6 : s ≤ 24
            · have e : R = true := by rw [HR.out]; simp [mayC, h1, h2, h3, h4, h5, h6]
              subst e
              clear HR
              go_enter Tryd.func13, Tryd.ntmps13
              go_wp2
              go_ret
              exact ⟨rfl, (Below.refl _ _).alloc (Nat.le_refl _) _⟩
            · have e : R = false := by rw [HR.out]; exact mayC_false (by omega)
              subst e
              clear HR
              go_enter Tryd.func13, Tryd.ntmps13
              go_wp2
              go_ret
              exact ⟨rfl, (Below.refl _ _).alloc (Nat.le_refl _) _⟩
          · have e : R = false := by rw [HR.out]; exact mayC_false (by omega)
            subst e
            clear HR
            go_enter Tryd.func13, Tryd.ntmps13
            go_wp2
            go_ret
            exact ⟨rfl, (Below.refl _ _).alloc (Nat.le_refl _) _⟩
        · have e : R = false := by rw [HR.out]; exact mayC_false (by omega)
          subst e
          clear HR
          go_enter Tryd.func13, Tryd.ntmps13
          go_wp2
          go_ret
          exact ⟨rfl, (Below.refl _ _).alloc (Nat.le_refl _) _⟩
      · have e : R = false := by rw [HR.out]; exact mayC_false (by omega)
        subst e
        clear HR
        go_enter Tryd.func13, Tryd.ntmps13
        go_wp2
        go_ret
        exact ⟨rfl, (Below.refl _ _).alloc (Nat.le_refl _) _⟩
    · have e : R = false := by rw [HR.out]; exact mayC_false (by omega)
      subst e
      clear HR
      go_enter Tryd.func13, Tryd.ntmps13
      go_wp2
      go_ret
      exact ⟨rfl, (Below.refl _ _).alloc (Nat.le_refl _) _⟩
  · have e : R = false := by rw [HR.out]; exact mayC_false (by omega)
    subst e
    clear HR
    go_enter Tryd.func13, Tryd.ntmps13
    go_wp2
    go_ret
    exact ⟨rfl, (Below.refl _ _).alloc (Nat.le_refl _) _⟩

end Go.Proofs.YthbfdfkkacmbhaaDoor
