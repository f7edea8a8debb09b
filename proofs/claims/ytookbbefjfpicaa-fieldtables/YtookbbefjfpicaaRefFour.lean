/- The contract of the document's own Log of layer 4: whole. -/
import Derived.Test.YtookbbefjfpicaaRefFourA
namespace Go.Proofs.Ytookbbefjfpicaa
open Go.RowKit
open Bt

set_option maxRecDepth 100000 in
set_option maxHeartbeats 1000000 in
theorem refLog_any (a : Nat) (ha : a < 256) (w : World) :
    Calls Try.prog 20 #[.int .u8 (a : Int)] w fun e w' => e = .returned (.int .i64 (rlog a)) ∧ w = w' := by
  obtain ⟨R, hR⟩ : ∃ R, R = rlog a := ⟨_, rfl⟩
  rw [← hR]
  have HRR := Hid.intro hR
  clear hR
  go_enter Try.func20, Try.ntmps20
  go_wp2_with fail
  go_loop [3, 4] (fun p i => ∃ k : Nat, k ≤ 255 ∧ i = .int .i64 k ∧ p = .int .u8 ((pw k : Nat) : Int) ∧ ∀ x, x < k → pw x ≠ a) (fun _ i => 255 - (intOf i).toNat)
  case atStart => exact ⟨0, by omega, rfl, rfl, fun x h => by omega⟩
  case round =>
    obtain ⟨k, hk, rfl, rfl, hno⟩ := hrel
    have HNO := Hid.intro hno
    clear hno
    have hp := pw_lt k
    by_cases hlt : k < 255
    · by_cases h1 : pw k = a
      · have e : R = (k : Int) := by
          rw [HRR.out]
          unfold rlog
          rw [if_neg (by rw [← h1]; exact pw_ne k), ← h1, lg_pw hlt]
        rw [h1]
        clear h1 HNO HRR hp
        subst e
        go_wp2
        go_ret
        exact ⟨rfl, rfl⟩
      · have hj : (((pw k : Nat) : Int) == (a : Int)) = false := by rw [beq_eq_false_iff_ne]; omega
        have hno' : ∀ x, x < k + 1 → pw x ≠ a := fun x h2 => by
          by_cases e : x = k
          · rw [e]; exact h1
          · exact HNO.out x (by omega)
        have HN := Hid.intro hno'
        have HM := Hid.intro (refMul_any (pw k) 2 hp (by decide) w)
        have hs : gmul (pw k) 2 = pw (k + 1) := by
          have := pw_add k 1
          exact this
        rw [hs] at HM
        have hp1 := pw_lt (k + 1)
        clear hno' h1 HNO hs
        generalize pw k = P at HM hp hj ⊢
        obtain ⟨P1, hP1⟩ : ∃ P1, P1 = pw (k + 1) := ⟨_, rfl⟩
        rw [← hP1] at HM hp1
        have HP1 := Hid.intro hP1
        clear hP1
        go_wp2_with fail
        refine HM.out.mono ?_
        rintro e1 w1 ⟨rfl, rfl⟩
        clear HM
        go_wp2
        go_round
        case rel => exact ⟨k + 1, by omega, by go_num, by rw [HP1.out], HN.out⟩
        case measure => simp [intOf]; omega
    · have hke : k = 255 := by omega
      subst hke
      have a0 : a = 0 := Classical.byContradiction fun h0 => HNO.out (lg a) (lg_lt ha h0) (pw_lg ha h0)
      have e : R = -1 := by rw [HRR.out]; unfold rlog; rw [if_pos a0]
      clear HNO HRR
      subst e
      go_wp2
      go_ret
      exact ⟨rfl, rfl⟩

end Go.Proofs.Ytookbbefjfpicaa
