/- Package edf: within, isTime, May, New; cmp.Compare, cmp.Or; which of two that wait comes ahead. -/
import Derived.Test.YtgcpkploeobafaaEdW
import Derived.Deep.RegionHeld3
namespace Go.Proofs.Ytgcpkploeobafaa
open Go.RowKit
open Bt

/-- Is a number between two? -/
def wiE (n f t : Int) : Bool := decide (f ≤ n ∧ n ≤ t)

theorem ewithin_any (n f t : Int) (w : World) :
    Calls Try.prog 32 #[.int .i64 n, .int .i64 f, .int .i64 t] w fun e w' => e = .returned (.bool (wiE n f t)) ∧ w = w' := by
  by_cases h1 : f ≤ n
  · by_cases h2 : n ≤ t
    · have e : wiE n f t = true := by simp [wiE, h1, h2]
      rw [e]
      clear e
      go_enter Try.func32, Try.ntmps32
      go_wp2
      go_ret
      exact ⟨rfl, rfl⟩
    · have e : wiE n f t = false := by simp [wiE]; omega
      rw [e]
      clear e
      go_enter Try.func32, Try.ntmps32
      go_wp2
      go_ret
      exact ⟨rfl, rfl⟩
  · have e : wiE n f t = false := by simp [wiE]; omega
    rw [e]
    clear e
    go_enter Try.func32, Try.ntmps32
    go_wp2
    go_ret
    exact ⟨rfl, rfl⟩

theorem etime_any (n : Int) (w : World) :
    Calls Try.prog 33 #[.int .i64 n] w fun e w' => e = .returned (.bool (wiE n 0 1099511627776)) ∧ w = w' := by
  have W := Hid.intro (ewithin_any n 0 1099511627776)
  generalize wiE n 0 1099511627776 = r at *
  go_enter Try.func33, Try.ntmps33
  go_wp2_with fail
  refine (W.out _).mono ?_
  rintro e w2 ⟨rfl, rfl⟩
  go_wp2
  go_ret
  exact ⟨rfl, rfl⟩

theorem mayJ_wi (j : Jb) : mayJ j = (wiE j.left 1 1000 && (wiE j.since 0 1099511627776 && wiE j.dl 0 1099511627776)) := by
  rw [Bool.eq_iff_iff]
  simp only [mayJ, wiE, Bool.and_eq_true, decide_eq_true_eq]

set_option maxRecDepth 100000 in
set_option maxHeartbeats 1000000 in
theorem emay_in (b0 b1 b2 b3 b4 b5 b6 : Int) (w : World) :
    Calls Try.prog 19 #[Jv ⟨b0, b1, b2, b3, b4, b5, b6⟩] w fun e w' => e = .returned (.bool (mayJ ⟨b0, b1, b2, b3, b4, b5, b6⟩)) ∧ Below w.heap.size w w' := by
  have HB := Hid.intro ((Below.refl _ w).alloc (Nat.le_refl _) (.cells #[.int .i64 b0, .int .i64 b1, .int .i64 b2, .int .i64 b3, .int .i64 b4, .int .i64 b5, .int .i64 b6] 38))
  rw [mayJ_wi]
  simp only
  have W1 := Hid.intro (ewithin_any b6 1 1000)
  have W2 := Hid.intro (etime_any b4)
  have W3 := Hid.intro (etime_any b5)
  generalize wiE b6 1 1000 = r1 at *
  generalize wiE b4 0 1099511627776 = r2 at *
  generalize wiE b5 0 1099511627776 = r3 at *
  cases r1 with
  | false =>
    go_enter Try.func19, Try.ntmps19
    go_wp2_with fail
    refine (W1.out _).mono ?_
    rintro e w2 ⟨rfl, rfl⟩
    go_wp2
    go_ret
    exact ⟨rfl, HB.out⟩
  | true =>
    cases r2 with
    | false =>
      go_enter Try.func19, Try.ntmps19
      go_wp2_with fail
      refine (W1.out _).mono ?_
      rintro e w2 ⟨rfl, rfl⟩
      go_wp2_with fail
      refine (W2.out _).mono ?_
      rintro e w2 ⟨rfl, rfl⟩
      go_wp2
      go_ret
      exact ⟨rfl, HB.out⟩
    | true =>
      go_enter Try.func19, Try.ntmps19
      go_wp2_with fail
      refine (W1.out _).mono ?_
      rintro e w2 ⟨rfl, rfl⟩
      go_wp2_with fail
      refine (W2.out _).mono ?_
      rintro e w2 ⟨rfl, rfl⟩
      go_wp2_with fail
      refine (W3.out _).mono ?_
      rintro e w2 ⟨rfl, rfl⟩
      go_wp2
      go_ret
      exact ⟨rfl, HB.out⟩

theorem emay_any (j : Jb) (w : World) :
    Calls Try.prog 19 #[Jv j] w fun e w' => e = .returned (.bool (mayJ j)) ∧ Below w.heap.size w w' := emay_in j.bed j.kind j.tick j.value j.since j.dl j.left w

theorem enan_any (x : Int) (w : World) :
    Calls Try.prog 60 #[.int .i64 x] w fun e w' => e = .returned (.bool false) ∧ w = w' := by
  go_enter Try.func60, Try.ntmps60
  go_wp2
  go_ret
  exact ⟨by simp, rfl⟩

theorem ecmp_any (x y : Int) (w : World) :
    Calls Try.prog 59 #[.int .i64 x, .int .i64 y] w fun e w' => e = .returned (.int .i64 (cmpI x y)) ∧ w = w' := by
  have N1 := Hid.intro (enan_any x)
  have N2 := Hid.intro (enan_any y)
  obtain ⟨r, hr⟩ : ∃ r, r = cmpI x y := ⟨_, rfl⟩
  rw [← hr]
  by_cases h1 : x < y
  · have e : r = -1 := by rw [hr]; unfold cmpI; rw [if_pos h1]
    subst e
    clear hr
    go_enter Try.func59, Try.ntmps59
    go_wp2_with fail
    refine (N1.out _).mono ?_
    rintro e w2 ⟨rfl, rfl⟩
    go_wp2_with fail
    refine (N2.out _).mono ?_
    rintro e w2 ⟨rfl, rfl⟩
    go_wp2
    go_ret
    exact ⟨rfl, rfl⟩
  · by_cases h2 : y < x
    · have e : r = 1 := by rw [hr]; unfold cmpI; rw [if_neg h1, if_pos h2]
      subst e
      clear hr
      go_enter Try.func59, Try.ntmps59
      go_wp2_with fail
      refine (N1.out _).mono ?_
      rintro e w2 ⟨rfl, rfl⟩
      go_wp2_with fail
      refine (N2.out _).mono ?_
      rintro e w2 ⟨rfl, rfl⟩
      go_wp2
      go_ret
      exact ⟨rfl, rfl⟩
    · have e : r = 0 := by rw [hr]; unfold cmpI; rw [if_neg h1, if_neg h2]
      subst e
      clear hr
      go_enter Try.func59, Try.ntmps59
      go_wp2_with fail
      refine (N1.out _).mono ?_
      rintro e w2 ⟨rfl, rfl⟩
      go_wp2_with fail
      refine (N2.out _).mono ?_
      rintro e w2 ⟨rfl, rfl⟩
      go_wp2
      go_ret
      exact ⟨rfl, rfl⟩

set_option maxRecDepth 100000 in
set_option maxHeartbeats 1000000 in
theorem eor_any (g : Nat) (x y z : Int) (w : World) (h0 : w.cell? ⟨g, 0, none⟩ = some (.int .i64 x)) (h1 : w.cell? ⟨g, 1, none⟩ = some (.int .i64 y)) (h2 : w.cell? ⟨g, 2, none⟩ = some (.int .i64 z)) :
    Calls Try.prog 58 #[.slice (some ⟨g, 0, none⟩) 3 3] w fun e w' => e = .returned (.int .i64 (orI x y z)) ∧ w = w' := by
  obtain ⟨r, hr⟩ : ∃ r, r = orI x y z := ⟨_, rfl⟩
  rw [← hr]
  have CL : Hid (∀ k : Nat, k < 3 → ∃ v : Int, w.cell? ⟨g, k, none⟩ = some (.int .i64 v) ∧ ((k = 0 ∧ v = x) ∨ (k = 1 ∧ v = y) ∨ (k = 2 ∧ v = z))) := fun k hk => by
    rcases (show k = 0 ∨ k = 1 ∨ k = 2 by omega) with rfl | rfl | rfl
    · exact ⟨x, h0, .inl ⟨rfl, rfl⟩⟩
    · exact ⟨y, h1, .inr (.inl ⟨rfl, rfl⟩)⟩
    · exact ⟨z, h2, .inr (.inr ⟨rfl, rfl⟩)⟩
  have HR := Hid.intro hr
  clear hr h0 h1 h2
  go_enter Try.func58, Try.ntmps58
  go_wp2_with fail
  go_loop [8] (fun iv => ∃ k : Nat, k ≤ 3 ∧ iv = .int .i64 k ∧ (0 < k → x = 0) ∧ (1 < k → y = 0) ∧ (2 < k → z = 0)) (fun iv => 3 - (intOf iv).toNat)
  case atStart => exact ⟨0, by omega, rfl, by omega, by omega, by omega⟩
  case round =>
    obtain ⟨k, hk, rfl, a1, a2, a3⟩ := hrel
    have A1 := Hid.intro a1
    have A2 := Hid.intro a2
    have A3 := Hid.intro a3
    clear a1 a2 a3
    by_cases hlt : k < 3
    · have k0 : (0 : Int) ≤ (k : Int) := by omega
      have k1 : (k : Int) < 3 := by omega
      obtain ⟨v, hv, hw⟩ := CL.out k hlt
      have HW := Hid.intro hw
      clear hw
      by_cases hz : v = 0
      · subst hz
        go_wp2
        go_round
        case rel =>
          refine ⟨k + 1, by omega, by go_num, fun q => ?_, fun q => ?_, fun q => ?_⟩
          · rcases HW.out with ⟨rfl, e⟩ | ⟨rfl, e⟩ | ⟨rfl, e⟩
            · exact e.symm
            · exact A1.out (by omega)
            · exact A1.out (by omega)
          · rcases HW.out with ⟨rfl, e⟩ | ⟨rfl, e⟩ | ⟨rfl, e⟩
            · omega
            · exact e.symm
            · exact A2.out (by omega)
          · rcases HW.out with ⟨rfl, e⟩ | ⟨rfl, e⟩ | ⟨rfl, e⟩
            · omega
            · omega
            · exact e.symm
        case measure => simp [intOf]; omega
      · have vz : (v != 0) = true := by rw [bne_iff_ne]; exact hz
        have FN : Hid (v = r) := by
          rw [Hid, HR.out]
          unfold orI
          rcases HW.out with ⟨rfl, e⟩ | ⟨rfl, e⟩ | ⟨rfl, e⟩
          · rw [if_neg (by rw [← e]; exact hz)]; exact e
          · rw [if_pos (A1.out (by omega)), if_neg (by rw [← e]; exact hz)]; exact e
          · rw [if_pos (A1.out (by omega)), if_pos (A2.out (by omega))]; exact e
        go_wp2
        go_ret
        exact ⟨by have q := FN.out; subst q; rfl, rfl⟩
    · obtain rfl : k = 3 := by omega
      have FN : Hid (r = 0) := by
        rw [Hid, HR.out]
        unfold orI
        rw [if_pos (A1.out (by omega)), if_pos (A2.out (by omega)), A3.out (by omega)]
      go_wp2
      go_ret
      exact ⟨by rw [FN.out]; rfl, rfl⟩

end Go.Proofs.Ytgcpkploeobafaa
