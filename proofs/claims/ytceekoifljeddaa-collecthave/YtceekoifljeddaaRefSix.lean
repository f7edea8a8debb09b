/- Contracts of the document's own Is, Far, Next, Open, Behind of layer 6. -/
import Derived.Test.YtceekoifljeddaaBase
import Derived.Test.YtceekoifljeddaaMPlain
namespace Go.Proofs.Ytceekoifljeddaa
open Go.RowKit
open Bt

theorem refIs_any (g : Int) (w : World) :
    Calls Try.prog 12 #[.int .i64 g] w fun e w' => e = .returned (.bool (isG g)) ∧ w = w' := by
  by_cases h1 : 0 ≤ g
  · by_cases h2 : g ≤ 255
    · rw [isG_of ⟨h1, h2⟩]
      go_enter Try.func12, Try.ntmps12
      go_wp2
      go_ret
      exact ⟨rfl, rfl⟩
    · rw [show isG g = false from by simp [isG]; omega]
      go_enter Try.func12, Try.ntmps12
      go_wp2
      go_ret
      exact ⟨rfl, rfl⟩
  · rw [show isG g = false from by simp [isG]; omega]
    go_enter Try.func12, Try.ntmps12
    go_wp2
    go_ret
    exact ⟨rfl, rfl⟩

theorem refStep_any (g : Nat) (hg : g < 256) (w : World) :
    Calls Try.prog 50 #[.int .i64 (g : Int)] w fun e w' => e = .returned (.int .i64 (((g + 1) % 256 : Nat) : Int)) ∧ w = w' := by
  by_cases h : g = 255
  · subst h
    go_enter Try.func50, Try.ntmps50
    go_wp2
    go_ret
    exact ⟨rfl, rfl⟩
  · have j : ((g : Int) == 255) = false := by rw [beq_eq_false_iff_ne]; omega
    have e : ((g + 1) % 256 : Nat) = g + 1 := Nat.mod_eq_of_lt (by omega)
    rw [e]
    clear e
    go_enter Try.func50, Try.ntmps50
    go_wp2
    go_ret
    exact ⟨ret_int (by omega), rfl⟩

set_option maxHeartbeats 1000000 in
theorem refFar_any (b g : Int) (w : World) :
    Calls Try.prog 28 #[.int .i64 b, .int .i64 g] w fun e w' => e = .returned (.int .i64 (farA b g)) ∧ w = w' := by
  obtain ⟨R, hR⟩ : ∃ R, R = farA b g := ⟨_, rfl⟩
  rw [← hR]
  have HR := Hid.intro hR
  clear hR
  have I1 := Hid.intro (refIs_any b)
  have I2 := Hid.intro (refIs_any g)
  rcases h1 : isG b with _ | _
  · rw [h1] at I1
    obtain rfl : R = -1 := by rw [HR.out]; unfold farA; rw [if_neg (by rw [h1]; simp)]
    clear I2 HR h1
    go_enter Try.func28, Try.ntmps28
    go_wp2_with fail
    refine (I1.out w).mono ?_
    rintro e w1 ⟨rfl, rfl⟩
    go_wp2
    go_ret
    exact ⟨rfl, rfl⟩
  · rw [h1] at I1
    rcases h2 : isG g with _ | _
    · rw [h2] at I2
      obtain rfl : R = -1 := by rw [HR.out]; unfold farA; rw [if_neg (by rw [h2]; simp)]
      clear HR h1 h2
      go_enter Try.func28, Try.ntmps28
      go_wp2_with fail
      refine (I1.out w).mono ?_
      rintro e w1 ⟨rfl, rfl⟩
      clear I1
      go_wp2_with fail
      refine (I2.out w).mono ?_
      rintro e w1 ⟨rfl, rfl⟩
      go_wp2
      go_ret
      exact ⟨rfl, rfl⟩
    · rw [h2] at I2
      have k1 := isG_true h1
      have k2 := isG_true h2
      obtain ⟨B, rfl⟩ := Int.eq_ofNat_of_zero_le k1.1
      obtain ⟨G, rfl⟩ := Int.eq_ofNat_of_zero_le k2.1
      have hB : B < 256 := by omega
      have hG : G < 256 := by omega
      obtain ⟨N, hN⟩ : ∃ N : Nat, N = (G + 256 - B) % 256 := ⟨_, rfl⟩
      have hNl : N < 256 := by rw [hN]; exact Nat.mod_lt _ (by decide)
      have hNG : (B + N) % 256 = G := by omega
      obtain rfl : R = (N : Int) := by rw [HR.out, farA_in k1 k2]; omega
      have hmin : ∀ t, t < N → (B + t) % 256 ≠ G := fun t ht => by omega
      have HMIN := Hid.intro hmin
      clear HR h1 h2 k1 k2 hmin hN
      go_enter Try.func28, Try.ntmps28
      go_wp2_with fail
      refine (I1.out w).mono ?_
      rintro e w1 ⟨rfl, rfl⟩
      clear I1
      go_wp2_with fail
      refine (I2.out w).mono ?_
      rintro e w1 ⟨rfl, rfl⟩
      clear I2
      go_wp2_with fail
      go_loopw [0, 5] (fun b n wr => ∃ t : Nat, t ≤ N ∧ n = .int .i64 t ∧ b = .int .i64 (((B + t) % 256 : Nat) : Int) ∧ w = wr) (fun _ n _ => N - (intOf n).toNat)
      case atStart => exact ⟨0, by omega, rfl, by rw [Nat.add_zero, Nat.mod_eq_of_lt hB], rfl⟩
      case round =>
        obtain ⟨t, ht, rfl, rfl, rfl⟩ := hrel
        by_cases htl : t < N
        · have hne := HMIN.out t htl
          have hl : (B + t) % 256 < 256 := Nat.mod_lt _ (by decide)
          have hs := refStep_any ((B + t) % 256) hl w
          rw [show ((B + t) % 256 + 1) % 256 = (B + (t + 1)) % 256 by omega] at hs
          have HS := Hid.intro hs
          clear hs
          obtain ⟨C, hC⟩ : ∃ C, C = (B + t) % 256 := ⟨_, rfl⟩
          obtain ⟨D, hD⟩ : ∃ D, D = (B + (t + 1)) % 256 := ⟨_, rfl⟩
          rw [← hC] at hne HS ⊢
          rw [← hD] at HS
          have HD := Hid.intro hD
          have j : ((C : Int) != (G : Int)) = true := by rw [bne_iff_ne]; omega
          clear hC hD hl hne hNG
          go_wp2_with fail
          refine HS.out.mono ?_
          rintro e w1 ⟨rfl, rfl⟩
          go_wp2
          go_roundw
          case rel => exact ⟨t + 1, by omega, by go_num, by rw [HD.out], trivial⟩
          case measure => simp [intOf]; omega
        · have hte : t = N := by omega
          subst hte
          rw [hNG]
          have j : ((G : Int) != (G : Int)) = false := by simp
          clear hNG
          go_wp2
          go_ret
          exact ⟨rfl, rfl⟩

set_option maxHeartbeats 1000000 in
theorem refNext_any (g n : Int) (hn : -1000000 ≤ n ∧ n ≤ 1000000) (w : World) :
    Calls Try.prog 42 #[.int .i64 g, .int .i64 n] w fun e w' => e = .returned (.int .i64 (nextA g n)) ∧ w = w' := by
  obtain ⟨R, hR⟩ : ∃ R, R = nextA g n := ⟨_, rfl⟩
  rw [← hR]
  have HR := Hid.intro hR
  clear hR
  have I1 := Hid.intro (refIs_any g)
  rcases h1 : isG g with _ | _
  · rw [h1] at I1
    obtain rfl : R = -1 := by rw [HR.out]; unfold nextA; rw [if_neg (by rw [h1]; simp)]
    clear HR h1
    go_enter Try.func42, Try.ntmps42
    go_wp2_with fail
    refine (I1.out w).mono ?_
    rintro e w1 ⟨rfl, rfl⟩
    go_wp2
    go_ret
    exact ⟨rfl, rfl⟩
  · rw [h1] at I1
    have k1 := isG_true h1
    obtain ⟨G, rfl⟩ := Int.eq_ofNat_of_zero_le k1.1
    have hG : G < 256 := by omega
    have hRe : R = ((G : Int) + n) % 256 := by rw [HR.out, nextA_in n k1]
    have HRE := Hid.intro hRe
    clear HR h1 k1 hRe
    go_enter Try.func42, Try.ntmps42
    go_wp2_with fail
    refine (I1.out w).mono ?_
    rintro e w1 ⟨rfl, rfl⟩
    clear I1
    go_wp2_with fail
    go_loopw [1] (fun m wr => ∃ x : Int, m = .int .i64 x ∧ x % 256 = n % 256 ∧ -1000000 ≤ x ∧ x ≤ 1000256 ∧ w = wr) (fun m _ => (1000256 - intOf m).toNat)
    case atStart => exact ⟨n, rfl, rfl, hn.1, by omega, rfl⟩
    case round =>
      obtain ⟨x, rfl, hx, hx1, hx2, rfl⟩ := hrel
      by_cases h0 : x < 0
      · have HX := Hid.intro hx
        clear hx
        go_wp2
        go_roundw
        case rel => exact ⟨x + 256, by go_num, by have := HX.out; omega, by omega, by omega, trivial⟩
        case measure => simp [intOf]; omega
      · obtain ⟨X, rfl⟩ := Int.eq_ofNat_of_zero_le (show 0 ≤ x by omega)
        obtain ⟨M, hM⟩ : ∃ M : Nat, M = X % 256 := ⟨_, rfl⟩
        have hMl : M < 256 := by omega
        have hXM : (X : Int) % 256 = (M : Int) := by omega
        have hRM : R = (((G + M) % 256 : Nat) : Int) := by rw [HRE.out]; omega
        have j0 : decide ((X : Int) < 0) = false := by simp
        subst hRM
        clear hx hM
        go_wp2_with fail
        go_loopw [0, 5] (fun b i wr => ∃ t : Nat, t ≤ M ∧ i = .int .i64 t ∧ b = .int .i64 (((G + t) % 256 : Nat) : Int) ∧ w = wr) (fun _ i _ => M - (intOf i).toNat)
        case atStart => exact ⟨0, by omega, rfl, by rw [Nat.add_zero, Nat.mod_eq_of_lt hG], rfl⟩
        case round =>
          obtain ⟨t, ht, rfl, rfl, rfl⟩ := hrel
          by_cases htl : t < M
          · have hl : (G + t) % 256 < 256 := Nat.mod_lt _ (by decide)
            have hs := refStep_any ((G + t) % 256) hl w
            rw [show ((G + t) % 256 + 1) % 256 = (G + (t + 1)) % 256 by omega] at hs
            have HS := Hid.intro hs
            clear hs
            obtain ⟨C, hC⟩ : ∃ C, C = (G + t) % 256 := ⟨_, rfl⟩
            obtain ⟨D, hD⟩ : ∃ D, D = (G + (t + 1)) % 256 := ⟨_, rfl⟩
            rw [← hC] at HS ⊢
            rw [← hD] at HS
            have HD := Hid.intro hD
            have j : (t : Int) < (M : Int) := by omega
            clear hC hD hl
            go_wp2_with fail
            refine HS.out.mono ?_
            rintro e w1 ⟨rfl, rfl⟩
            go_wp2
            go_roundw
            case rel => exact ⟨t + 1, by omega, by go_num, by rw [HD.out], trivial⟩
            case measure => simp [intOf]; omega
          · have hte : t = M := by omega
            subst hte
            have j : ¬ (t : Int) < (t : Int) := by omega
            go_wp2
            go_ret
            exact ⟨rfl, rfl⟩

theorem refOpen_any (b g : Int) (w : World) :
    Calls Try.prog 44 #[.int .i64 b, .int .i64 g] w fun e w' => e = .returned (.bool (openA b g)) ∧ w = w' := by
  have F := Hid.intro (refFar_any b g w)
  unfold openA
  generalize farA b g = f at F ⊢
  go_enter Try.func44, Try.ntmps44
  go_wp2_with fail
  refine F.out.mono ?_
  rintro e w1 ⟨rfl, rfl⟩
  by_cases h1 : 0 ≤ f
  · by_cases h2 : f ≤ 3
    · go_wp2
      go_ret
      exact ⟨ret_bool (by simp [h1, h2]), rfl⟩
    · go_wp2
      go_ret
      exact ⟨ret_bool (by simp; omega), rfl⟩
  · go_wp2
    go_ret
    exact ⟨ret_bool (by simp; omega), rfl⟩

theorem refBehind_any (b g : Int) (w : World) :
    Calls Try.prog 59 #[.int .i64 b, .int .i64 g] w fun e w' => e = .returned (.bool (behindA b g)) ∧ w = w' := by
  have F := Hid.intro (refFar_any b g w)
  unfold behindA
  generalize farA b g = f at F ⊢
  go_enter Try.func59, Try.ntmps59
  go_wp2_with fail
  refine F.out.mono ?_
  rintro e w1 ⟨rfl, rfl⟩
  by_cases h1 : 128 ≤ f
  · go_wp2
    go_ret
    exact ⟨ret_bool (by simp [h1]), rfl⟩
  · go_wp2
    go_ret
    exact ⟨ret_bool (by simp), rfl⟩

end Go.Proofs.Ytceekoifljeddaa
