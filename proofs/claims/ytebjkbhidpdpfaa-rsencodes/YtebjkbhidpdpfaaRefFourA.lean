/- Contracts of the document's own answer of layer 4: bytes that are multiplied. -/
import Derived.Test.YtebjkbhidpdpfaaBase
import Derived.Test.YtebjkbhidpdpfaaFieldPure
namespace Go.Proofs.Ytebjkbhidpdpfaa
open Go.RowKit
open Bt

theorem i64_xor_nat (a b : Nat) (ha : a < 2 ^ 63) (hb : b < 2 ^ 63) : bits .xor .i64 (a : Int) (b : Int) = ((a ^^^ b : Nat) : Int) := by
  have hx : a ^^^ b < 2 ^ 63 := Nat.xor_lt_two_pow ha hb
  show IntKind.i64.wrap ((BitVec.ofInt 64 (a : Int) ^^^ BitVec.ofInt 64 (b : Int)).toNat : Int) = _
  rw [BitVec.toNat_xor, ofInt_i64 a ha, ofInt_i64 b hb]
  exact IntWalk.i64_in _ (by omega)

theorem div_pow_succ (b m : Nat) : b / 2 ^ m / 2 = b / 2 ^ (m + 1) := by rw [Nat.div_div_eq_div_mul, ← Nat.pow_succ]

theorem raw_le {a : Nat} (h : a < 256) (b n : Nat) (hn : n ≤ 8) : raw n a b < 65536 := by
  have := raw_lt h b n hn
  have : 2 ^ (8 + n) ≤ 2 ^ 16 := Nat.pow_le_pow_right (by decide) (by omega)
  omega

theorem pow_le8 (n : Nat) (h : n ≤ 15) : 2 ^ n ≤ 32768 := by
  have : 2 ^ n ≤ 2 ^ 15 := Nat.pow_le_pow_right (by decide) h
  omega

set_option maxRecDepth 100000 in
set_option maxHeartbeats 1000000 in
theorem refMul_any (a b : Nat) (ha : a < 256) (hb : b < 256) (w : World) :
    Calls Try.prog 22 #[.int .u8 (a : Int), .int .u8 (b : Int)] w fun e w' => e = .returned (.int .u8 ((gmul a b : Nat) : Int)) ∧ w = w' := by
  obtain ⟨R, hR⟩ : ∃ R, R = gmul a b := ⟨_, rfl⟩
  rw [← hR]
  have HRR := Hid.intro hR
  clear hR
  go_enter Try.func22, Try.ntmps22
  go_wp2_with fail
  go_loop [6, 7] (fun p i => ∃ k : Nat, k ≤ 8 ∧ i = .int .i64 k ∧ p = .int .i64 ((raw k a b : Nat) : Int)) (fun _ i => 8 - (intOf i).toNat)
  case atStart => exact ⟨0, by omega, rfl, rfl⟩
  case round =>
    obtain ⟨k, hk, rfl, rfl⟩ := hrel
    have hp := raw_le ha b k hk
    by_cases hlt : k < 8
    · have hs : raw (k + 1) a b = raw k a b ^^^ (if b / 2 ^ k % 2 = 1 then a * 2 ^ k else 0) := rfl
      generalize raw k a b = P at hp hs ⊢
      obtain ⟨P1, hP1⟩ : ∃ P1, P1 = raw (k + 1) a b := ⟨_, rfl⟩
      rw [← hP1] at hs
      have HS := Hid.intro hs
      have HP1 := Hid.intro hP1
      clear hs hP1
      go_wp2_with fail
      go_loop [8, 9] (fun x i => ∃ m : Nat, m ≤ k ∧ i = .int .i64 m ∧ x = .int .i64 ((b / 2 ^ m : Nat) : Int)) (fun _ i => k - (intOf i).toNat)
      case atStart => exact ⟨0, by omega, rfl, by simp⟩
      case round =>
        obtain ⟨m, hm, rfl, rfl⟩ := hrel
        have hbm : b / 2 ^ m ≤ b := Nat.div_le_self _ _
        have hn := div_pow_succ b m
        by_cases hml : m < k
        · generalize b / 2 ^ m = B at hbm hn ⊢
          have HN := Hid.intro hn
          clear hn
          go_wp2
          go_round
          case rel => exact ⟨m + 1, by omega, by go_num, by rw [← HN.out]; simp⟩
          case measure => simp [intOf]; omega
        · have hmk : m = k := by omega
          subst hmk
          clear hn
          have hS := HS.out
          generalize b / 2 ^ m = B at hbm hS ⊢
          by_cases hbit : B % 2 = 1
          · have hx : ((B : Int) % 2 == 1) = true := by rw [beq_iff_eq]; omega
            rw [if_pos hbit] at hS
            have HS2 := Hid.intro hS
            clear hS HS
            go_wp2_with fail
            go_loop [10, 11] (fun y i => ∃ q : Nat, q ≤ m ∧ i = .int .i64 q ∧ y = .int .i64 ((a * 2 ^ q : Nat) : Int)) (fun _ i => m - (intOf i).toNat)
            case atStart => exact ⟨0, by omega, rfl, by simp⟩
            case round =>
              obtain ⟨q, hq, rfl, rfl⟩ := hrel
              have hay : a * 2 ^ q < 65536 := by
                have : 2 ^ q ≤ 2 ^ 8 := Nat.pow_le_pow_right (by decide) (by omega)
                have := Nat.mul_le_mul (show a ≤ 255 by omega) this
                omega
              by_cases hql : q < m
              · have hn : a * 2 ^ q * 2 = a * 2 ^ (q + 1) := by rw [Nat.mul_assoc, ← Nat.pow_succ]
                generalize a * 2 ^ q = Y at hay hn ⊢
                have HN := Hid.intro hn
                clear hn
                go_wp2
                go_round
                case rel => exact ⟨q + 1, by omega, by go_num, by rw [← HN.out]; simp⟩
                case measure => simp [intOf]; omega
              · have hqm : q = m := by omega
                subst hqm
                generalize a * 2 ^ q = Y at hay HS2 ⊢
                have hxor := i64_xor_nat P Y (by omega) (by omega)
                rw [← HS2.out] at hxor
                have hP1l : P1 < 65536 := by rw [HP1.out]; exact raw_le ha b (q + 1) (by omega)
                clear HS2
                go_wp2
                go_round
                case rel => exact ⟨q + 1, by omega, by go_num, by rw [HP1.out]⟩
                case measure => simp [intOf]; omega
          · have hx : ((B : Int) % 2 == 1) = false := by rw [beq_eq_false_iff_ne]; omega
            rw [if_neg hbit, Nat.xor_zero] at hS
            have HS2 := Hid.intro hS
            clear hS HS
            go_wp2
            go_round
            case rel => exact ⟨m + 1, by omega, by go_num, by rw [← HP1.out, HS2.out]⟩
            case measure => simp [intOf]; omega
    · have hk8 : k = 8 := by omega
      subst hk8
      have hred := bred_raw ha b 8 (by decide)
      generalize raw 8 a b = P0 at hp hred ⊢
      have HRED := Hid.intro hred
      clear hred
      go_wp2_with fail
      go_loop [6, 12, 13] (fun p d i => ∃ n : Nat, n ≤ 8 ∧ i = .int .i64 (15 - (n : Int)) ∧ p = .int .i64 ((bred n P0 : Nat) : Int) ∧ d = .int .i64 ((36480 / 2 ^ n : Nat) : Int)) (fun _ _ i => (intOf i).toNat)
      case atStart => exact ⟨0, by omega, rfl, rfl, rfl⟩
      case round =>
        obtain ⟨n, hn, rfl, rfl, rfl⟩ := hrel
        have hbl := bred_lt (p := P0) (by omega) n hn
        have hb16 : bred n P0 < 65536 := Nat.lt_of_lt_of_le hbl (Nat.pow_le_pow_right (n := 2) (by decide) (show 16 - n ≤ 16 by omega))
        have hd16 : 36480 / 2 ^ n ≤ 36480 := Nat.div_le_self _ _
        by_cases hnl : n < 8
        · have hs : bred (n + 1) P0 = if 2 ^ (15 - n) ≤ bred n P0 then bred n P0 ^^^ (36480 / 2 ^ n) else bred n P0 := by
            rw [bred, bst_if (by rw [show 15 - n + 1 = 16 - n from by omega]; exact hbl)]
            have e : 285 * 2 ^ (15 - n - 8) = 36480 / 2 ^ n := by
              have : n = 0 ∨ n = 1 ∨ n = 2 ∨ n = 3 ∨ n = 4 ∨ n = 5 ∨ n = 6 ∨ n = 7 := by omega
              rcases this with rfl | rfl | rfl | rfl | rfl | rfl | rfl | rfl <;> rfl
            rw [e]
          have hdn := div_pow_succ 36480 n
          generalize bred n P0 = P at hb16 hs hbl ⊢
          generalize 36480 / 2 ^ n = D at hd16 hdn hs ⊢
          obtain ⟨I, hI⟩ : ∃ I : Nat, I = 15 - n := ⟨_, rfl⟩
          have hIc : 15 - (n : Int) = (I : Int) := by omega
          have hI15 : I ≤ 15 := by omega
          have hI8 : 8 ≤ I := by omega
          rw [← hI] at hs
          rw [hIc]
          obtain ⟨P1, hP1⟩ : ∃ P1, P1 = bred (n + 1) P0 := ⟨_, rfl⟩
          rw [← hP1] at hs
          have HS := Hid.intro hs
          have HP1 := Hid.intro hP1
          have HDN := Hid.intro hdn
          have HI := Hid.intro hI
          clear hs hP1 hdn hbl hIc hI
          go_wp2_with fail
          go_loop [14, 15] (fun t i => ∃ q : Nat, q ≤ I ∧ i = .int .i64 q ∧ t = .int .i64 ((2 ^ q : Nat) : Int)) (fun _ i => I - (intOf i).toNat)
          case atStart => exact ⟨0, by omega, rfl, rfl⟩
          case round =>
            obtain ⟨q, hq, rfl, rfl⟩ := hrel
            have hq2 := pow_le8 q (by omega)
            by_cases hql : q < I
            · have hnx : 2 ^ q * 2 = 2 ^ (q + 1) := by rw [← Nat.pow_succ]
              generalize 2 ^ q = T at hq2 hnx ⊢
              have HN := Hid.intro hnx
              clear hnx
              go_wp2
              go_round
              case rel => exact ⟨q + 1, by omega, by go_num, by rw [← HN.out]; simp⟩
              case measure => simp [intOf]; omega
            · have hqI : q = I := by omega
              subst hqI
              have hS := HS.out
              generalize 2 ^ q = T at hq2 hS ⊢
              by_cases hge : T ≤ P
              · rw [if_pos hge] at hS
                have hxor := i64_xor_nat P D (by omega) (by omega)
                rw [← hS] at hxor
                have j : (T : Int) ≤ (P : Int) := by omega
                have hP1l : P1 < 65536 := by
                  rw [HP1.out]
                  exact Nat.lt_of_lt_of_le (bred_lt (p := P0) (by omega) (n + 1) (by omega)) (Nat.pow_le_pow_right (n := 2) (by decide) (show 16 - (n + 1) ≤ 16 by omega))
                clear hS HS
                go_wp2
                go_round
                case rel => exact ⟨n + 1, by omega, by have := HI.out; congr 1; omega, by rw [← HP1.out], by rw [← HDN.out]; simp⟩
                case measure => have := HI.out; simp [intOf]; omega
              · rw [if_neg hge] at hS
                have HS2 := Hid.intro hS
                have j : decide ((T : Int) ≤ (P : Int)) = false := by simp; omega
                clear hS HS
                go_wp2
                go_round
                case rel => exact ⟨n + 1, by omega, by have := HI.out; congr 1; omega, by rw [← HP1.out, HS2.out], by rw [← HDN.out]; simp⟩
                case measure => have := HI.out; simp [intOf]; omega
        · have hn8 : n = 8 := by omega
          subst hn8
          rw [HRED.out]
          have hlt := gmul_lt ha b
          have e : gm 8 a b = R := HRR.out.symm
          rw [e]
          have hR : R < 256 := by rw [HRR.out]; exact hlt
          clear e hlt HRR HRED hbl hb16
          go_wp2
          go_ret
          exact ⟨rfl, rfl⟩

set_option maxRecDepth 100000 in
set_option maxHeartbeats 1000000 in
theorem refInv_any (a : Nat) (ha : a < 256) (w : World) :
    Calls Try.prog 35 #[.int .u8 (a : Int)] w fun e w' => e = .returned (.int .u8 ((ginv a : Nat) : Int)) ∧ w = w' := by
  obtain ⟨R, hR⟩ : ∃ R, R = ginv a := ⟨_, rfl⟩
  rw [← hR]
  have HRR := Hid.intro hR
  clear hR
  go_enter Try.func35, Try.ntmps35
  go_wp2_with fail
  go_loop [3] (fun i => ∃ k : Nat, 1 ≤ k ∧ k ≤ 256 ∧ i = .int .i64 k ∧ ∀ x, 1 ≤ x → x < k → gmul a x ≠ 1) (fun i => 256 - (intOf i).toNat)
  case atStart => exact ⟨1, by omega, by omega, rfl, fun x h1 h2 => by omega⟩
  case round =>
    obtain ⟨k, hk1, hk, rfl, hno⟩ := hrel
    have HNO := Hid.intro hno
    clear hno
    by_cases hlt : k < 256
    · have HM := Hid.intro (refMul_any a k ha hlt w)
      have hu : (k : Int) % 256 = (k : Int) := by omega
      by_cases h1 : gmul a k = 1
      · rw [h1] at HM
        have e : k = R := by rw [HRR.out]; exact ginv_only ha hlt h1
        clear h1 HNO
        subst e
        go_wp2_with fail
        refine HM.out.mono ?_
        rintro e1 w1 ⟨rfl, rfl⟩
        clear HM
        go_wp2
        go_ret
        exact ⟨rfl, rfl⟩
      · have hj : (((gmul a k : Nat) : Int) == 1) = false := by rw [beq_eq_false_iff_ne]; omega
        have hno' : ∀ x, 1 ≤ x → x < k + 1 → gmul a x ≠ 1 := fun x h2 h3 => by
          by_cases e : x = k
          · rw [e]; exact h1
          · exact HNO.out x h2 (by omega)
        have HN := Hid.intro hno'
        clear hno' h1 HNO
        generalize gmul a k = G at HM hj
        go_wp2_with fail
        refine HM.out.mono ?_
        rintro e1 w1 ⟨rfl, rfl⟩
        clear HM
        go_wp2
        go_round
        case rel => exact ⟨k + 1, by omega, by omega, by go_num, HN.out⟩
        case measure => simp [intOf]; omega
    · have hke : k = 256 := by omega
      subst hke
      have a0 : a = 0 := Classical.byContradiction fun h0 => HNO.out (ginv a) (by have := ginv_ne ha h0; omega) (ginv_lt a) (ginv_mul ha h0)
      have e : R = 0 := by rw [HRR.out, a0]; rfl
      clear HNO HRR
      subst e
      go_wp2
      go_ret
      exact ⟨rfl, rfl⟩

set_option maxRecDepth 100000 in
set_option maxHeartbeats 1000000 in
theorem refPow_nat (a n : Nat) (ha : a < 256) (hn : n < 2 ^ 62) (w : World) :
    Calls Try.prog 34 #[.int .u8 (a : Int), .int .i64 (n : Int)] w fun e w' => e = .returned (.int .u8 ((gpow a n : Nat) : Int)) ∧ w = w' := by
  obtain ⟨R, hR⟩ : ∃ R, R = gpow a n := ⟨_, rfl⟩
  rw [← hR]
  have HRR := Hid.intro hR
  clear hR
  have j0 : decide ((n : Int) < 0) = false := by simp
  go_enter Try.func34, Try.ntmps34
  go_wp2_with fail
  go_loop [5, 6] (fun p i => ∃ k : Nat, k ≤ n ∧ i = .int .i64 k ∧ p = .int .u8 ((gpow a k : Nat) : Int)) (fun _ i => n - (intOf i).toNat)
  case atStart => exact ⟨0, by omega, rfl, rfl⟩
  case round =>
    obtain ⟨k, hk, rfl, rfl⟩ := hrel
    have hp := gpow_lt ha k
    by_cases hlt : k < n
    · have HM := Hid.intro (refMul_any (gpow a k) a hp ha w)
      have hs : gmul (gpow a k) a = gpow a (k + 1) := rfl
      rw [hs] at HM
      have hp1 := gpow_lt ha (k + 1)
      generalize gpow a k = P at HM hp ⊢
      obtain ⟨P1, hP1⟩ : ∃ P1, P1 = gpow a (k + 1) := ⟨_, rfl⟩
      rw [← hP1] at HM hp1
      have HP1 := Hid.intro hP1
      clear hP1 hs
      go_wp2_with fail
      refine HM.out.mono ?_
      rintro e1 w1 ⟨rfl, rfl⟩
      clear HM
      go_wp2
      go_round
      case rel => exact ⟨k + 1, by omega, by go_num, by rw [HP1.out]⟩
      case measure => simp [intOf]; omega
    · have hke : k = n := by omega
      subst hke
      rw [← HRR.out]
      clear HRR
      go_wp2
      go_ret
      exact ⟨rfl, rfl⟩

theorem refPow_neg (a : Nat) (n : Int) (hn : n < 0) (w : World) :
    Calls Try.prog 34 #[.int .u8 (a : Int), .int .i64 n] w fun e w' => e = .returned (.int .u8 0) ∧ w = w' := by
  go_enter Try.func34, Try.ntmps34
  go_wp2
  go_ret
  exact ⟨rfl, rfl⟩

theorem refPow_any (a : Nat) (n : Int) (ha : a < 256) (hn : n < 2 ^ 62) (w : World) :
    Calls Try.prog 34 #[.int .u8 (a : Int), .int .i64 n] w fun e w' => e = .returned (.int .u8 ((powA a n : Nat) : Int)) ∧ w = w' := by
  unfold powA
  by_cases h : n < 0
  · rw [if_pos h]; exact refPow_neg a n h w
  · rw [if_neg h]
    obtain ⟨N, rfl⟩ := Int.eq_ofNat_of_zero_le (show 0 ≤ n by omega)
    rw [Int.toNat_natCast]
    exact refPow_nat a N ha (by omega) w

end Go.Proofs.Ytebjkbhidpdpfaa
