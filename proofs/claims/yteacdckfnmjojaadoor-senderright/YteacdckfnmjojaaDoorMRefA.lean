/- Several texts, one behind the other: RefFourA RsMat RefSolve RefValue RefMay RefEnc RefEncB. -/
import Derived.Test.YteacdckfnmjojaaDoorBase
import Derived.Test.YteacdckfnmjojaaDoorMPlain
import Derived.Test.YteacdckfnmjojaaDoorAppB
import Derived.Test.YteacdckfnmjojaaDoorRsCd
import Derived.Test.YteacdckfnmjojaaDoorRsRag
import Derived.Deep.RegionLaw
import Derived.Test.YteacdckfnmjojaaDoorRsLst
/- Contracts of the document's own answer of layer 4: bytes that are multiplied. -/
namespace Go.Proofs.YteacdckfnmjojaaDoor
open Go.RowKit
open Bt

theorem i64_xor_nat (a b : Nat) (ha : a < 2 ^ 63) (hb : b < 2 ^ 63) : bits .xor .i64 (a : Int) (b : Int) = ((a ^^^ b : Nat) : Int) := by
  have hx : a ^^^ b < 2 ^ 63 := Nat.xor_lt_two_pow ha hb
  show IntKind.i64.wrap ((BitVec.ofInt 64 (a : Int) ^^^ BitVec.ofInt 64 (b : Int)).toNat : Int) = _
  rw [BitVec.toNat_xor, ofInt_i64 a ha, ofInt_i64 b hb]
  exact IntWalk.i64_in _ (by omega)

theorem div_pow_succ (b m : Nat) : b / 2 ^ m / 2 = b / 2 ^ (m + 1) := by rw [Nat.div_div_eq_div_mul, ← Nat.pow_succ]

theorem raw_le {a : Nat} (h : a < 256) (b n : Nat) (hn : n ≤ 8) : raw n a b < 65536 := by
  have := raw_lt h b n hn
  have : 2 ^ (8 + n) ≤ 2 ^ 16 := Nat.pow_le_pow_right (by decide) (by omega)
  omega

theorem pow_le8 (n : Nat) (h : n ≤ 15) : 2 ^ n ≤ 32768 := by
  have : 2 ^ n ≤ 2 ^ 15 := Nat.pow_le_pow_right (by decide) h
  omega

set_option maxRecDepth 100000 in
set_option maxHeartbeats 1000000 in
theorem refMul_any (a b : Nat) (ha : a < 256) (hb : b < 256) (w : World) :
    Calls Tryd.prog 70 #[.int .u8 (a : Int), .int .u8 (b : Int)] w fun e w' => e = .returned (.int .u8 ((gmul a b : Nat) : Int)) ∧ w = w' := by
  obtain ⟨R, hR⟩ : ∃ R, R = gmul a b := ⟨_, rfl⟩
  rw [← hR]
  have HRR := Hid.intro hR
  clear hR
  go_enter Tryd.func70, Tryd.ntmps70
  go_wp2_with fail
  go_loop [6, 7] (fun p i => ∃ k : Nat, k ≤ 8 ∧ i = .int .i64 k ∧ p = .int .i64 ((raw k a b : Nat) : Int)) (fun _ i => 8 - (intOf i).toNat)
  case atStart => exact ⟨0, by omega, rfl, rfl⟩
  case round =>
    obtain ⟨k, hk, rfl, rfl⟩ := hrel
    have hp := raw_le ha b k hk
    by_cases hlt : k < 8
    · have hs : raw (k + 1) a b = raw k a b ^^^ (if b / 2 ^ k % 2 = 1 then a * 2 ^ k else 0) := rfl
      generalize raw k a b = P at hp hs ⊢
      obtain ⟨P1, hP1⟩ : ∃ P1, P1 = raw (k + 1) a b := ⟨_, rfl⟩
      rw [← hP1] at hs
      have HS := Hid.intro hs
      have HP1 := Hid.intro hP1
      clear hs hP1
      go_wp2_with fail
      go_loop [8, 9] (fun x i => ∃ m : Nat, m ≤ k ∧ i = .int .i64 m ∧ x = .int .i64 ((b / 2 ^ m : Nat) : Int)) (fun _ i => k - (intOf i).toNat)
      case atStart => exact ⟨0, by omega, rfl, by simp⟩
      case round =>
        obtain ⟨m, hm, rfl, rfl⟩ := hrel
        have hbm : b / 2 ^ m ≤ b := Nat.div_le_self _ _
        have hn := div_pow_succ b m
        by_cases hml : m < k
        · generalize b / 2 ^ m = B at hbm hn ⊢
          have HN := Hid.intro hn
          clear hn
          go_wp2
          go_round
          case rel => exact ⟨m + 1, by omega, by go_num, by rw [← HN.out]; simp⟩
          case measure => simp [intOf]; omega
        · have hmk : m = k := by omega
          subst hmk
          clear hn
          have hS := HS.out
          generalize b / 2 ^ m = B at hbm hS ⊢
          by_cases hbit : B % 2 = 1
          · have hx : ((B : Int) % 2 == 1) = true := by rw [beq_iff_eq]; omega
            rw [if_pos hbit] at hS
            have HS2 := Hid.intro hS
            clear hS HS
            go_wp2_with fail
            go_loop [10, 11] (fun y i => ∃ q : Nat, q ≤ m ∧ i = .int .i64 q ∧ y = .int .i64 ((a * 2 ^ q : Nat) : Int)) (fun _ i => m - (intOf i).toNat)
            case atStart => exact ⟨0, by omega, rfl, by simp⟩
            case round =>
              obtain ⟨q, hq, rfl, rfl⟩ := hrel
              have hay : a * 2 ^ q < 65536 := by
                have : 2 ^ q ≤ 2 ^ 8 := Nat.pow_le_pow_right (by decide) (by omega)
                have := Nat.mul_le_mul (show a ≤ 255 by omega) this
                omega
              by_cases hql : q < m
              · have hn : a * 2 ^ q * 2 = a * 2 ^ (q + 1) := by rw [Nat.mul_assoc, ← Nat.pow_succ]
                generalize a * 2 ^ q = Y at hay hn ⊢
                have HN := Hid.intro hn
                clear hn
                go_wp2
                go_round
                case rel => exact ⟨q + 1, by omega, by go_num, by rw [← HN.out]; simp⟩
                case measure => simp [intOf]; omega
              · have hqm : q = m := by omega
                subst hqm
                generalize a * 2 ^ q = Y at hay HS2 ⊢
                have hxor := i64_xor_nat P Y (by omega) (by omega)
                rw [← HS2.out] at hxor
                have hP1l : P1 < 65536 := by rw [HP1.out]; exact raw_le ha b (q + 1) (by omega)
                clear HS2
                go_wp2
                go_round
                case rel => exact ⟨q + 1, by omega, by go_num, by rw [HP1.out]⟩
                case measure => simp [intOf]; omega
          · have hx : ((B : Int) % 2 == 1) = false := by rw [beq_eq_false_iff_ne]; omega
            rw [if_neg hbit, Nat.xor_zero] at hS
            have HS2 := Hid.intro hS
            clear hS HS
            go_wp2
            go_round
            case rel => exact ⟨m + 1, by omega, by go_num, by rw [← HP1.out, HS2.out]⟩
            case measure => simp [intOf]; omega
    · have hk8 : k = 8 := by omega
      subst hk8
      have hred := bred_raw ha b 8 (by decide)
      generalize raw 8 a b = P0 at hp hred ⊢
      have HRED := Hid.intro hred
      clear hred
      go_wp2_with fail
      go_loop [6, 12, 13] (fun p d i => ∃ n : Nat, n ≤ 8 ∧ i = .int .i64 (15 - (n : Int)) ∧ p = .int .i64 ((bred n P0 : Nat) : Int) ∧ d = .int .i64 ((36480 / 2 ^ n : Nat) : Int)) (fun _ _ i => (intOf i).toNat)
      case atStart => exact ⟨0, by omega, rfl, rfl, rfl⟩
      case round =>
        obtain ⟨n, hn, rfl, rfl, rfl⟩ := hrel
        have hbl := bred_lt (p := P0) (by omega) n hn
        have hb16 : bred n P0 < 65536 := Nat.lt_of_lt_of_le hbl (Nat.pow_le_pow_right (n := 2) (by decide) (show 16 - n ≤ 16 by omega))
        have hd16 : 36480 / 2 ^ n ≤ 36480 := Nat.div_le_self _ _
        by_cases hnl : n < 8
        · have hs : bred (n + 1) P0 = if 2 ^ (15 - n) ≤ bred n P0 then bred n P0 ^^^ (36480 / 2 ^ n) else bred n P0 := by
            rw [bred, bst_if (by rw [show 15 - n + 1 = 16 - n from by omega]; exact hbl)]
            have e : 285 * 2 ^ (15 - n - 8) = 36480 / 2 ^ n := by
              have : n = 0 ∨ n = 1 ∨ n = 2 ∨ n = 3 ∨ n = 4 ∨ n = 5 ∨ n = 6 ∨ n = 7 := by omega
              rcases this with rfl | rfl | rfl | rfl | rfl | rfl | rfl | rfl <;> rfl
            rw [e]
          have hdn := div_pow_succ 36480 n
          generalize bred n P0 = P at hb16 hs hbl ⊢
          generalize 36480 / 2 ^ n = D at hd16 hdn hs ⊢
          obtain ⟨I, hI⟩ : ∃ I : Nat, I = 15 - n := ⟨_, rfl⟩
          have hIc : 15 - (n : Int) = (I : Int) := by omega
          have hI15 : I ≤ 15 := by omega
          have hI8 : 8 ≤ I := by omega
          rw [← hI] at hs
          rw [hIc]
          obtain ⟨P1, hP1⟩ : ∃ P1, P1 = bred (n + 1) P0 := ⟨_, rfl⟩
          rw [← hP1] at hs
          have HS := Hid.intro hs
          have HP1 := Hid.intro hP1
          have HDN := Hid.intro hdn
          have HI := Hid.intro hI
          clear hs hP1 hdn hbl hIc hI
          go_wp2_with fail
          go_loop [14, 15] (fun t i => ∃ q : Nat, q ≤ I ∧ i = .int .i64 q ∧ t = .int .i64 ((2 ^ q : Nat) : Int)) (fun _ i => I - (intOf i).toNat)
          case atStart => exact ⟨0, by omega, rfl, rfl⟩
          case round =>
            obtain ⟨q, hq, rfl, rfl⟩ := hrel
            have hq2 := pow_le8 q (by omega)
            by_cases hql : q < I
            · have hnx : 2 ^ q * 2 = 2 ^ (q + 1) := by rw [← Nat.pow_succ]
              generalize 2 ^ q = T at hq2 hnx ⊢
              have HN := Hid.intro hnx
              clear hnx
              go_wp2
              go_round
              case rel => exact ⟨q + 1, by omega, by go_num, by rw [← HN.out]; simp⟩
              case measure => simp [intOf]; omega
            · have hqI : q = I := by omega
              subst hqI
              have hS := HS.out
              generalize 2 ^ q = T at hq2 hS ⊢
              by_cases hge : T ≤ P
              · rw [if_pos hge] at hS
                have hxor := i64_xor_nat P D (by omega) (by omega)
                rw [← hS] at hxor
                have j : (T : Int) ≤ (P : Int) := by omega
                have hP1l : P1 < 65536 := by
                  rw [HP1.out]
                  exact Nat.lt_of_lt_of_le (bred_lt (p := P0) (by omega) (n + 1) (by omega)) (Nat.pow_le_pow_right (n := 2) (by decide) (show 16 - (n + 1) ≤ 16 by omega))
                clear hS HS
                go_wp2
                go_round
                case rel => exact ⟨n + 1, by omega, by have := HI.out; congr 1; omega, by rw [← HP1.out], by rw [← HDN.out]; simp⟩
                case measure => have := HI.out; simp [intOf]; omega
              · rw [if_neg hge] at hS
                have HS2 := Hid.intro hS
                have j : decide ((T : Int) ≤ (P : Int)) = false := by simp; omega
                clear hS HS
                go_wp2
                go_round
                case rel => exact ⟨n + 1, by omega, by have := HI.out; congr 1; omega, by rw [← HP1.out, HS2.out], by rw [← HDN.out]; simp⟩
                case measure => have := HI.out; simp [intOf]; omega
        · have hn8 : n = 8 := by omega
          subst hn8
          rw [HRED.out]
          have hlt := gmul_lt ha b
          have e : gm 8 a b = R := HRR.out.symm
          rw [e]
          have hR : R < 256 := by rw [HRR.out]; exact hlt
          clear e hlt HRR HRED hbl hb16
          go_wp2
          go_ret
          exact ⟨rfl, rfl⟩

set_option maxRecDepth 100000 in
set_option maxHeartbeats 1000000 in
theorem refInv_any (a : Nat) (ha : a < 256) (w : World) :
    Calls Tryd.prog 69 #[.int .u8 (a : Int)] w fun e w' => e = .returned (.int .u8 ((ginv a : Nat) : Int)) ∧ w = w' := by
  obtain ⟨R, hR⟩ : ∃ R, R = ginv a := ⟨_, rfl⟩
  rw [← hR]
  have HRR := Hid.intro hR
  clear hR
  go_enter Tryd.func69, Tryd.ntmps69
  go_wp2_with fail
  go_loop [3] (fun i => ∃ k : Nat, 1 ≤ k ∧ k ≤ 256 ∧ i = .int .i64 k ∧ ∀ x, 1 ≤ x → x < k → gmul a x ≠ 1) (fun i => 256 - (intOf i).toNat)
  case atStart => exact ⟨1, by omega, by omega, rfl, fun x h1 h2 => by omega⟩
  case round =>
    obtain ⟨k, hk1, hk, rfl, hno⟩ := hrel
    have HNO := Hid.intro hno
    clear hno
    by_cases hlt : k < 256
    · have HM := Hid.intro (refMul_any a k ha hlt w)
      have hu : (k : Int) % 256 = (k : Int) := by omega
      by_cases h1 : gmul a k = 1
      · rw [h1] at HM
        have e : k = R := by rw [HRR.out]; exact ginv_only ha hlt h1
        clear h1 HNO
        subst e
        go_wp2_with fail
        refine HM.out.mono ?_
        rintro e1 w1 ⟨rfl, rfl⟩
        clear HM
        go_wp2
        go_ret
        exact ⟨rfl, rfl⟩
      · have hj : (((gmul a k : Nat) : Int) == 1) = false := by rw [beq_eq_false_iff_ne]; omega
        have hno' : ∀ x, 1 ≤ x → x < k + 1 → gmul a x ≠ 1 := fun x h2 h3 => by
          by_cases e : x = k
          · rw [e]; exact h1
          · exact HNO.out x h2 (by omega)
        have HN := Hid.intro hno'
        clear hno' h1 HNO
        generalize gmul a k = G at HM hj
        go_wp2_with fail
        refine HM.out.mono ?_
        rintro e1 w1 ⟨rfl, rfl⟩
        clear HM
        go_wp2
        go_round
        case rel => exact ⟨k + 1, by omega, by omega, by go_num, HN.out⟩
        case measure => simp [intOf]; omega
    · have hke : k = 256 := by omega
      subst hke
      have a0 : a = 0 := Classical.byContradiction fun h0 => HNO.out (ginv a) (by have := ginv_ne ha h0; omega) (ginv_lt a) (ginv_mul ha h0)
      have e : R = 0 := by rw [HRR.out, a0]; rfl
      clear HNO HRR
      subst e
      go_wp2
      go_ret
      exact ⟨rfl, rfl⟩

set_option maxRecDepth 100000 in
set_option maxHeartbeats 1000000 in
theorem refPow_nat (a n : Nat) (ha : a < 256) (hn : n < 2 ^ 62) (w : World) :
    Calls Tryd.prog 68 #[.int .u8 (a : Int), .int .i64 (n : Int)] w fun e w' => e = .returned (.int .u8 ((gpow a n : Nat) : Int)) ∧ w = w' := by
  obtain ⟨R, hR⟩ : ∃ R, R = gpow a n := ⟨_, rfl⟩
  rw [← hR]
  have HRR := Hid.intro hR
  clear hR
  have j0 : decide ((n : Int) < 0) = false := by simp
  go_enter Tryd.func68, Tryd.ntmps68
  go_wp2_with fail
  go_loop [5, 6] (fun p i => ∃ k : Nat, k ≤ n ∧ i = .int .i64 k ∧ p = .int .u8 ((gpow a k : Nat) : Int)) (fun _ i => n - (intOf i).toNat)
  case atStart => exact ⟨0, by omega, rfl, rfl⟩
  case round =>
    obtain ⟨k, hk, rfl, rfl⟩ := hrel
    have hp := gpow_lt ha k
    by_cases hlt : k < n
    · have HM := Hid.intro (refMul_any (gpow a k) a hp ha w)
      have hs : gmul (gpow a k) a = gpow a (k + 1) := rfl
      rw [hs] at HM
      have hp1 := gpow_lt ha (k + 1)
      generalize gpow a k = P at HM hp ⊢
      obtain ⟨P1, hP1⟩ : ∃ P1, P1 = gpow a (k + 1) := ⟨_, rfl⟩
      rw [← hP1] at HM hp1
      have HP1 := Hid.intro hP1
      clear hP1 hs
      go_wp2_with fail
      refine HM.out.mono ?_
      rintro e1 w1 ⟨rfl, rfl⟩
      clear HM
      go_wp2
      go_round
      case rel => exact ⟨k + 1, by omega, by go_num, by rw [HP1.out]⟩
      case measure => simp [intOf]; omega
    · have hke : k = n := by omega
      subst hke
      rw [← HRR.out]
      clear HRR
      go_wp2
      go_ret
      exact ⟨rfl, rfl⟩

theorem refPow_neg (a : Nat) (n : Int) (hn : n < 0) (w : World) :
    Calls Tryd.prog 68 #[.int .u8 (a : Int), .int .i64 n] w fun e w' => e = .returned (.int .u8 0) ∧ w = w' := by
  go_enter Tryd.func68, Tryd.ntmps68
  go_wp2
  go_ret
  exact ⟨rfl, rfl⟩

theorem refPow_any (a : Nat) (n : Int) (ha : a < 256) (hn : n < 2 ^ 62) (w : World) :
    Calls Tryd.prog 68 #[.int .u8 (a : Int), .int .i64 n] w fun e w' => e = .returned (.int .u8 ((powA a n : Nat) : Int)) ∧ w = w' := by
  unfold powA
  by_cases h : n < 0
  · rw [if_pos h]; exact refPow_neg a n h w
  · rw [if_neg h]
    obtain ⟨N, rfl⟩ := Int.eq_ofNat_of_zero_le (show 0 ≤ n by omega)
    rw [Int.toNat_natCast]
    exact refPow_nat a N ha (by omega) w

end Go.Proofs.YteacdckfnmjojaaDoor

/- A table of bytes in memory of one's own: rows, and the slice of them. -/
namespace Go.Proofs.YteacdckfnmjojaaDoor
open Go.RowKit
open Bt

theorem info_row : (Tryd.prog.info? 37).map (fun i => (i.zero, i.size, i.bytes)) = some (some (.slice none 0 0), 1, 24) := by kernel_rfl

/-- A row's bytes. -/
def rowL (n : Nat) (M : Nat → Nat → Nat) (r : Nat) : List Nat := (List.range n).map (M r)

theorem rowL_length (n : Nat) (M : Nat → Nat → Nat) (r : Nat) : (rowL n M r).length = n := by simp [rowL]

/-- A row as a value. -/
def sl (n : Nat) (g cp : Nat → Nat) (r : Nat) : Value := .slice (some ⟨g r, 0, none⟩) n (cp r)

theorem sl_block (n : Nat) (g cp : Nat → Nat) (r : Nat) : (sl n g cp r).ownBlock = some (g r) := rfl

/-- So many rows of so many bytes. -/
structure Mat (B : Nat) (w : World) (m : Value) (i n : Nat) (g cp : Nat → Nat) (M : Nat → Nat → Nat) : Prop where
  top : w.ownsRow 0 37 1 m i ((List.range i).map (sl n g cp))
  row : ∀ r, r < i → w.ownsRow 0 5 1 (sl n g cp r) n ((rowL n M r).map U)
  apart : ∀ r s, r < i → s < i → r ≠ s → g r ≠ g s
  newTop : ∀ k, m.ownBlock = some k → B ≤ k
  newRow : ∀ r, r < i → B ≤ g r

variable {B : Nat} {w : World} {m : Value} {i n : Nat} {g cp : Nat → Nat} {M : Nat → Nat → Nat}

theorem Mat.start (B : Nat) (w : World) (n : Nat) (g cp : Nat → Nat) (M : Nat → Nat → Nat) : Mat B w (.slice none 0 0) 0 n g cp M :=
  ⟨World.ownsRow_nil _ _ _ _, fun r hr => absurd hr (by omega), fun r s hr => absurd hr (by omega), nil_own _, fun r hr => absurd hr (by omega)⟩

theorem Mat.topApart (h : Mat B w m i n g cp M) {r : Nat} (hr : r < i) : m.ownBlock ≠ some (g r) := fun e =>
  rows_apart h.top (h.row r hr) (by decide) (g r) e rfl

theorem Mat.form (h : Mat B w m i n g cp M) (hi : 0 < i) : ∃ mb mc, m = .slice (some ⟨mb, 0, none⟩) i mc := by
  obtain ⟨ao, cap, e, h1⟩ := ownsRow_form h.top
  rcases h1 with h1 | ⟨b, rfl⟩
  · omega
  · exact ⟨b, cap, e⟩

theorem Mat.kept {S : Nat → Prop} {w' : World} (h : Mat B w m i n g cp M) (hc : Chg S w w') (hm : ∀ k, m.ownBlock = some k → ¬ S k) (hr : ∀ r, r < i → ¬ S (g r)) : Mat B w' m i n g cp M :=
  ⟨ownsRow_keep h.top fun k hk => hc.block k (ownsRow_lt h.top hk) (hm k hk),
    fun r hi => ownsRow_keep (h.row r hi) fun k hk => by
      have e : g r = k := by simpa [sl_block] using hk
      subst e
      exact hc.block _ (ownsRow_lt (h.row r hi) rfl) (hr r hi),
    h.apart, h.newTop, h.newRow⟩

theorem Mat.drew (h : Mat B w m i n g cp M) : Mat B w.drew m i n g cp M := h.kept ((Chg.refl (fun _ => False) w).drew) (fun _ _ => id) (fun _ _ => id)

theorem Mat.drewN (h : Mat B w m i n g cp M) (q : Nat) : Mat B (w.drewN q) m i n g cp M := h.kept ((Chg.refl (fun _ => False) w).drewN q) (fun _ _ => id) (fun _ _ => id)

theorem Mat.cellRow (h : Mat B w m i n g cp M) {r k : Nat} (hr : r < i) (hk : k < n) : w.cell? ⟨g r, k, none⟩ = some (U (M r k)) := by
  have := h.row r hr
  unfold sl at this
  rw [this.cellAt k (by omega)]
  simp [rowL, hk]

theorem Mat.frozenRow (h : Mat B w m i n g cp M) {r : Nat} (hr : r < i) (k : Nat) : w.frozen? ⟨g r, k, none⟩ = false := by
  have := h.row r hr
  unfold sl at this
  exact this.frozenAt k

theorem Mat.cellTop {mb mc : Nat} (h : Mat B w (.slice (some ⟨mb, 0, none⟩) i mc) i n g cp M) {r : Nat} (hr : r < i) : w.cell? ⟨mb, r, none⟩ = some (.slice (some ⟨g r, 0, none⟩) n (cp r)) := by
  rw [h.top.cellAt r (by omega)]
  simp [sl, hr]

theorem Mat.frozenTop {mb mc : Nat} (h : Mat B w (.slice (some ⟨mb, 0, none⟩) i mc) i n g cp M) (r : Nat) : w.frozen? ⟨mb, r, none⟩ = false := h.top.frozenAt r

/-- One byte turned. -/
def setM (r k v : Nat) (M : Nat → Nat → Nat) : Nat → Nat → Nat := fun s j => if s = r ∧ j = k then v else M s j

theorem Mat.set (h : Mat B w m i n g cp M) {r k v : Nat} (hr : r < i) : Mat B (w.setCell ⟨g r, k, none⟩ (U v)) m i n g cp (setM r k v M) := by
  refine ⟨ownsRow_setCell_other h.top (h.topApart hr) _, fun s hs => ?_, h.apart, h.newTop, h.newRow⟩
  by_cases e : s = r
  · subst e
    have h1 := h.row s hs
    unfold sl at h1 ⊢
    have h2 := (h1.stored k (U v)).1
    have e2 : ((rowL n M s).map U).set k (U v) = (rowL n (setM s k v M) s).map U := by
      apply List.ext_getElem
      · simp [rowL]
      · intro j h3 h4
        rw [List.getElem_set]
        simp only [rowL, List.getElem_map, List.getElem_range, setM, true_and]
        by_cases e : k = j
        · rw [if_pos e, if_pos e.symm]
        · rw [if_neg e, if_neg (fun e' => e e'.symm)]
    rw [e2] at h2
    exact h2
  · have e2 : rowL n (setM r k v M) s = rowL n M s := by
      unfold rowL setM
      refine List.map_congr_left (fun j _ => ?_)
      rw [if_neg (fun c => e c.1)]
    rw [e2]
    exact ownsRow_setCell_other (h.row s hs) (fun c => h.apart s r hs hr e (by simpa [sl_block] using c)) _

/-- Two rows exchanged. -/
def sw (c p : Nat) (f : Nat → Nat) : Nat → Nat := fun r => if r = c then f p else if r = p then f c else f r

theorem Mat.swap {mb mc c p : Nat} (h : Mat B w (.slice (some ⟨mb, 0, none⟩) i mc) i n g cp M) (hc : c < i) (hp : p < i) :
    Mat B ((w.setCell ⟨mb, c, none⟩ (.slice (some ⟨g p, 0, none⟩) n (cp p))).setCell ⟨mb, p, none⟩ (.slice (some ⟨g c, 0, none⟩) n (cp c))) (.slice (some ⟨mb, 0, none⟩) i mc) i n (sw c p g) (sw c p cp) (swapM c p M) := by
  have hpm : ∀ r, r < i → ∃ s, s < i ∧ sw c p g r = g s ∧ sw c p cp r = cp s ∧ ∀ k, swapM c p M r k = M s k := by
    intro r hr
    unfold sw swapM
    by_cases h1 : r = c
    · exact ⟨p, hp, by rw [if_pos h1], by rw [if_pos h1], fun k => by rw [if_pos h1]⟩
    · by_cases h2 : r = p
      · exact ⟨c, hc, by rw [if_neg h1, if_pos h2], by rw [if_neg h1, if_pos h2], fun k => by rw [if_neg h1, if_pos h2]⟩
      · exact ⟨r, hr, by rw [if_neg h1, if_neg h2], by rw [if_neg h1, if_neg h2], fun k => by rw [if_neg h1, if_neg h2]⟩
  refine ⟨?_, fun r hr => ?_, fun r s hr hs hne => ?_, h.newTop, fun r hr => ?_⟩
  · have h1 := (h.top.stored c (.slice (some ⟨g p, 0, none⟩) n (cp p))).1
    have h2 := (h1.stored p (.slice (some ⟨g c, 0, none⟩) n (cp c))).1
    have e : (((List.range i).map (sl n g cp)).set c (.slice (some ⟨g p, 0, none⟩) n (cp p))).set p (.slice (some ⟨g c, 0, none⟩) n (cp c)) = (List.range i).map (sl n (sw c p g) (sw c p cp)) := by
      apply List.ext_getElem
      · simp
      · intro j h3 h4
        rw [List.getElem_set, List.getElem_set]
        simp only [List.getElem_map, List.getElem_range, sl, sw]
        by_cases e1 : p = j
        · rw [if_pos e1]
          by_cases e2 : j = c
          · rw [if_pos e2, if_pos e2, e1, e2]
          · rw [if_neg e2, if_neg e2, if_pos e1.symm, if_pos e1.symm]
        · rw [if_neg e1]
          by_cases e2 : c = j
          · rw [if_pos e2, if_pos e2.symm, if_pos e2.symm]
          · have a1 : ¬ j = c := fun q => e2 q.symm
            have a2 : ¬ j = p := fun q => e1 q.symm
            simp only [if_neg e2, if_neg a1, if_neg a2]
    rw [e] at h2
    exact h2
  · obtain ⟨s, hs, e1, e2, e3⟩ := hpm r hr
    have e4 : sl n (sw c p g) (sw c p cp) r = sl n g cp s := by unfold sl; rw [e1, e2]
    have e5 : rowL n (swapM c p M) r = rowL n M s := by unfold rowL; exact List.map_congr_left (fun k _ => e3 k)
    rw [e4, e5]
    have ne : (sl n g cp s).ownBlock ≠ some mb := fun q => h.topApart hs (by rw [sl_block] at q; rw [q]; rfl)
    exact ownsRow_setCell_other (ownsRow_setCell_other (h.row s hs) ne _) ne _
  · have key : ∀ a b, a < i → b < i → g a = g b → a = b := fun a b ha hb e => Classical.byContradiction fun hn => h.apart a b ha hb hn e
    have hq : ∀ r, sw c p g r = g (if r = c then p else if r = p then c else r) := fun r => by
      unfold sw
      by_cases h1 : r = c
      · rw [if_pos h1, if_pos h1]
      · rw [if_neg h1, if_neg h1]
        by_cases h2 : r = p
        · rw [if_pos h2, if_pos h2]
        · rw [if_neg h2, if_neg h2]
    intro e
    rw [hq, hq] at e
    have l : ∀ r, r < i → (if r = c then p else if r = p then c else r) < i := fun r hr => by
      split
      · exact hp
      · split
        · exact hc
        · exact hr
    have := key _ _ (l r hr) (l s hs) e
    split at this <;> split at this <;> (try split at this) <;> (try split at this) <;> omega
  · obtain ⟨s, hs, e1, _⟩ := hpm r hr
    rw [e1]; exact h.newRow s hs

/-- A row more. -/
theorem Mat.push {w' : World} {m' : Value} {rb rc : Nat} (h : Mat B w m i n g cp M) (hr : w.ownsRow 0 5 1 (.slice (some ⟨rb, 0, none⟩) n rc) n ((rowL n M i).map U)) (hB : B ≤ rb) (hap : ∀ r, r < i → g r ≠ rb)
    (ht : w'.ownsRow 0 37 1 m' (i + 1) ((List.range i).map (sl n g cp) ++ [.slice (some ⟨rb, 0, none⟩) n rc]))
    (hc : Chg (fun k => m.ownBlock = some k) w w') (hm : ∀ k, m'.ownBlock = some k → B ≤ k) :
    Mat B w' m' (i + 1) n (fun r => if r = i then rb else g r) (fun r => if r = i then rc else cp r) M := by
  have hsl : ∀ r, r < i → sl n (fun r => if r = i then rb else g r) (fun r => if r = i then rc else cp r) r = sl n g cp r := by
    intro r hr; unfold sl; simp only [if_neg (Nat.ne_of_lt hr)]
  have hsi : sl n (fun r => if r = i then rb else g r) (fun r => if r = i then rc else cp r) i = .slice (some ⟨rb, 0, none⟩) n rc := by
    unfold sl; simp only [if_pos]
  refine ⟨?_, fun r hr' => ?_, fun r s hr' hs hne => ?_, hm, fun r hr' => ?_⟩
  · rw [List.range_succ, List.map_append, List.map_congr_left (fun r hr => hsl r (List.mem_range.1 hr)), List.map_cons, List.map_nil, hsi]
    exact ht
  · by_cases e : r = i
    · subst e
      rw [hsi]
      exact ownsRow_keep hr fun k hk => hc.block k (ownsRow_lt hr hk) (fun q => rows_apart h.top hr (by decide) k q hk)
    · have hlt : r < i := by omega
      rw [hsl r hlt]
      exact ownsRow_keep (h.row r hlt) fun k hk => hc.block k (ownsRow_lt (h.row r hlt) hk) (fun q => rows_apart h.top (h.row r hlt) (by decide) k q hk)
  · show (if r = i then rb else g r) ≠ (if s = i then rb else g s)
    split <;> split
    · omega
    · exact fun e => hap s (by omega) e.symm
    · exact hap r (by omega)
    · exact h.apart r s (by omega) (by omega) hne
  · show B ≤ if r = i then rb else g r
    split
    · exact hB
    · exact h.newRow r (by omega)

/-- What is told of a table is told of its places alone. -/
theorem Mat.congr {N : Nat → Nat → Nat} (h : Mat B w m i n g cp M) (e : ∀ r k, r < i → k < n → M r k = N r k) : Mat B w m i n g cp N :=
  ⟨h.top, fun r hr => by
    have e2 : rowL n N r = rowL n M r := List.map_congr_left (fun k hk => (e r k hr (List.mem_range.1 hk)).symm)
    rw [e2]; exact h.row r hr, h.apart, h.newTop, h.newRow⟩

end Go.Proofs.YteacdckfnmjojaaDoor

/- The contract of the document's own Solve of layer 5: the polynomial that is at bytes what is told. -/
namespace Go.Proofs.YteacdckfnmjojaaDoor
open Go.RowKit
open Bt

/-- A row's powers. -/
def powL (x t : Nat) : List Nat := (List.range t).map (gpow x)

theorem powL_succ (x t : Nat) : powL x (t + 1) = powL x t ++ [gpow x t] := by simp [powL, List.range_succ]

theorem powL_length (x t : Nat) : (powL x t).length = t := by simp [powL]

theorem vand_row (at_ vals : List Nat) (j : Nat) : rowL (at_.length + 1) (vand at_ vals) j = powL (at_.getD j 0) at_.length ++ [vals.getD j 0] := by
  unfold rowL powL
  rw [List.range_succ, List.map_append]
  congr 1
  · refine List.map_congr_left (fun k hk => ?_)
    unfold vand; rw [if_pos (List.mem_range.1 hk)]
  · simp [vand]

/-- A row divided, so far. -/
def scT (c v t : Nat) (M : Nat → Nat → Nat) : Nat → Nat → Nat := fun r k => if r = c ∧ k < t then gmul (M c k) v else M r k

theorem scT_zero (c v : Nat) (M : Nat → Nat → Nat) : scT c v 0 M = M := by funext r k; simp [scT]

theorem scT_at (c v t : Nat) (M : Nat → Nat → Nat) : scT c v t M c t = M c t := by simp [scT]

theorem scT_succ (c v t : Nat) (M : Nat → Nat → Nat) : setM c t (gmul (M c t) v) (scT c v t M) = scT c v (t + 1) M := by
  funext r k
  unfold setM scT
  by_cases h1 : r = c
  · by_cases h2 : k = t
    · rw [if_pos ⟨h1, h2⟩, if_pos ⟨h1, by omega⟩, h2]
    · rw [if_neg (fun h => h2 h.2)]
      by_cases h3 : k < t
      · rw [if_pos ⟨h1, h3⟩, if_pos ⟨h1, by omega⟩]
      · rw [if_neg (fun h => h3 h.2), if_neg (fun h => by omega)]
  · rw [if_neg (fun h => h1 h.1), if_neg (fun h => h1 h.1), if_neg (fun h => h1 h.1)]

theorem scT_all (c v n r k : Nat) (M : Nat → Nat → Nat) (hk : k < n) : scT c v n M r k = scaleM c v M r k := by
  unfold scT scaleM
  by_cases h1 : r = c
  · rw [if_pos ⟨h1, hk⟩, if_pos h1]
  · rw [if_neg (fun h => h1 h.1), if_neg h1]

/-- Rows that have been turned, so far. -/
def elT (c t s : Nat) (M : Nat → Nat → Nat) : Nat → Nat → Nat := fun r k => if r < t ∨ (r = t ∧ k < s) then elimM c M r k else M r k

theorem elT_zero (c : Nat) (M : Nat → Nat → Nat) : elT c 0 0 M = M := by funext r k; simp [elT]

theorem elT_at (c t s k : Nat) (M : Nat → Nat → Nat) (hk : s ≤ k) : elT c t s M t k = M t k := by
  unfold elT; rw [if_neg (by omega)]

theorem elim_c (c k : Nat) (M : Nat → Nat → Nat) : elimM c M c k = M c k := by simp [elimM]

theorem elT_c (c t s k : Nat) (M : Nat → Nat → Nat) : elT c t s M c k = M c k := by
  unfold elT; split
  · exact elim_c c k M
  · rfl

theorem elT_succ (c t s : Nat) (M : Nat → Nat → Nat) : setM t s (elimM c M t s) (elT c t s M) = elT c t (s + 1) M := by
  funext r k
  unfold setM elT
  by_cases h1 : r = t ∧ k = s
  · rw [if_pos h1, if_pos (by omega), h1.1, h1.2]
  · rw [if_neg h1]
    by_cases h2 : r < t ∨ (r = t ∧ k < s)
    · rw [if_pos h2, if_pos (by omega)]
    · rw [if_neg h2, if_neg (by omega)]

theorem elT_row (c t n r k : Nat) (M : Nat → Nat → Nat) (hk : k < n) : elT c t n M r k = elT c (t + 1) 0 M r k := by
  unfold elT
  by_cases h : r < t + 1
  · rw [if_pos (by omega), if_pos (by omega)]
  · rw [if_neg (by omega), if_neg (by omega)]

theorem elT_skip (c : Nat) (M : Nat → Nat → Nat) : elT c c 0 M = elT c (c + 1) 0 M := by
  funext r k
  by_cases h : r = c
  · subst h; rw [elT_c, elT_c]
  · unfold elT
    by_cases h2 : r < c
    · rw [if_pos (by omega), if_pos (by omega)]
    · rw [if_neg (by omega), if_neg (by omega)]

theorem elT_all (c n r k : Nat) (M : Nat → Nat → Nat) (hr : r < n) : elT c n 0 M r k = elimM c M r k := by
  unfold elT; rw [if_pos (by omega)]

theorem elim_at (c t k : Nat) (M : Nat → Nat → Nat) (h : t ≠ c) : M t k ^^^ gmul (M t c) (M c k) = elimM c M t k := by
  unfold elimM; rw [if_neg h]

theorem refMul_flip (a b : Nat) (ha : a < 256) (hb : b < 256) (w : World) :
    Calls Tryd.prog 70 #[.int .u8 (a : Int), .int .u8 (b : Int)] w fun e w' => e = .returned (.int .u8 ((gmul a b : Nat) : Int)) ∧ w' = w :=
  (refMul_any a b ha hb w).mono (fun _ _ h => ⟨h.1, h.2.symm⟩)

set_option maxRecDepth 100000 in
set_option maxHeartbeats 4000000 in
theorem refSolve_any (ao bo : Option Addr) (ca cb : Nat) (at_ vals : List Nat) (ha : Byt at_) (hd : at_.Nodup) (hv : Byt vals) (hl : vals.length = at_.length) (hn : at_.length ≤ 300) (w : World) (hr : Reads w ao at_) (hs : Reads w bo vals) :
    Calls Tryd.prog 46 #[.slice ao at_.length ca, .slice bo at_.length cb] w fun e w' => ∃ v, e = .returned v ∧ w'.ownsRow 0 5 1 v at_.length ((poly at_ vals).map U) ∧ (∀ j, v.ownBlock = some j → w.heap.size ≤ j) ∧ Below w.heap.size w w' := by
  obtain ⟨i8, hi8, hz80, hz81, hz82⟩ := info_parts info_u8
  obtain ⟨iR, hiR, hzR0, hzR1, hzR2⟩ := info_parts info_row
  have HA := Hid.intro ha
  have HD := Hid.intro hd
  have HV := Hid.intro hv
  have HL := Hid.intro hl
  have HR := Hid.intro hr
  have HS := Hid.intro hs
  clear ha hd hv hl hr hs
  obtain ⟨n, hnn⟩ : ∃ n, n = at_.length := ⟨_, rfl⟩
  have HN := Hid.intro hnn
  rw [← hnn] at hn ⊢
  clear hnn
  go_enter Tryd.func46, Tryd.ntmps46
  go_wp2_with fail
  go_loopw [6, 7] (fun m i wr => ∃ (j : Nat) (g cp : Nat → Nat), j ≤ n ∧ i = .int .i64 j ∧ Mat w.heap.size wr m j (n + 1) g cp (vand at_ vals) ∧ Below w.heap.size w wr) (fun _ i _ => n - (intOf i).toNat)
  case atStart => exact ⟨0, fun _ => 0, fun _ => 0, by omega, rfl, Mat.start _ _ _ _ _ _, Below.refl _ _⟩
  case round =>
    rename World => wo
    obtain ⟨j, g, cp, hj, rfl, MJ, BJ⟩ := hrel
    have MJH := Hid.intro MJ
    clear MJ
    by_cases hlt : j < n
    · have BJH := Hid.intro BJ
      clear BJ
      have hx := getD_byt HA.out j
      have hy := getD_byt HV.out j
      have ROWH := Hid.intro (vand_row at_ vals j)
      obtain ⟨ab, ao', e, hac⟩ := reads_at HR.out (by rw [← HN.out]; omega)
      subst e
      obtain ⟨bb, bo', e, hbc⟩ := reads_at HS.out (by rw [HL.out, ← HN.out]; omega)
      subst e
      have ca0 : w.cell? ⟨ab, ao' + j, none⟩ = some (U (at_.getD j 0)) := by
        rw [← List.getElem_eq_getD (h := by rw [← HN.out]; exact hlt) 0]; exact hac j (by rw [← HN.out]; exact hlt)
      have cb0 : w.cell? ⟨bb, bo' + j, none⟩ = some (U (vals.getD j 0)) := by
        rw [← List.getElem_eq_getD (h := by rw [HL.out, ← HN.out]; exact hlt) 0]; exact hbc j (by rw [HL.out, ← HN.out]; exact hlt)
      have CA := Hid.intro ca0
      have CB := Hid.intro cb0
      have i0 : (0 : Int) ≤ (j : Int) := by omega
      have i1 : (j : Int) < (n : Int) := by omega
      generalize at_.getD j 0 = x at hx CA ROWH
      generalize vals.getD j 0 = y at hy CB ROWH
      clear hac hbc ca0 cb0
      go_wp2_with fail
      go_loopw [8, 9] (fun v k ws => ∃ t : Nat, t ≤ n ∧ k = .int .i64 t ∧ ws.ownsRow 0 5 1 v t ((powL x t).map U) ∧ (∀ q, v.ownBlock = some q → wo.heap.size ≤ q) ∧ Below wo.heap.size wo ws) (fun _ k _ => n - (intOf k).toNat)
      case atStart => exact ⟨0, by omega, rfl, World.ownsRow_nil _ _ _ _, nil_own _, Below.refl _ _⟩
      case round =>
        obtain ⟨t, ht, rfl, RT, NT, BT⟩ := hrel
        have RTH := Hid.intro RT
        have NTH := Hid.intro NT
        clear RT NT
        by_cases htl : t < n
        · have c1 : wr.cell? ⟨ab, ao' + j, none⟩ = some (U x) := (BT.cell (Nat.lt_of_lt_of_le (cell_lt CA.out) BJH.out.size)).trans ((BJH.out.cell (cell_lt CA.out)).trans CA.out)
          have hp := gpow_lt hx t
          have HP := Hid.intro (fun w => refPow_nat x t hx (by omega) w)
          have TS := Hid.intro (powL_succ x t)
          generalize gpow x t = P at hp HP TS
          have R6H := Hid.intro (RTH.out.alloc (.cells #[U P] 5))
          have i2 : (t : Int) < (n : Int) := by omega
          go_wp2_with fail
          refine (HP.out _).mono ?_
          rintro e1 w1 ⟨rfl, rfl⟩
          clear HP
          go_wp2_with (at_builtin; refine wpList_append_lies _ rfl _ _ 37 rfl 0 5 i8 (.int .u8 0) 1 1 Tryd.underlying37 hi8 hz80 hz81 hz82 rfl (by decide) u8 _ _ rfl R6H.out ⟨wr.heap.size, 0, none⟩ 1 1 [U P] rfl rfl (World.news_of_block (cs := #[U P]) (t := 5) (fr := (0, 0)) (heap_alloc_new wr _)) (by simp [Value.oneCell', U]) (by decide) (by unfold maxLen; omega) (by omega) (Nat.zero_le _) (wr.heap.size + 1) (by simp) ?_)
          intro g7 cp7 w7 hown hgrow hat hgl
          have C7 : Chg (fun q => u8.ownBlock = some q) wr w7 := ((Chg.refl _ _).alloc _).grown hgrow (fun q hq _ => hq)
          have B7 := BT.trans (C7.below BT.size (fun q hq => NTH.out q hq))
          have N7 : ∀ q, (Value.slice (some ⟨g7, 0, none⟩) (t + 1) cp7).ownBlock = some q → wo.heap.size ≤ q := by
            intro q hq
            have e : g7 = q := by simpa [Value.ownBlock] using hq
            subst e
            rcases hat with hat | hat
            · exact NTH.out g7 hat
            · have := BT.size; omega
          have R7 : w7.ownsRow 0 5 1 (.slice (some ⟨g7, 0, none⟩) (t + 1) cp7) (t + 1) ((powL x (t + 1)).map U) := by
            rw [TS.out, List.map_append]; exact hown
          have R7H := Hid.intro R7
          have N7H := Hid.intro N7
          clear hown hgrow hat R7 N7 C7 BT R6H NTH RTH
          go_wp2
          go_roundw
          case rel => exact ⟨t + 1, by omega, by go_num, R7H.out, N7H.out, B7⟩
          case measure => simp [intOf]; omega
        · have hte : t = n := by omega
          subst hte
          have c1 : wr.cell? ⟨bb, bo' + j, none⟩ = some (U y) := (BT.cell (Nat.lt_of_lt_of_le (cell_lt CB.out) BJH.out.size)).trans ((BJH.out.cell (cell_lt CB.out)).trans CB.out)
          have R6H := Hid.intro (RTH.out.alloc (.cells #[U y] 5))
          have i2 : ¬ (t : Int) < (t : Int) := by omega
          go_wp2_with (at_builtin; refine wpList_append_lies _ rfl _ _ 37 rfl 0 5 i8 (.int .u8 0) 1 1 Tryd.underlying37 hi8 hz80 hz81 hz82 rfl (by decide) u8 _ _ rfl R6H.out ⟨wr.heap.size, 0, none⟩ 1 1 [U y] rfl rfl (World.news_of_block (cs := #[U y]) (t := 5) (fr := (0, 0)) (heap_alloc_new wr _)) (by simp [Value.oneCell', U]) (by decide) (by unfold maxLen; omega) (by omega) (Nat.zero_le _) (wr.heap.size + 1) (by simp) ?_)
          intro g7 cp7 w7 hown hgrow hat hgl
          have C7 : Chg (fun q => u8.ownBlock = some q) wr w7 := ((Chg.refl _ _).alloc _).grown hgrow (fun q hq _ => hq)
          have B7 := BT.trans (C7.below BT.size (fun q hq => NTH.out q hq))
          have N7 : wo.heap.size ≤ g7 := by
            rcases hat with hat | hat
            · exact NTH.out g7 hat
            · have := BT.size; omega
          have R7 : w7.ownsRow 0 5 1 (.slice (some ⟨g7, 0, none⟩) (t + 1) cp7) (t + 1) ((rowL (t + 1) (vand at_ vals) j).map U) := by
            rw [HN.out, ROWH.out, List.map_append, ← HN.out]; exact hown
          have M7 := MJH.out.kept (below_chg B7) (fun _ _ => id) (fun _ _ => id)
          have AP : ∀ r, r < j → g r ≠ g7 := fun r hr e => by
            have : g r < wo.heap.size := ownsRow_lt (MJH.out.row r hr) rfl
            omega
          have B7w : Below w.heap.size w w7 := BJH.out.trans ((below_chg B7).below BJH.out.size (fun _ f => f.elim))
          have R8H := Hid.intro (M7.top.alloc (.cells #[.slice (some ⟨g7, 0, none⟩) (t + 1) cp7] 37))
          have N7w : w.heap.size ≤ g7 := Nat.le_trans BJH.out.size N7
          have M7H := Hid.intro M7
          have R7H := Hid.intro R7
          have APH := Hid.intro AP
          clear hown hgrow hat R7 M7 AP C7 BT B7 R6H NTH RTH c1 CA CB BJH
          go_wp2_with (at_builtin; refine wpList_append_lies _ rfl _ _ 52 rfl 0 37 iR (.slice none 0 0) 1 24 Tryd.underlying52 hiR hzR0 hzR1 hzR2 rfl (by decide) u6 j _ rfl R8H.out ⟨w7.heap.size, 0, none⟩ 1 1 [.slice (some ⟨g7, 0, none⟩) (t + 1) cp7] rfl rfl (World.news_of_block (cs := #[.slice (some ⟨g7, 0, none⟩) (t + 1) cp7]) (t := 37) (fr := (0, 0)) (heap_alloc_new w7 _)) (by simp [Value.oneCell']) (by decide) (by unfold maxLen; omega) (by omega) (Nat.zero_le _) (w7.heap.size + 1) (by simp) ?_)
          intro g9 cp9 w9 hown9 hgrow9 hat9 hgl9
          have C9 : Chg (fun q => u6.ownBlock = some q) w7 w9 := ((Chg.refl _ _).alloc _).grown hgrow9 (fun q hq _ => hq)
          have M9 := M7H.out.push R7H.out N7w APH.out hown9 C9 (fun k hk => by
            have e : g9 = k := by simpa [Value.ownBlock] using hk
            subst e
            rcases hat9 with hat9 | hat9
            · exact M7H.out.newTop _ hat9
            · have := B7w.size; omega)
          have B9 := B7w.trans (C9.below B7w.size (fun q hq => M7H.out.newTop q hq))
          have M9H := Hid.intro M9
          clear hown9 hgrow9 hat9 M9 C9 M7H R7H APH R8H MJH
          go_wp2
          go_roundw
          case rel => exact ⟨j + 1, _, _, by omega, by go_num, M9H.out, B9⟩
          case measure => simp [intOf]; omega
    · have hje : n = j := by omega
      subst hje
      have i1 : ¬ (n : Int) < (n : Int) := by omega
      have ESH := Hid.intro (Elim.start HA.out HV.out)
      go_wp2_with fail
      go_loopw [10] (fun c ws => ∃ (k : Nat) (g cp : Nat → Nat) (M : Nat → Nat → Nat), k ≤ n ∧ c = .int .i64 k ∧ Mat w.heap.size ws u6 n (n + 1) g cp M ∧ Elim at_ vals M k ∧ Below w.heap.size w ws) (fun c _ => n - (intOf c).toNat)
      case atStart => exact ⟨0, g, cp, _, by omega, rfl, MJH.out, ESH.out, BJ⟩
      case round =>
        rename World => wc
        clear ESH MJH BJ
        obtain ⟨c, g1, cp1, M, hc, rfl, MC, EC, BC⟩ := hrel
        by_cases hcn : c < n
        · obtain ⟨mb, mc, e⟩ := MC.form (by omega)
          subst e
          have MCH := Hid.intro MC
          have ECH := Hid.intro EC
          have BCH := Hid.intro BC
          clear MC EC BC
          have c0 : (0 : Int) ≤ (c : Int) := by omega
          have c1 : (c : Int) < (n : Int) := by omega
          have c2 : (c : Int) < (n : Int) + 1 := by omega
          go_wp2_with fail
          go_loop [11] (fun p => ∃ q : Nat, c ≤ q ∧ q ≤ n ∧ p = .int .i64 q ∧ ∀ s, c ≤ s → s < q → M s c = 0) (fun p => n - (intOf p).toNat)
          case atStart => exact ⟨c, by omega, by omega, rfl, fun s h1 h2 => absurd h1 (by omega)⟩
          case round =>
            obtain ⟨q, hq1, hq2, rfl, hz⟩ := hrel
            have HZ := Hid.intro hz
            clear hz
            by_cases hqn : q < n
            · have ct := MCH.out.cellTop hqn
              have cr := MCH.out.cellRow hqn (k := c) (by omega)
              have q0 : (0 : Int) ≤ (q : Int) := by omega
              have q1 : (q : Int) < (n : Int) := by omega
              have hb := ECH.out.byt q c
              by_cases h0 : M q c = 0
              · rw [h0] at cr
                have H0 := Hid.intro h0
                clear h0 hb
                go_wp2
                go_round
                case rel => exact ⟨q + 1, by omega, by omega, by go_num, fun s h1 h2 => by
                  by_cases e : s = q
                  · rw [e]; exact H0.out
                  · exact HZ.out s h1 (by omega)⟩
                case measure => simp [intOf]; omega
              · have hz1 : (((M q c : Nat) : Int) == 0) = false := by simp; omega
                have hpc : ((q : Int) == (n : Int)) = false := by simp; omega
                have H0 := Hid.intro h0
                clear h0 HZ
                go_wp2_with fail
                have ctc := MCH.out.cellTop hcn
                have fc := MCH.out.frozenTop c
                have fq := MCH.out.frozenTop q
                obtain ⟨x2, cs2⟩ : ∃ x2, (wc.setCell ⟨mb, c, none⟩ (.slice (some ⟨g1 q, 0, none⟩) (n + 1) (cp1 q))).cell? ⟨mb, q, none⟩ = some x2 := by
                  by_cases e : c = q
                  · subst e; exact ⟨_, World.cell?_setCell_same _ _ _ ctc⟩
                  · exact ⟨_, (World.cell?_setCell_other _ _ _ _ (fun h => e (congrArg Addr.off h))).trans ct⟩
                have MS := (MCH.out.swap hcn hqn).drew
                have BS : Below w.heap.size w ((wc.setCell ⟨mb, c, none⟩ (.slice (some ⟨g1 q, 0, none⟩) (n + 1) (cp1 q))).setCell ⟨mb, q, none⟩ (.slice (some ⟨g1 c, 0, none⟩) (n + 1) (cp1 c))).drew :=
                  ((BCH.out.setCell (p := ⟨mb, c, none⟩) (MCH.out.newTop mb rfl) _).setCell (p := ⟨mb, q, none⟩) (MCH.out.newTop mb rfl) _).drew
                obtain ⟨M1, hM1⟩ : ∃ M1, M1 = swapM c q M := ⟨_, rfl⟩
                have hcc : M1 c c = M q c := by rw [hM1]; simp [swapM]
                have hby : ∀ r k, M1 r k < 256 := fun r k => by rw [hM1]; exact ECH.out.byt.swap c q r k
                have HSTEP := Hid.intro (show stepM c q M = elimM c (scaleM c (ginv (M1 c c)) M1) by rw [hcc, hM1]; rfl)
                have HNEXT := Hid.intro (ECH.out.step hq1 (by rw [← HN.out]; exact hqn) H0.out)
                rw [← hM1] at MS
                have MSH := Hid.intro MS
                have BSH := Hid.intro BS
                have HBY := Hid.intro hby
                clear MS BS hM1 hcc hby
                go_region
                generalize ((wc.setCell ⟨mb, c, none⟩ (.slice (some ⟨g1 q, 0, none⟩) (n + 1) (cp1 q))).setCell ⟨mb, q, none⟩ (.slice (some ⟨g1 c, 0, none⟩) (n + 1) (cp1 c))).drew = w2 at MSH BSH ⊢
                generalize sw c q g1 = g2 at MSH
                generalize sw c q cp1 = cp2 at MSH
                clear ct cr hb hz1 ctc fc fq cs2 MCH ECH BCH H0
                have ct := MSH.out.cellTop hcn
                have cr := MSH.out.cellRow hcn (k := c) (by omega)
                have hb := HBY.out c c
                have HI := Hid.intro (fun w => refInv_any (M1 c c) hb w)
                have hv := ginv_lt (M1 c c)
                generalize ginv (M1 c c) = v at HI hv HSTEP
                go_wp2_with fail
                refine (HI.out _).mono ?_
                rintro e1 w1 ⟨rfl, rfl⟩
                clear HI ct cr hb
                go_wp2_with fail
                go_loopw [13] (fun k ws => ∃ t : Nat, t ≤ n + 1 ∧ k = .int .i64 t ∧ Mat w.heap.size ws (.slice (some ⟨mb, 0, none⟩) n mc) n (n + 1) g2 cp2 (scT c v t M1) ∧ Below w.heap.size w ws) (fun k _ => n + 1 - (intOf k).toNat)
                case atStart => exact ⟨0, by omega, rfl, by rw [scT_zero]; exact MSH.out, BSH.out⟩
                case round =>
                  rename World => wk
                  clear MSH BSH
                  obtain ⟨t, ht, rfl, MK, BK⟩ := hrel
                  by_cases htl : t < n + 1
                  · have ct := MK.cellTop hcn
                    have cr := MK.cellRow hcn htl
                    rw [scT_at] at cr
                    have fr := MK.frozenRow hcn t
                    have hb := HBY.out c t
                    have HM := Hid.intro (fun w => refMul_flip (M1 c t) v hb hv w)
                    have MN := (MK.set (r := c) (k := t) (v := gmul (M1 c t) v) hcn).drew
                    rw [scT_succ] at MN
                    have BN := (BK.setCell (p := ⟨g2 c, t, none⟩) (MK.newRow c hcn) (U (gmul (M1 c t) v))).drew
                    have hG := gmul_lt hb v
                    generalize gmul (M1 c t) v = G at HM MN BN hG
                    generalize M1 c t = b at cr HM hb
                    have MNH := Hid.intro MN
                    have BNH := Hid.intro BN
                    have t0 : (0 : Int) ≤ (t : Int) := by omega
                    have t1 : (t : Int) < (n : Int) + 1 := by omega
                    have t2 : (t : Int) ≤ (n : Int) := by omega
                    have t3 : t ≤ n := by omega
                    clear MK BK MN BN
                    go_wp2_with fail
                    refine wp_region_still_tail 15 (by kernel_rfl) (by kernel_rfl) ?_
                    simp only [List.take_succ_cons, List.take_zero, List.drop_succ_cons, List.drop_zero]
                    change wpStill _ _ wk.drew _ _ _
                    iterate 13 still_step
                    still_call (HM.out _)
                    still_step
                    refine wpStill_nil ?_
                    go_wp2
                    go_roundw
                    case rel => exact ⟨t + 1, by omega, by go_num, MNH.out, BNH.out⟩
                    case measure => simp [intOf]; omega
                  · have hte : t = n + 1 := by omega
                    subst hte
                    have M2 := MK.congr (N := scaleM c v M1) (fun r k _ hk => scT_all c v (n + 1) r k M1 hk)
                    obtain ⟨N, hN⟩ : ∃ N, N = scaleM c v M1 := ⟨_, rfl⟩
                    have hby : ∀ r k, N r k < 256 := fun r k => by rw [hN]; exact Bm.scale (fun r k => HBY.out r k) c v r k
                    rw [← hN] at M2
                    have HSTEP2 := Hid.intro (show stepM c q M = elimM c N by rw [hN]; exact HSTEP.out)
                    have HBN := Hid.intro hby
                    have M2H := Hid.intro M2
                    have BKH := Hid.intro BK
                    have t2 : ¬ ((n + 1 : Nat) : Int) ≤ (n : Int) := by omega
                    have t3 : ¬ n + 1 ≤ n := by omega
                    clear M2 BK MK hN hby HSTEP HBY hv
                    go_wp2_with fail
                    go_loopw [14] (fun r ws => ∃ t : Nat, t ≤ n ∧ r = .int .i64 t ∧ Mat w.heap.size ws (.slice (some ⟨mb, 0, none⟩) n mc) n (n + 1) g2 cp2 (elT c t 0 N) ∧ Below w.heap.size w ws) (fun r _ => n - (intOf r).toNat)
                    case atStart => exact ⟨0, by omega, rfl, by rw [elT_zero]; exact M2H.out, BKH.out⟩
                    case round =>
                      rename World => wx
                      clear M2H BKH
                      obtain ⟨t, ht, rfl, MX, BX⟩ := hrel
                      have MXH := Hid.intro MX
                      have BXH := Hid.intro BX
                      clear MX BX
                      by_cases htl : t < n
                      · have ct := MXH.out.cellTop htl
                        have cr := MXH.out.cellRow htl (k := c) (by omega)
                        rw [elT_at c t 0 c N (by omega)] at cr
                        have hf := HBN.out t c
                        have HF := Hid.intro (show N t c = N t c from rfl)
                        have t0 : (0 : Int) ≤ (t : Int) := by omega
                        have t1 : (t : Int) < (n : Int) := by omega
                        by_cases htc : t = c
                        · subst htc
                          have n0 : (0 : Int) ≤ (n : Int) := by omega
                          have MS := MXH.out
                          rw [elT_skip] at MS
                          have MSH := Hid.intro MS
                          clear MS MXH
                          go_wp2_with fail
                          go_loop [16] (fun k => k = .int .i64 0) (fun _ => 0)
                          case atStart => rfl
                          case round =>
                            subst hrel
                            clear ct cr
                            go_wp2
                            go_roundw
                            case rel => exact ⟨t + 1, by omega, by go_num, MSH.out, BXH.out⟩
                            case measure => simp [intOf]; omega
                        · have HE := Hid.intro (fun s => elim_at c t s N htc)
                          obtain ⟨f, hfe⟩ : ∃ f, f = N t c := ⟨_, rfl⟩
                          rw [← hfe] at HE cr hf
                          have tc1 : ((t : Int) == (c : Int)) = false := by simp; omega
                          have tc2 : ¬ (t : Int) = (c : Int) := by omega
                          have tc3 : ¬ (c : Int) = (t : Int) := by omega
                          have tc4 : ¬ c = t := by omega
                          clear hfe HF
                          go_wp2_with fail
                          go_loopw [16] (fun k ws => ∃ s : Nat, s ≤ n + 1 ∧ k = .int .i64 s ∧ Mat w.heap.size ws (.slice (some ⟨mb, 0, none⟩) n mc) n (n + 1) g2 cp2 (elT c t s N) ∧ Below w.heap.size w ws) (fun k _ => n + 1 - (intOf k).toNat)
                          case atStart => exact ⟨0, by omega, rfl, MXH.out, BXH.out⟩
                          case round =>
                            rename World => wy
                            clear MXH BXH ct cr
                            obtain ⟨s, hs, rfl, MY, BY⟩ := hrel
                            by_cases hsl : s < n + 1
                            · have ct := MY.cellTop htl
                              have cr := MY.cellRow htl hsl
                              rw [elT_at c t s s N (Nat.le_refl _)] at cr
                              have ctc := MY.cellTop hcn
                              have crc := MY.cellRow hcn hsl
                              rw [elT_c] at crc
                              have fr := MY.frozenRow htl s
                              have hb := HBN.out t s
                              have hd := HBN.out c s
                              have HM := Hid.intro (fun w => refMul_flip f (N c s) hf hd w)
                              have MN := (MY.set (r := t) (k := s) (v := elimM c N t s) htl).drew
                              rw [elT_succ] at MN
                              have BN := (BY.setCell (p := ⟨g2 t, s, none⟩) (MY.newRow t htl) (U (elimM c N t s))).drew
                              have hG := gmul_lt hf (N c s)
                              have hx8 := u8_xor_nat (N t s) (gmul f (N c s)) hb hG
                              rw [HE.out s] at hx8
                              generalize elimM c N t s = E at MN BN hx8
                              generalize gmul f (N c s) = G at HM hG hx8
                              generalize N t s = b at cr hb hx8
                              generalize N c s = d at crc hd HM
                              have MNH := Hid.intro MN
                              have BNH := Hid.intro BN
                              have s0 : (0 : Int) ≤ (s : Int) := by omega
                              have s1 : (s : Int) < (n : Int) + 1 := by omega
                              have s2 : (s : Int) ≤ (n : Int) := by omega
                              have s3 : s ≤ n := by omega
                              clear MY BY MN BN
                              go_wp2_with fail
                              refine wp_region_still_tail 23 (by kernel_rfl) (by kernel_rfl) ?_
                              simp only [List.take_succ_cons, List.take_zero, List.drop_succ_cons, List.drop_zero]
                              change wpStill _ _ wy.drew _ _ _
                              iterate 20 still_step
                              still_call (HM.out _)
                              iterate 2 still_step
                              refine wpStill_nil ?_
                              go_wp2
                              go_roundw
                              case rel => exact ⟨s + 1, by omega, by go_num, MNH.out, BNH.out⟩
                              case measure => simp [intOf]; omega
                            · have hse : s = n + 1 := by omega
                              subst hse
                              have MN := MY.congr (N := elT c (t + 1) 0 N) (fun r k _ hk => elT_row c t (n + 1) r k N hk)
                              have MNH := Hid.intro MN
                              have BNH := Hid.intro BY
                              have s2 : ¬ ((n + 1 : Nat) : Int) ≤ (n : Int) := by omega
                              have s3 : ¬ n + 1 ≤ n := by omega
                              clear MY BY MN
                              go_wp2
                              go_roundw
                              case rel => exact ⟨t + 1, by omega, by go_num, MNH.out, BNH.out⟩
                              case measure => simp [intOf]; omega
                      · have hte : n = t := by omega
                        subst hte
                        have MN := MXH.out.congr (N := stepM c q M) (fun r k hr _ => by rw [HSTEP2.out]; exact elT_all c n r k N hr)
                        have MNH := Hid.intro MN
                        clear MN MXH
                        go_wp2
                        go_roundw
                        case rel => exact ⟨c + 1, g2, cp2, _, by omega, by go_num, MNH.out, HNEXT.out, BXH.out⟩
                        case measure => simp [intOf]; omega
            · obtain ⟨p, h1, h2, h3⟩ := ECH.out.pivot HA.out HD.out (by rw [← HN.out]; exact hcn)
              exact absurd (HZ.out p h1 (by rw [← HN.out] at h2; omega)) h3
        · have hce : n = c := by omega
          subst hce
          have EN := EC
          rw [HN.out] at EN
          have DONE := EN.done HA.out HD.out HV.out HL.out
          rw [← HN.out] at DONE
          have DH := Hid.intro DONE
          have HBM := Hid.intro EC.byt
          have MCH := Hid.intro MC
          have BCH := Hid.intro BC
          clear EN EC MC BC DONE
          go_wp2_with fail
          go_loopw [17, 18] (fun v k ws => ∃ t : Nat, t ≤ n ∧ k = .int .i64 t ∧ ws.ownsRow 0 5 1 v t (((List.range t).map (fun r => M r n)).map U) ∧ (∀ q, v.ownBlock = some q → wc.heap.size ≤ q) ∧ Below wc.heap.size wc ws) (fun _ k _ => n - (intOf k).toNat)
          case atStart => exact ⟨0, by omega, rfl, World.ownsRow_nil _ _ _ _, nil_own _, Below.refl _ _⟩
          case round =>
            obtain ⟨t, ht, rfl, RT, NT, BT⟩ := hrel
            have RTH := Hid.intro RT
            have NTH := Hid.intro NT
            clear RT NT
            by_cases htl : t < n
            · have MT := MCH.out.kept (below_chg BT) (fun _ _ => id) (fun _ _ => id)
              obtain ⟨mb, mc, e⟩ := MT.form (by omega)
              subst e
              have ct := MT.cellTop htl
              have cr := MT.cellRow htl (k := n) (by omega)
              have hb := HBM.out t n
              have TS := Hid.intro (show (List.range (t + 1)).map (fun r => M r n) = (List.range t).map (fun r => M r n) ++ [M t n] by simp [List.range_succ])
              generalize M t n = P at cr hb TS
              have R6H := Hid.intro (RTH.out.alloc (.cells #[U P] 5))
              have t0 : (0 : Int) ≤ (t : Int) := by omega
              have t1 : (t : Int) < (n : Int) := by omega
              have t2 : (n : Int) < (n : Int) + 1 := by omega
              have t3 : (0 : Int) ≤ (n : Int) := by omega
              clear MT
              go_wp2_with (at_builtin; refine wpList_append_lies _ rfl _ _ 37 rfl 0 5 i8 (.int .u8 0) 1 1 Tryd.underlying37 hi8 hz80 hz81 hz82 rfl (by decide) u17 _ _ rfl R6H.out ⟨wr.heap.size, 0, none⟩ 1 1 [U P] rfl rfl (World.news_of_block (cs := #[U P]) (t := 5) (fr := (0, 0)) (heap_alloc_new wr _)) (by simp [Value.oneCell', U]) (by decide) (by unfold maxLen; omega) (by omega) (Nat.zero_le _) (wr.heap.size + 1) (by simp) ?_)
              intro g7 cp7 w7 hown hgrow hat hgl
              have C7 : Chg (fun q => u17.ownBlock = some q) wr w7 := ((Chg.refl _ _).alloc _).grown hgrow (fun q hq _ => hq)
              have B7 := BT.trans (C7.below BT.size (fun q hq => NTH.out q hq))
              have N7 : ∀ q, (Value.slice (some ⟨g7, 0, none⟩) (t + 1) cp7).ownBlock = some q → wc.heap.size ≤ q := by
                intro q hq
                have e : g7 = q := by simpa [Value.ownBlock] using hq
                subst e
                rcases hat with hat | hat
                · exact NTH.out g7 hat
                · have := BT.size; omega
              have R7 : w7.ownsRow 0 5 1 (.slice (some ⟨g7, 0, none⟩) (t + 1) cp7) (t + 1) (((List.range (t + 1)).map (fun r => M r n)).map U) := by
                rw [TS.out, List.map_append, List.map_map]; exact hown
              have R7H := Hid.intro R7
              have N7H := Hid.intro N7
              clear hown hgrow hat R7 N7 C7 BT R6H NTH RTH ct cr
              go_wp2
              go_roundw
              case rel => exact ⟨t + 1, by omega, by go_num, R7H.out, N7H.out, B7⟩
              case measure => simp [intOf]; omega
            · have hte : n = t := by omega
              subst hte
              have RL := RTH.out
              rw [DH.out] at RL
              have RLH := Hid.intro RL
              have BL : Below w.heap.size w wr := BCH.out.trans ((below_chg BT).below BCH.out.size (fun _ f => f.elim))
              clear RL RTH BT
              go_wp2
              go_ret
              exact ⟨_, rfl, RLH.out, fun q hq => Nat.le_trans BCH.out.size (NTH.out q hq), BL⟩

end Go.Proofs.YteacdckfnmjojaaDoor

/- The contract of the document's own Value of layer 5: what a polynomial is at a byte. -/
namespace Go.Proofs.YteacdckfnmjojaaDoor
open Go.RowKit
open Bt

/-- So far. -/
def vsum (l : List Nat) (x k : Nat) : Nat := fs k (fun i => gmul (l.getD i 0) (gpow x i))

theorem vsum_lt {l : List Nat} (hl : Byt l) (x k : Nat) : vsum l x k < 256 := fs_lt (fun i _ => gmul_lt (getD_byt hl i) _)

theorem vsum_all {l : List Nat} (hl : Byt l) {x : Nat} (hx : x < 256) : vsum l x l.length = pev l x := by
  have e : vsum l x l.length = fs l.length (fun i => gmul (gpow x i) (l.getD i 0)) :=
    fs_congr (fun i _ => gmul_comm (getD_byt hl i) (gpow_lt hx i))
  rw [e, fs_pev hx _ (getD_byt hl)]
  congr 1
  apply List.ext_getElem
  · simp
  · intro k h1 h2
    rw [List.getElem_map, List.getElem_range, ← List.getElem_eq_getD (h := h2) 0]

set_option maxRecDepth 100000 in
set_option maxHeartbeats 1000000 in
theorem refValue_any (ao : Option Addr) (cap : Nat) (l : List Nat) (hl : Byt l) (hn : l.length ≤ 300) (x : Nat) (hx : x < 256) (w : World) (hr : Reads w ao l) :
    Calls Tryd.prog 47 #[.slice ao l.length cap, .int .u8 (x : Int)] w fun e w' => e = .returned (.int .u8 ((pev l x : Nat) : Int)) ∧ ∃ q, w' = w.drewN q := by
  obtain ⟨R, hR⟩ : ∃ R, R = pev l x := ⟨_, rfl⟩
  rw [← hR]
  have HRR := Hid.intro hR
  have HR := Hid.intro hr
  have HL := Hid.intro hl
  clear hR hr hl
  go_enter Tryd.func47, Tryd.ntmps47
  go_wp2_with fail
  go_loopw [5, 6] (fun p i wr => ∃ k : Nat, k ≤ l.length ∧ i = .int .i64 k ∧ p = .int .u8 ((vsum l x k : Nat) : Int) ∧ ∃ q, wr = w.drewN q) (fun _ i _ => l.length - (intOf i).toNat)
  case atStart => exact ⟨0, by omega, rfl, rfl, 0, rfl⟩
  case round =>
    obtain ⟨k, hk, rfl, rfl, q, rfl⟩ := hrel
    have hv := vsum_lt HL.out x k
    by_cases hlt : k < l.length
    · obtain ⟨bb, off, e, hc⟩ := reads_at HR.out (by omega)
      subst e
      have c1 : w.cell? ⟨bb, off + k, none⟩ = some (U (l.getD k 0)) := by
        rw [← List.getElem_eq_getD (h := hlt) 0]; exact hc k hlt
      have hb := getD_byt HL.out k
      have hs : vsum l x (k + 1) = vsum l x k ^^^ gmul (l.getD k 0) (gpow x k) := rfl
      have hp := gpow_lt hx k
      have HP := Hid.intro (fun w => (refPow_nat x k hx (by omega) w).mono (fun _ _ h => ⟨h.1, h.2.symm⟩ : ∀ e w', _ → e = Ending.returned (.int .u8 ((gpow x k : Nat) : Int)) ∧ w' = w))
      generalize gpow x k = P at hs hp HP
      generalize l.getD k 0 = b at c1 hb hs
      have HM := Hid.intro (fun w => (refMul_any b P hb hp w).mono (fun _ _ h => ⟨h.1, h.2.symm⟩ : ∀ e w', _ → e = Ending.returned (.int .u8 ((gmul b P : Nat) : Int)) ∧ w' = w))
      have hm := gmul_lt hb P
      generalize gmul b P = G at HM hm hs
      have hx8 := u8_xor_nat _ G hv hm
      rw [← hs] at hx8
      obtain ⟨V1, hV1⟩ : ∃ V1, V1 = vsum l x (k + 1) := ⟨_, rfl⟩
      rw [← hV1] at hx8
      have HV1 := Hid.intro hV1
      generalize vsum l x k = V at hv hx8 ⊢
      have i0 : (0 : Int) ≤ (k : Int) := by omega
      have i1 : (k : Int) < (l.length : Int) := by omega
      clear hs hV1 hc
      go_wp2_with fail
      refine wp_region_still_tail 10 (by kernel_rfl) (by kernel_rfl) ?_
      simp only [List.take_succ_cons, List.take_zero, List.drop_succ_cons, List.drop_zero]
      change wpStill _ _ (w.drewN q).drew _ _ _
      iterate 7 still_step
      still_call (HP.out _)
      still_call (HM.out _)
      still_step
      refine wpStill_nil ?_
      go_wp2
      go_roundw
      case rel => exact ⟨k + 1, by omega, by go_num, by rw [← HV1.out], q + 1, rfl⟩
      case measure => simp [intOf]; omega
    · have hke : k = l.length := by omega
      subst hke
      have e := vsum_all HL.out hx
      rw [← HRR.out] at e
      rw [e]
      clear HRR hv e
      go_wp2
      go_ret
      exact ⟨rfl, q, rfl⟩

end Go.Proofs.YteacdckfnmjojaaDoor

/- Contracts of the document's own May of layer 5. -/
namespace Go.Proofs.YteacdckfnmjojaaDoor
open Go.RowKit
open Bt

set_option maxRecDepth 100000 in
set_option maxHeartbeats 1000000 in
theorem refMay_any (k n s : Int) (w : World) :
    Calls Tryd.prog 30 #[Cd k n s] w fun e w' => e = .returned (.bool (mayC k n s)) ∧ Below w.heap.size w w' := by
  obtain ⟨R, hR⟩ : ∃ R, R = mayC k n s := ⟨_, rfl⟩
  rw [← hR]
  have HR := Hid.intro hR
  clear hR
  by_cases h1 : 1 ≤ k
  · by_cases h2 : k ≤ 6
    · by_cases h3 : k ≤ n
      · by_cases h4 : n ≤ 10
        · by_cases h5 : 1 ≤ s
          · by_cases h6 : s ≤ 24
            · have e : R = true := by rw [HR.out]; simp [mayC, h1, h2, h3, h4, h5, h6]
              subst e
              clear HR
              go_enter Tryd.func30, Tryd.ntmps30
              go_wp2
              go_ret
              exact ⟨rfl, (Below.refl _ _).alloc (Nat.le_refl _) _⟩
            · have e : R = false := by rw [HR.out]; exact mayC_false (by omega)
              subst e
              clear HR
              go_enter Tryd.func30, Tryd.ntmps30
              go_wp2
              go_ret
              exact ⟨rfl, (Below.refl _ _).alloc (Nat.le_refl _) _⟩
          · have e : R = false := by rw [HR.out]; exact mayC_false (by omega)
            subst e
            clear HR
            go_enter Tryd.func30, Tryd.ntmps30
            go_wp2
            go_ret
            exact ⟨rfl, (Below.refl _ _).alloc (Nat.le_refl _) _⟩
        · have e : R = false := by rw [HR.out]; exact mayC_false (by omega)
          subst e
          clear HR
          go_enter Tryd.func30, Tryd.ntmps30
          go_wp2
          go_ret
          exact ⟨rfl, (Below.refl _ _).alloc (Nat.le_refl _) _⟩
      · have e : R = false := by rw [HR.out]; exact mayC_false (by omega)
        subst e
        clear HR
        go_enter Tryd.func30, Tryd.ntmps30
        go_wp2
        go_ret
        exact ⟨rfl, (Below.refl _ _).alloc (Nat.le_refl _) _⟩
    · have e : R = false := by rw [HR.out]; exact mayC_false (by omega)
      subst e
      clear HR
      go_enter Tryd.func30, Tryd.ntmps30
      go_wp2
      go_ret
      exact ⟨rfl, (Below.refl _ _).alloc (Nat.le_refl _) _⟩
  · have e : R = false := by rw [HR.out]; exact mayC_false (by omega)
    subst e
    clear HR
    go_enter Tryd.func30, Tryd.ntmps30
    go_wp2
    go_ret
    exact ⟨rfl, (Below.refl _ _).alloc (Nat.le_refl _) _⟩

end Go.Proofs.YteacdckfnmjojaaDoor

/- The contract of the document's own Encode of layer 5, where it has shards. -/
namespace Go.Proofs.YteacdckfnmjojaaDoor
open Go.RowKit
open Bt

set_option maxRecDepth 100000 in
set_option maxHeartbeats 4000000 in
theorem refEncode_ok (K N S : Nat) (hmay : mayC K N S = true) (ao : Option Addr) (cap : Nat) (text : List Nat) (ht : Byt text) (hl : text.length = K * S) (w : World) (hr : Reads w ao text) :
    Calls Tryd.prog 27 #[Cd K N S, .slice ao text.length cap] w fun e w' => ∃ mb mc vs, e = .returned (.tuple #[.slice (some ⟨mb, 0, none⟩) N mc, .int .i64 0]) ∧ Rag w.heap.size w' mb N mc vs (shL K S text S) ∧ Below w.heap.size w w' := by
  obtain ⟨i8, hi8, hz80, hz81, hz82⟩ := info_parts info_u8
  obtain ⟨iR, hiR, hzR0, hzR1, hzR2⟩ := info_parts info_row
  obtain ⟨h1, h2, h3, h4, h5, h6⟩ := mayC_true hmay
  have HM := Hid.intro (fun w => refMay_any K N S w)
  rw [hmay] at HM
  have HR := Hid.intro hr
  have HT := Hid.intro ht
  have hKS : K * S ≤ 144 := by
    calc K * S ≤ 6 * S := Nat.mul_le_mul_right _ (by omega)
      _ ≤ 6 * 24 := Nat.mul_le_mul_left _ (by omega)
  have hw : IntKind.i64.wrap ((K : Int) * (S : Int)) = (text.length : Int) := by rw [hl]; simp; exact IntWalk.i64_in _ (by rw [← Int.natCast_mul]; omega)
  have HL := Hid.intro hl
  obtain ⟨L, hL⟩ : ∃ L, L = text.length := ⟨_, rfl⟩
  rw [← hL] at hw hl HL ⊢
  have HLL := Hid.intro hL
  have hLb : L ≤ 144 := by omega
  clear hr ht hl hL hmay hKS
  go_enter Tryd.func27, Tryd.ntmps27
  go_wp2_with fail
  refine (HM.out _).mono ?_
  rintro e1 w1 ⟨rfl, B1⟩
  clear HM
  have b1 : w1.heap[w.heap.size]? = some (.cells #[.int .i64 (K : Int), .int .i64 (N : Int), .int .i64 (S : Int)] 23 (0, 0)) := by
    rw [B1.block _ (by simp)]; exact heap_alloc_new w _
  have BH := Hid.intro b1
  have B1w : Below w.heap.size w w1 := ((Below.refl _ _).alloc (Nat.le_refl _) _).trans ((below_chg B1).below (by simp) (fun _ f => f.elim))
  have hw1 : w.heap.size < w1.heap.size := lt_of_heap b1
  have HW1 := Hid.intro hw1
  have B1H := Hid.intro B1w
  have c0 : w1.cell? ⟨w.heap.size, 0, none⟩ = some (.int .i64 (K : Int)) := by rw [cell_of_row w1 _ 0 _ _ _ b1]; rfl
  have c1 : w1.cell? ⟨w.heap.size, 1, none⟩ = some (.int .i64 (N : Int)) := by rw [cell_of_row w1 _ 1 _ _ _ b1]; rfl
  have c2 : w1.cell? ⟨w.heap.size, 2, none⟩ = some (.int .i64 (S : Int)) := by rw [cell_of_row w1 _ 2 _ _ _ b1]; rfl
  clear b1 B1 B1w hw1
  go_wp2_with (at_make; refine wpList_make_full _ rfl _ _ 52 rfl 0 37 iR (.slice none 0 0) 1 Tryd.underlying52 hiR hzR0 hzR1 _ _ _ _ N rfl rfl (by omega) (by omega) (by rw [hzR2]; omega) (by unfold maxLen; omega) (Nat.zero_le _) ?_)
  intro w2 hown hgrow
  have B2 : Below w.heap.size w w2 := B1H.out.grown hgrow B1H.out.size (fun k hk => by cases hk)
  have b2 : w2.heap[w.heap.size]? = some (.cells #[.int .i64 (K : Int), .int .i64 (N : Int), .int .i64 (S : Int)] 23 (0, 0)) := by
    rw [hgrow.block _ HW1.out (by simp)]; exact BH.out
  have G2 : Rag w.heap.size w2 w1.heap.size N N (fun _ => .slice none 0 0) (shL K S text 0) := by
    refine ⟨?_, (fun r _ => World.ownsRow_nil _ _ _ _), (fun r s k _ _ _ h => by cases h), B1H.out.size, (fun r k _ h => by cases h)⟩
    rw [toList_madeCells_one] at hown
    have e : (List.range N).map (fun _ => Value.slice none 0 0) = List.replicate N (.slice none 0 0) := by
      apply List.ext_getElem
      · simp
      · intro j h3 h4; simp
    rw [e]
    exact hown
  have GH := Hid.intro G2
  have B2H := Hid.intro B2
  have C2H := Hid.intro b2
  generalize w1.heap.size = mb at GH
  clear hown hgrow B2 b2 G2 BH HW1 B1H c0 c1 c2
  go_wp2_with fail
  go_loopw [7] (fun i ws => ∃ (t : Nat) (vs : Nat → Value), t ≤ S ∧ i = .int .i64 t ∧ Rag w.heap.size ws mb N N vs (shL K S text t) ∧ ws.heap[w.heap.size]? = some (.cells #[.int .i64 (K : Int), .int .i64 (N : Int), .int .i64 (S : Int)] 23 (0, 0)) ∧ Below w.heap.size w ws) (fun i _ => S - (intOf i).toNat)
  case atStart => exact ⟨0, _, by omega, rfl, GH.out, C2H.out, B2H.out⟩
  case round =>
    rename World => wo
    clear GH B2H C2H
    obtain ⟨p, vs, hp, rfl, GP, CP, BP⟩ := hrel
    have c2 : wo.cell? ⟨w.heap.size, 2, none⟩ = some (.int .i64 (S : Int)) := by rw [cell_of_row wo _ 2 _ _ _ CP]; rfl
    have GPH := Hid.intro GP
    have CPH := Hid.intro CP
    have BPH := Hid.intro BP
    clear GP CP BP
    by_cases hlt : p < S
    · have p1 : (p : Int) < (S : Int) := by omega
      go_wp2_with fail
      go_loopw [8, 9, 10] (fun va vv i ws => ∃ t : Nat, t ≤ K ∧ i = .int .i64 t ∧ ws.ownsRow 0 5 1 va t ((List.range t).map U) ∧ ws.ownsRow 0 5 1 vv t ((valsP S text p t).map U) ∧ (∀ k, va.ownBlock = some k → vv.ownBlock = some k → False) ∧ (∀ k, va.ownBlock = some k → wo.heap.size ≤ k) ∧ (∀ k, vv.ownBlock = some k → wo.heap.size ≤ k) ∧ Below wo.heap.size wo ws) (fun _ _ i _ => K - (intOf i).toNat)
      case atStart => exact ⟨0, by omega, rfl, World.ownsRow_nil _ _ _ _, World.ownsRow_nil _ _ _ _, (fun _ h => by cases h), nil_own _, nil_own _, Below.refl _ _⟩
      case round =>
        clear c2
        obtain ⟨t, ht, rfl, RA, RV, AP, NA, NV, BT⟩ := hrel
        have cb := (BT.block _ (lt_of_heap CPH.out)).trans CPH.out
        have CBH := Hid.intro cb
        have c0 : wr.cell? ⟨w.heap.size, 0, none⟩ = some (.int .i64 (K : Int)) := by rw [cell_of_row wr _ 0 _ _ _ cb]; rfl
        have RAH := Hid.intro RA
        have RVH := Hid.intro RV
        have APH := Hid.intro AP
        have NAH := Hid.intro NA
        have NVH := Hid.intro NV
        have BTH := Hid.intro BT
        clear cb RA RV AP NA NV BT
        by_cases htl : t < K
        · have t1 : (t : Int) < (K : Int) := by omega
          have hu8 : (t : Int) % 256 = (t : Int) := by omega
          have R6H := Hid.intro (RAH.out.alloc (.cells #[U t] 5))
          go_wp2_with (at_builtin; refine wpList_append_lies _ rfl _ _ 37 rfl 0 5 i8 (.int .u8 0) 1 1 Tryd.underlying37 hi8 hz80 hz81 hz82 rfl (by decide) u8 _ _ rfl R6H.out ⟨wr.heap.size, 0, none⟩ 1 1 [U t] rfl rfl (World.news_of_block (cs := #[U t]) (t := 5) (fr := (0, 0)) (heap_alloc_new wr _)) (by simp [Value.oneCell', U]) (by decide) (by unfold maxLen; omega) (by omega) (Nat.zero_le _) (wr.heap.size + 1) (by simp) ?_)
          intro g7 cp7 w7 hown hgrow hat hgl
          have C7 : Chg (fun q => u8.ownBlock = some q) wr w7 := ((Chg.refl _ _).alloc _).grown hgrow (fun q hq _ => hq)
          have B7 := BTH.out.trans (C7.below BTH.out.size (fun q hq => NAH.out q hq))
          have N7 : wo.heap.size ≤ g7 := by
            rcases hat with hat | hat
            · exact NAH.out g7 hat
            · have := BTH.out.size; omega
          have A7 : u9.ownBlock ≠ some g7 := fun e => by
            rcases hat with hat | hat
            · exact APH.out g7 hat e
            · have := ownsRow_lt RVH.out e; omega
          have R7 : w7.ownsRow 0 5 1 (.slice (some ⟨g7, 0, none⟩) (t + 1) cp7) (t + 1) ((List.range (t + 1)).map U) := by
            rw [List.range_succ, List.map_append]; exact hown
          have V7 : w7.ownsRow 0 5 1 u9 t ((valsP S text p t).map U) := ownsRow_keep RVH.out fun k hk => C7.block k (ownsRow_lt RVH.out hk) (fun q => APH.out k q hk)
          have cb := (B7.block _ (lt_of_heap CPH.out)).trans CPH.out
          have c2 : w7.cell? ⟨w.heap.size, 2, none⟩ = some (.int .i64 (S : Int)) := by rw [cell_of_row w7 _ 2 _ _ _ cb]; rfl
          have hin := mul_in htl hlt
          rw [← HL.out] at hin
          have hi0 : IntKind.i64.wrap ((t : Int) * (S : Int)) = ((t * S : Nat) : Int) := by rw [← Int.natCast_mul]; exact IntWalk.i64_in _ (by omega)
          have hi1 : IntKind.i64.wrap (((t * S : Nat) : Int) + (p : Int)) = ((t * S + p : Nat) : Int) := by rw [← Int.natCast_add]; exact IntWalk.i64_in _ (by omega)
          have TS := Hid.intro (valsP_succ S text p t)
          obtain ⟨bb, off, e, hc⟩ := reads_at HR.out (by rw [← HLL.out]; omega)
          subst e
          have cx0 : w.cell? ⟨bb, off + (t * S + p), none⟩ = some (U (text.getD (t * S + p) 0)) := by
            rw [← List.getElem_eq_getD (h := by rw [← HLL.out]; exact hin) 0]; exact hc _ (by rw [← HLL.out]; exact hin)
          have hb := getD_byt HT.out (t * S + p)
          have cx : w7.cell? ⟨bb, off + (t * S + p), none⟩ = some (U (text.getD (t * S + p) 0)) :=
            (B7.cell (Nat.lt_of_lt_of_le (cell_lt cx0) BPH.out.size)).trans ((BPH.out.cell (cell_lt cx0)).trans cx0)
          generalize text.getD (t * S + p) 0 = y at hb cx TS
          generalize t * S = Y at hi0 hi1 cx hin
          generalize Y + p = X at hi1 cx hin
          have x0 : (0 : Int) ≤ (X : Int) := by omega
          have x1 : (X : Int) < (L : Int) := by omega
          have R7H := Hid.intro R7
          have V8H := Hid.intro (V7.alloc (.cells #[U y] 5))
          have V7H := Hid.intro V7
          have A7H := Hid.intro A7
          have B7H := Hid.intro B7
          clear hown hgrow hat R7 V7 C7 B7 R6H cb c0 cx0 hc RAH RVH APH NAH BTH CBH A7
          go_wp2_with (at_builtin; refine wpList_append_lies _ rfl _ _ 37 rfl 0 5 i8 (.int .u8 0) 1 1 Tryd.underlying37 hi8 hz80 hz81 hz82 rfl (by decide) u9 t _ rfl V8H.out ⟨w7.heap.size, 0, none⟩ 1 1 [U y] rfl rfl (World.news_of_block (cs := #[U y]) (t := 5) (fr := (0, 0)) (heap_alloc_new w7 _)) (by simp [Value.oneCell', U]) (by decide) (by unfold maxLen; omega) (by omega) (Nat.zero_le _) (w7.heap.size + 1) (by simp) ?_)
          intro g9 cp9 w9 hown hgrow hat hgl9
          have C9 : Chg (fun q => u9.ownBlock = some q) w7 w9 := ((Chg.refl _ _).alloc _).grown hgrow (fun q hq _ => hq)
          have B9 := B7H.out.trans (C9.below B7H.out.size (fun q hq => NVH.out q hq))
          have N9 : wo.heap.size ≤ g9 := by
            rcases hat with hat | hat
            · exact NVH.out g9 hat
            · have := B7H.out.size; omega
          have A9 : g7 ≠ g9 := fun e => by
            rcases hat with hat | hat
            · exact A7H.out (by rw [hat, e])
            · omega
          have R9 : w9.ownsRow 0 5 1 (.slice (some ⟨g7, 0, none⟩) (t + 1) cp7) (t + 1) ((List.range (t + 1)).map U) := ownsRow_keep R7H.out fun k hk => C9.block k (ownsRow_lt R7H.out hk) (fun q => A7H.out (by
            have e : g7 = k := by simpa [Value.ownBlock] using hk
            rw [e]; exact q))
          have V9 : w9.ownsRow 0 5 1 (.slice (some ⟨g9, 0, none⟩) (t + 1) cp9) (t + 1) ((valsP S text p (t + 1)).map U) := by
            rw [TS.out, List.map_append]; exact hown
          have R9H := Hid.intro R9
          have V9H := Hid.intro V9
          have B9H := Hid.intro B9
          have A9H := Hid.intro A9
          clear hown hgrow hat R9 V9 C9 B9 R7H V7H V8H B7H A7H cx c2 A9
          go_wp2
          go_roundw
          case rel => exact ⟨t + 1, by omega, by go_num, R9H.out, V9H.out, (fun k h1 h2 => A9H.out (by
            have e1 : g7 = k := by simpa [Value.ownBlock] using h1
            have e2 : g9 = k := by simpa [Value.ownBlock] using h2
            rw [e1, e2])), (fun k h => by
            have e1 : g7 = k := by simpa [Value.ownBlock] using h
            rw [← e1]; exact N7), (fun k h => by
            have e1 : g9 = k := by simpa [Value.ownBlock] using h
            rw [← e1]; exact N9), B9H.out⟩
          case measure => simp [intOf]; omega
        · have hte : K = t := by omega
          subst hte
          have RA' : wr.ownsRow 0 5 1 u8 (List.range K).length ((List.range K).map U) := by rw [List.length_range]; exact RAH.out
          have RV' : wr.ownsRow 0 5 1 u9 (valsP S text p K).length ((valsP S text p K).map U) := by rw [valsP_length]; exact RVH.out
          obtain ⟨aa, ca, ea, ra, _⟩ := row_of_owns RA'
          obtain ⟨av, cv, ev, rv, hav⟩ := row_of_owns RV'
          rw [List.length_range] at ea
          rw [valsP_length] at ev
          subst ea
          subst ev
          have SOL := refSolve_any aa av ca cv (List.range K) (valsP S text p K) (range_byt K (by omega)) List.nodup_range (valsP_byt HT.out p K) (by rw [valsP_length, List.length_range]) (by rw [List.length_range]; omega) wr ra rv
          obtain ⟨pb1, pb2, _⟩ := poly_spec (range_byt K (by omega)) List.nodup_range (valsP_byt (S := S) HT.out p K) (by rw [valsP_length, List.length_range])
          rw [List.length_range] at SOL pb2
          have SB := Hid.intro (fun i => show shB K S text i p = if i < K then text.getD (i * S + p) 0 else pev (poly (List.range K) (valsP S text p K)) i from rfl)
          generalize poly (List.range K) (valsP S text p K) = F at SOL pb1 pb2 SB
          have SOLH := Hid.intro SOL
          have PB1 := Hid.intro pb1
          clear RA' RV' ra rv SOL pb1
          go_wp2_with fail
          refine SOLH.out.mono ?_
          rintro e5 w5 ⟨vf, rfl, RF, NF, B5⟩
          have G5 := (GPH.out.below BTH.out).below B5
          have CB5 := (B5.block _ (lt_of_heap CBH.out)).trans CBH.out
          have BW5 : Below w.heap.size w w5 := BPH.out.trans (((below_chg BTH.out).below BPH.out.size (fun _ f => f.elim)).trans ((below_chg B5).below (Nat.le_trans BPH.out.size BTH.out.size) (fun _ f => f.elim)))
          have RV5 := ownsRow_keep RVH.out fun k hk => B5.block k (ownsRow_lt RVH.out hk)
          have NV5 : ∀ k, (Value.slice av K cv).ownBlock = some k → wo.heap.size ≤ k ∧ k < w5.heap.size := fun k hk => ⟨NVH.out k hk, Nat.lt_of_lt_of_le (ownsRow_lt RVH.out hk) B5.size⟩
          have NF5 : ∀ k, vf.ownBlock = some k → wo.heap.size ≤ k ∧ k < w5.heap.size := fun k hk => ⟨Nat.le_trans BTH.out.size (NF k hk), ownsRow_lt RF hk⟩
          have NR5 : ∀ r k, r < N → (vs r).ownBlock = some k → k < wo.heap.size ∨ w5.heap.size ≤ k := fun r k hr hk => .inl (ownsRow_lt (GPH.out.row r hr) hk)
          have mbl : mb < wo.heap.size := ownsRow_lt GPH.out.top rfl
          have cbl : w.heap.size < wo.heap.size := lt_of_heap CPH.out
          have G5H := Hid.intro G5
          have CB5H := Hid.intro CB5
          have BW5H := Hid.intro BW5
          have RV5H := Hid.intro RV5
          have RF5H := Hid.intro RF
          have NV5H := Hid.intro NV5
          have NF5H := Hid.intro NF5
          have NR5H := Hid.intro NR5
          have MBL := Hid.intro mbl
          have CBL := Hid.intro cbl
          have WO5 := Hid.intro (Nat.le_trans BTH.out.size B5.size)
          clear G5 CB5 BW5 RV5 RF NV5 NF5 NR5 mbl cbl B5 NF SOLH RAH RVH APH NAH NVH BTH CBH GPH CPH BPH c0 hav
          go_wp2_with fail
          go_loopw [12] (fun i ws => ∃ (t : Nat) (vs : Nat → Value), t ≤ N ∧ i = .int .i64 t ∧ Rag w.heap.size ws mb N N vs (fun r => if r < t then shL K S text (p + 1) r else shL K S text p r) ∧ ws.heap[w.heap.size]? = some (.cells #[.int .i64 (K : Int), .int .i64 (N : Int), .int .i64 (S : Int)] 23 (0, 0)) ∧ Below w.heap.size w ws ∧ (∀ r k, r < N → (vs r).ownBlock = some k → k < wo.heap.size ∨ w5.heap.size ≤ k) ∧ (∀ k, wo.heap.size ≤ k → k < w5.heap.size → ws.heap[k]? = w5.heap[k]?) ∧ w5.heap.size ≤ ws.heap.size) (fun i _ => N - (intOf i).toNat)
          case atStart => exact ⟨0, vs, by omega, rfl, G5H.out.congr (fun r _ => by rw [if_neg (by omega)]), CB5H.out, BW5H.out, NR5H.out, fun _ _ _ => rfl, Nat.le_refl _⟩
          case round =>
            rename World => wx
            clear G5H CB5H BW5H NR5H
            obtain ⟨t, vs, ht', rfl, GX, CX, BX, NX, KX, SX⟩ := hrel
            have c0 : wx.cell? ⟨w.heap.size, 0, none⟩ = some (.int .i64 (K : Int)) := by rw [cell_of_row wx _ 0 _ _ _ CX]; rfl
            have c1 : wx.cell? ⟨w.heap.size, 1, none⟩ = some (.int .i64 (N : Int)) := by rw [cell_of_row wx _ 1 _ _ _ CX]; rfl
            have GXH := Hid.intro GX
            have CXH := Hid.intro CX
            have BXH := Hid.intro BX
            have NXH := Hid.intro NX
            have KXH := Hid.intro KX
            have SXH := Hid.intro SX
            clear GX CX BX NX KX SX
            by_cases htn : t < N
            · have n1 : (t : Int) < (N : Int) := by omega
              obtain ⟨v0, hv0⟩ : ∃ v0, v0 = vs t := ⟨_, rfl⟩
              have ct := GXH.out.cellTop htn
              have RT := GXH.out.row t htn
              simp only [if_neg (Nat.lt_irrefl t)] at RT
              rw [shL_length] at RT
              rw [← hv0] at ct RT
              have A1 : v0.ownBlock ≠ some mb := by rw [hv0]; exact GXH.out.topApart htn
              have A2 : v0.ownBlock ≠ some w.heap.size := by rw [hv0]; exact row_not_block (GXH.out.row t htn) CXH.out (by decide)
              have A3 : ∀ k, wo.heap.size ≤ k → k < w5.heap.size → v0.ownBlock ≠ some k := fun k h1 h2 e => by
                rw [hv0] at e
                have := NXH.out t k htn e
                omega
              have RTH := Hid.intro RT
              have A3H := Hid.intro A3
              have FIN := Hid.intro (show ∀ (X : World), Chg (fun _ => False) wx X → X.heap.size = wx.heap.size → ∀ (g7 cp7 : Nat) (w7 : World), w7.ownsRow 0 5 1 (.slice (some ⟨g7, 0, none⟩) (p + 1) cp7) (p + 1) ((shL K S text p t).map U ++ [U (shB K S text t p)]) →
                  (X.alloc (.cells #[U (shB K S text t p)] 5)).grownBy w7 v0.ownBlock → (v0.ownBlock = some g7 ∨ g7 = wx.heap.size + 1) →
                  (w7.cell? ⟨mb, t, none⟩ = some v0 ∧ w7.frozen? ⟨mb, t, none⟩ = false) ∧ ∃ vs', Rag w.heap.size (w7.setCell ⟨mb, t, none⟩ (.slice (some ⟨g7, 0, none⟩) (p + 1) cp7)) mb N N vs' (fun r => if r < t + 1 then shL K S text (p + 1) r else shL K S text p r) ∧ (w7.setCell ⟨mb, t, none⟩ (.slice (some ⟨g7, 0, none⟩) (p + 1) cp7)).heap[w.heap.size]? = some (.cells #[.int .i64 (K : Int), .int .i64 (N : Int), .int .i64 (S : Int)] 23 (0, 0)) ∧ Below w.heap.size w (w7.setCell ⟨mb, t, none⟩ (.slice (some ⟨g7, 0, none⟩) (p + 1) cp7)) ∧ (∀ r k, r < N → (vs' r).ownBlock = some k → k < wo.heap.size ∨ w5.heap.size ≤ k) ∧ (∀ k, wo.heap.size ≤ k → k < w5.heap.size → (w7.setCell ⟨mb, t, none⟩ (.slice (some ⟨g7, 0, none⟩) (p + 1) cp7)).heap[k]? = w5.heap[k]?) ∧ w5.heap.size ≤ (w7.setCell ⟨mb, t, none⟩ (.slice (some ⟨g7, 0, none⟩) (p + 1) cp7)).heap.size from by
                intro X hX hXs g7 cp7 w7 hown hg hat
                have C : Chg (fun q => v0.ownBlock = some q) wx w7 := ((hX.mono (fun _ f _ => f.elim)).alloc _).grown hg (fun q hq _ => hq)
                have GT := ownsRow_keep GXH.out.top fun k hk => C.block k (ownsRow_lt GXH.out.top hk) (fun q => A1 (by rw [q]; exact hk.symm))
                have hat' : ∀ k, (Value.slice (some ⟨g7, 0, none⟩) (p + 1) cp7).ownBlock = some k → v0.ownBlock = some k ∨ wx.heap.size ≤ k := fun k hk => by
                  have e : g7 = k := by simpa [Value.ownBlock] using hk
                  subst e
                  rcases hat with h | h
                  · exact .inl h
                  · exact .inr (by omega)
                have own' : w7.ownsRow 0 5 1 (.slice (some ⟨g7, 0, none⟩) (p + 1) cp7) (shL K S text (p + 1) t).length ((shL K S text (p + 1) t).map U) := by
                  rw [shL_length, shL_succ, List.map_append]; exact hown
                have AP := GXH.out.app (v' := .slice (some ⟨g7, 0, none⟩) (p + 1) cp7) (ys := shL K S text (p + 1) t) htn BXH.out.size own' (by rw [← hv0]; exact C) (by rw [← hv0]; exact hat')
                have hmb := MBL.out
                have hcb := CBL.out
                refine ⟨⟨cell_chg C ct A1, GT.frozenAt t⟩, _, AP.congr (fun r hr => ?_), ?_, ?_, ?_, ?_, ?_⟩
                · by_cases e : r = t
                  · rw [if_pos e, if_pos (by omega), e]
                  · rw [if_neg e]
                    by_cases h : r < t
                    · rw [if_pos h, if_pos (by omega)]
                    · rw [if_neg h, if_neg (by omega)]
                · rw [heap_setCell_other _ _ _ _ (fun e => GXH.out.top |> fun h => (row_not_block h CXH.out (by decide)) (by simp [Value.ownBlock, e])), C.block _ (lt_of_heap CXH.out) A2]; exact CXH.out
                · exact (BXH.out.trans (C.below BXH.out.size (fun k hk => GXH.out.newRow t k htn (by rw [← hv0]; exact hk)))).setCell (p := ⟨mb, t, none⟩) GXH.out.newTop _
                · intro r k hr hk
                  replace hk : (if r = t then Value.slice (some ⟨g7, 0, none⟩) (p + 1) cp7 else vs r).ownBlock = some k := hk
                  by_cases e : r = t
                  · rw [if_pos e] at hk
                    rcases hat' k hk with h | h
                    · exact NXH.out t k htn (by rw [← hv0]; exact h)
                    · exact .inr (Nat.le_trans SXH.out h)
                  · rw [if_neg e] at hk
                    exact NXH.out r k hr hk
                · intro k h1 h2
                  rw [heap_setCell_other _ _ _ _ (fun e => by have : k = mb := by simpa using e
                                                              omega), C.block k (Nat.lt_of_lt_of_le h2 SXH.out) (A3 k h1 h2)]
                  exact KXH.out k h1 h2
                · have := SXH.out
                  have := C.size
                  simp
                  omega)
              have ONE := Hid.intro (bytes_one [shB K S text t p])
              have PML := Hid.intro (show p + 1 ≤ maxLen by unfold maxLen; omega)
              have PBY := Hid.intro (show (p + 1) * 1 ≤ 140737488355328 by omega)
              have R6H := Hid.intro (show ∀ X : World, X.heap = wx.heap → (X.alloc (.cells #[U (shB K S text t p)] 5)).ownsRow 0 5 1 v0 p ((shL K S text p t).map U) from fun X hX => (ownsRow_keep RTH.out (fun k _ => by rw [hX])).alloc _)
              have ct2 : (wx.alloc (.cells #[U (shB K S text t p)] 5)).cell? ⟨mb, t, none⟩ = some v0 := cell_chg ((Chg.refl (fun _ => False) wx).alloc _) ct id
              have t0 : (0 : Int) ≤ (t : Int) := by omega
              have SBT := SB.out t
              clear hv0 RT A1 A2 A3
              by_cases htk : t < K
              · rw [if_pos htk] at SBT
                obtain ⟨gv, cv', ev, _, _⟩ := RV5H.out.form (by omega)
                obtain ⟨rfl, rfl⟩ : av = some ⟨gv, 0, none⟩ ∧ cv = cv' := by simpa using ev
                have RVX := ownsRow_keep (w' := wx) RV5H.out fun k hk => KXH.out k (NV5H.out k hk).1 (NV5H.out k hk).2
                have cv0 : wx.cell? ⟨gv, t, none⟩ = some (U (shB K S text t p)) := by
                  rw [RVX.cellAt t (by omega), SBT]
                  simp [valsP, htk]
                generalize shB K S text t p = y at cv0 SBT FIN ONE R6H ct2
                have k1 : (t : Int) < (K : Int) := by omega
                clear RVX ev SBT
                go_wp2_with fail
                go_region_law
                  ((refine step_append_lies _ (by rfl) _ _ _ (by rfl) 0 5 i8 (.int .u8 0) 1 1 Tryd.underlying37 hi8 hz80 hz81 hz82 (by rfl) (by decide) v0 p _ (by rfl) (R6H.out _ rfl) ⟨wx.heap.size, 0, none⟩ 1 1 [U y] (by rfl) (by rfl) (World.news_of_block (cs := #[U y]) (t := 5) (fr := (0, 0)) (heap_alloc_new wx.drew _)) ONE.out (by decide) PML.out PBY.out (Nat.zero_le _) (wx.heap.size + 1) (by simp) ?_; intro g7 cp7 w7 hown hgrow hat hgl; have FN := FIN.out wx.drew ⟨rfl, rfl, rfl, Nat.le_refl _, fun _ _ _ => rfl⟩ rfl g7 cp7 w7 hown hgrow hat; have k1 := FN.1.1; have k3 := FN.1.2; have F2 := Hid.intro FN.2; clear FN hown hgrow hat))
                all_goals (
                  go_wp2
                  go_roundw
                  case rel =>
                    obtain ⟨vs', f1, f2, f3, f4, f5, f6⟩ := F2.out
                    exact ⟨t + 1, vs', by omega, by go_num, f1, f2, f3, f4, f5, f6⟩
                  case measure => simp [intOf]; omega)
              · rw [if_neg htk] at SBT
                have RFX := ownsRow_keep (w' := wx) RF5H.out fun k hk => KXH.out k (NF5H.out k hk).1 (NF5H.out k hk).2
                obtain ⟨af, cf, ef, rf, _⟩ := row_of_owns (by rw [pb2]; exact RFX : wx.ownsRow 0 5 1 vf F.length (F.map U))
                rw [pb2] at ef
                subst ef
                have HVAL := Hid.intro (show ∀ X : World, X.heap = wx.heap → Calls Tryd.prog 47 #[.slice af K cf, .int .u8 (t : Int)] X fun e w' => e = .returned (U (shB K S text t p)) ∧ ∃ q, w' = X.drewN q from fun X hX => by
                  rw [SBT, ← pb2]
                  exact refValue_any af cf F PB1.out (by omega) t (by omega) X (fun h0 => by
                    obtain ⟨ad, ha, hc⟩ := rf h0
                    exact ⟨ad, ha, fun j u hu => (World.cell?_of_block (by rw [hX])).trans (hc j u hu)⟩))
                generalize shB K S text t p = y at SBT FIN ONE R6H ct2 HVAL
                have k1 : ¬ (t : Int) < (K : Int) := by omega
                have hu8 : (t : Int) % 256 = (t : Int) := by omega
                have hu8w : IntKind.u8.wrap (t : Int) = (t : Int) := IntWalk.u8_in _ (by omega)
                clear RFX SBT rf
                go_wp2_with fail
                go_region_law
                  (first
                    | (refine step_append_lies _ (by rfl) _ _ _ (by rfl) 0 5 i8 (.int .u8 0) 1 1 Tryd.underlying37 hi8 hz80 hz81 hz82 (by rfl) (by decide) v0 p _ (by rfl) (R6H.out _ (by rfl)) ⟨wx.heap.size, 0, none⟩ 1 1 [U y] (by rfl) (by rfl) (World.news_of_block (cs := #[U y]) (t := 5) (fr := (0, 0)) (heap_alloc_new _ _)) ONE.out (by decide) PML.out PBY.out (Nat.zero_le _) (wx.heap.size + 1) (by simp) ?_; intro g7 cp7 w7 hown hgrow hat hgl; have FN := FIN.out _ (by exact ⟨rfl, rfl, rfl, Nat.le_refl _, fun _ _ _ => rfl⟩) (by rfl) g7 cp7 w7 hown hgrow hat; have k1 := FN.1.1; have k3 := FN.1.2; have F2 := Hid.intro FN.2; clear FN hown hgrow hat)
                    | (go_simp; refine (HVAL.out _ (by rfl)).mono ?_; rintro e6 w6 ⟨rfl, q6, rfl⟩; have ct5 : ((wx.drewN (1 + q6)).alloc (.cells #[U y] 5)).cell? ⟨mb, t, none⟩ = some v0 := ct2))
                all_goals (
                  go_wp2
                  go_roundw
                  case rel =>
                    obtain ⟨vs', f1, f2, f3, f4, f5, f6⟩ := F2.out
                    exact ⟨t + 1, vs', by omega, by go_num, f1, f2, f3, f4, f5, f6⟩
                  case measure => simp [intOf]; omega)
            · have hte : N = t := by omega
              subst hte
              have GN := GXH.out.congr (R' := shL K S text (p + 1)) (fun r hr => by rw [if_pos hr])
              have GNH := Hid.intro GN
              have n1 : ¬ (N : Int) < (N : Int) := by omega
              clear GN GXH
              go_wp2
              go_roundw
              case rel => exact ⟨p + 1, vs, by omega, by go_num, GNH.out, CXH.out, BXH.out⟩
              case measure => simp [intOf]; omega
    · have hpe : S = p := by omega
      subst hpe
      have p1 : ¬ (S : Int) < (S : Int) := by omega
      go_wp2
      go_ret2
      exact ⟨mb, N, rfl, ⟨vs, GPH.out⟩, BPH.out⟩

end Go.Proofs.YteacdckfnmjojaaDoor

/- The contract of the document's own Encode of layer 5, whole. -/
namespace Go.Proofs.YteacdckfnmjojaaDoor
open Go.RowKit
open Bt

set_option maxRecDepth 100000 in
set_option maxHeartbeats 1000000 in
theorem refEncode_any (k n s : Int) (ao : Option Addr) (cap : Nat) (text : List Nat) (ht : Byt text) (w : World) (hr : Reads w ao text) :
    Calls Tryd.prog 27 #[Cd k n s, .slice ao text.length cap] w fun e w' => ∃ v, e = .returned (.tuple #[v, .int .i64 (encE k n s text.length)]) ∧ Shs w.heap.size w' v (encA k n s text) ∧ Below w.heap.size w w' := by
  rcases hmay : mayC k n s with _ | _
  · have e1 : encE k n s text.length = 1 := by unfold encE; rw [hmay]; rfl
    have eA : encA k n s text = [] := by unfold encA; rw [e1, if_neg (by decide)]
    rw [e1, eA]
    have HM := Hid.intro (fun w => refMay_any k n s w)
    rw [hmay] at HM
    clear e1 eA hr ht
    go_enter Tryd.func27, Tryd.ntmps27
    go_wp2_with fail
    refine (HM.out _).mono ?_
    rintro e1 w1 ⟨rfl, B1⟩
    go_wp2
    go_ret2
    exact ⟨_, rfl, .inl ⟨rfl, _, _, rfl, fun _ => rfl⟩, ((Below.refl _ _).alloc (Nat.le_refl _) _).trans ((below_chg B1).below (by simp) (fun _ f => f.elim))⟩
  · obtain ⟨h1, h2, h3, h4, h5, h6⟩ := mayC_true hmay
    obtain ⟨K, rfl⟩ := Int.eq_ofNat_of_zero_le (show 0 ≤ k by omega)
    obtain ⟨N, rfl⟩ := Int.eq_ofNat_of_zero_le (show 0 ≤ n by omega)
    obtain ⟨S, rfl⟩ := Int.eq_ofNat_of_zero_le (show 0 ≤ s by omega)
    by_cases hl : text.length = K * S
    · have e0 : encE K N S text.length = 0 := by unfold encE; rw [if_pos hmay, hl, if_pos (by rw [Int.natCast_mul])]
      have eA : encA K N S text = encL K N S text := by unfold encA; rw [e0, if_pos rfl]; rfl
      rw [e0, eA]
      refine (refEncode_ok K N S hmay ao cap text ht hl w hr).mono ?_
      rintro e w' ⟨mb, mc, vs, rfl, hR, hb⟩
      obtain ⟨A, C, h, _⟩ := hR.shs
      exact ⟨_, rfl, .inr ⟨mb, 0, mc, A, C, by rw [encL_length], h⟩, hb⟩
    · have e4 : encE K N S text.length = 4 := by unfold encE; rw [if_pos hmay, if_neg (by rw [← Int.natCast_mul]; omega)]
      have eA : encA K N S text = [] := by unfold encA; rw [e4, if_neg (by decide)]
      rw [e4, eA]
      have HM := Hid.intro (fun w => refMay_any K N S w)
      rw [hmay] at HM
      have hKS : K * S ≤ 144 := by
        calc K * S ≤ 6 * S := Nat.mul_le_mul_right _ (by omega)
          _ ≤ 6 * 24 := Nat.mul_le_mul_left _ (by omega)
      have hw : IntKind.i64.wrap ((K : Int) * (S : Int)) = ((K * S : Nat) : Int) := by rw [← Int.natCast_mul]; exact IntWalk.i64_in _ (by omega)
      have nn : ((text.length : Int) != ((K * S : Nat) : Int)) = true := by rw [bne_iff_ne]; omega
      generalize K * S = Y at hw nn
      clear e4 eA hr ht
      go_enter Tryd.func27, Tryd.ntmps27
      go_wp2_with fail
      refine (HM.out _).mono ?_
      rintro e1 w1 ⟨rfl, B1⟩
      have b1 : w1.heap[w.heap.size]? = some (.cells #[.int .i64 (K : Int), .int .i64 (N : Int), .int .i64 (S : Int)] 23 (0, 0)) := by
        rw [B1.block _ (by simp)]; exact heap_alloc_new w _
      have c0 : w1.cell? ⟨w.heap.size, 0, none⟩ = some (.int .i64 (K : Int)) := by rw [cell_of_row w1 _ 0 _ _ _ b1]; rfl
      have c2 : w1.cell? ⟨w.heap.size, 2, none⟩ = some (.int .i64 (S : Int)) := by rw [cell_of_row w1 _ 2 _ _ _ b1]; rfl
      clear b1
      go_wp2
      go_ret2
      exact ⟨_, rfl, .inl ⟨rfl, _, _, rfl, fun _ => rfl⟩, ((Below.refl _ _).alloc (Nat.le_refl _) _).trans ((below_chg B1).below (by simp) (fun _ f => f.elim))⟩

end Go.Proofs.YteacdckfnmjojaaDoor
