/- Several texts, one behind the other: RefFourA RsMat RefSolve RefValue RefMay RefDec. -/
import Derived.Test.YtceekoifljeddaaBase
import Derived.Test.YtceekoifljeddaaMPlain
import Derived.Test.YtceekoifljeddaaAppB
import Derived.Test.YtceekoifljeddaaRsCd
import Derived.Test.YtceekoifljeddaaRsLst
import Derived.Deep.RegionLaw
/- Contracts of the document's own answer of layer 4: bytes that are multiplied. -/
namespace Go.Proofs.Ytceekoifljeddaa
open Go.RowKit
open Bt

theorem i64_xor_nat (a b : Nat) (ha : a < 2 ^ 63) (hb : b < 2 ^ 63) : bits .xor .i64 (a : Int) (b : Int) = ((a ^^^ b : Nat) : Int) := by
  have hx : a ^^^ b < 2 ^ 63 := Nat.xor_lt_two_pow ha hb
  show IntKind.i64.wrap ((BitVec.ofInt 64 (a : Int) ^^^ BitVec.ofInt 64 (b : Int)).toNat : Int) = _
  rw [BitVec.toNat_xor, ofInt_i64 a ha, ofInt_i64 b hb]
  exact IntWalk.i64_in _ (by omega)

theorem div_pow_succ (b m : Nat) : b / 2 ^ m / 2 = b / 2 ^ (m + 1) := by rw [Nat.div_div_eq_div_mul, ← Nat.pow_succ]

theorem raw_le {a : Nat} (h : a < 256) (b n : Nat) (hn : n ≤ 8) : raw n a b < 65536 := by
  have := raw_lt h b n hn
  have : 2 ^ (8 + n) ≤ 2 ^ 16 := Nat.pow_le_pow_right (by decide) (by omega)
  omega

theorem pow_le8 (n : Nat) (h : n ≤ 15) : 2 ^ n ≤ 32768 := by
  have : 2 ^ n ≤ 2 ^ 15 := Nat.pow_le_pow_right (by decide) h
  omega

set_option maxRecDepth 100000 in
set_option maxHeartbeats 1000000 in
theorem refMul_any (a b : Nat) (ha : a < 256) (hb : b < 256) (w : World) :
    Calls Try.prog 73 #[.int .u8 (a : Int), .int .u8 (b : Int)] w fun e w' => e = .returned (.int .u8 ((gmul a b : Nat) : Int)) ∧ w = w' := by
  obtain ⟨R, hR⟩ : ∃ R, R = gmul a b := ⟨_, rfl⟩
  rw [← hR]
  have HRR := Hid.intro hR
  clear hR
  go_enter Try.func73, Try.ntmps73
  go_wp2_with fail
  go_loop [6, 7] (fun p i => ∃ k : Nat, k ≤ 8 ∧ i = .int .i64 k ∧ p = .int .i64 ((raw k a b : Nat) : Int)) (fun _ i => 8 - (intOf i).toNat)
  case atStart => exact ⟨0, by omega, rfl, rfl⟩
  case round =>
    obtain ⟨k, hk, rfl, rfl⟩ := hrel
    have hp := raw_le ha b k hk
    by_cases hlt : k < 8
    · have hs : raw (k + 1) a b = raw k a b ^^^ (if b / 2 ^ k % 2 = 1 then a * 2 ^ k else 0) := rfl
      generalize raw k a b = P at hp hs ⊢
      obtain ⟨P1, hP1⟩ : ∃ P1, P1 = raw (k + 1) a b := ⟨_, rfl⟩
      rw [← hP1] at hs
      have HS := Hid.intro hs
      have HP1 := Hid.intro hP1
      clear hs hP1
      go_wp2_with fail
      go_loop [8, 9] (fun x i => ∃ m : Nat, m ≤ k ∧ i = .int .i64 m ∧ x = .int .i64 ((b / 2 ^ m : Nat) : Int)) (fun _ i => k - (intOf i).toNat)
      case atStart => exact ⟨0, by omega, rfl, by simp⟩
      case round =>
        obtain ⟨m, hm, rfl, rfl⟩ := hrel
        have hbm : b / 2 ^ m ≤ b := Nat.div_le_self _ _
        have hn := div_pow_succ b m
        by_cases hml : m < k
        · generalize b / 2 ^ m = B at hbm hn ⊢
          have HN := Hid.intro hn
          clear hn
          go_wp2
          go_round
          case rel => exact ⟨m + 1, by omega, by go_num, by rw [← HN.out]; simp⟩
          case measure => simp [intOf]; omega
        · have hmk : m = k := by omega
          subst hmk
          clear hn
          have hS := HS.out
          generalize b / 2 ^ m = B at hbm hS ⊢
          by_cases hbit : B % 2 = 1
          · have hx : ((B : Int) % 2 == 1) = true := by rw [beq_iff_eq]; omega
            rw [if_pos hbit] at hS
            have HS2 := Hid.intro hS
            clear hS HS
            go_wp2_with fail
            go_loop [10, 11] (fun y i => ∃ q : Nat, q ≤ m ∧ i = .int .i64 q ∧ y = .int .i64 ((a * 2 ^ q : Nat) : Int)) (fun _ i => m - (intOf i).toNat)
            case atStart => exact ⟨0, by omega, rfl, by simp⟩
            case round =>
              obtain ⟨q, hq, rfl, rfl⟩ := hrel
              have hay : a * 2 ^ q < 65536 := by
                have : 2 ^ q ≤ 2 ^ 8 := Nat.pow_le_pow_right (by decide) (by omega)
                have := Nat.mul_le_mul (show a ≤ 255 by omega) this
                omega
              by_cases hql : q < m
              · have hn : a * 2 ^ q * 2 = a * 2 ^ (q + 1) := by rw [Nat.mul_assoc, ← Nat.pow_succ]
                generalize a * 2 ^ q = Y at hay hn ⊢
                have HN := Hid.intro hn
                clear hn
                go_wp2
                go_round
                case rel => exact ⟨q + 1, by omega, by go_num, by rw [← HN.out]; simp⟩
                case measure => simp [intOf]; omega
              · have hqm : q = m := by omega
                subst hqm
                generalize a * 2 ^ q = Y at hay HS2 ⊢
                have hxor := i64_xor_nat P Y (by omega) (by omega)
                rw [← HS2.out] at hxor
                have hP1l : P1 < 65536 := by rw [HP1.out]; exact raw_le ha b (q + 1) (by omega)
                clear HS2
                go_wp2
                go_round
                case rel => exact ⟨q + 1, by omega, by go_num, by rw [HP1.out]⟩
                case measure => simp [intOf]; omega
          · have hx : ((B : Int) % 2 == 1) = false := by rw [beq_eq_false_iff_ne]; omega
            rw [if_neg hbit, Nat.xor_zero] at hS
            have HS2 := Hid.intro hS
            clear hS HS
            go_wp2
            go_round
            case rel => exact ⟨m + 1, by omega, by go_num, by rw [← HP1.out, HS2.out]⟩
            case measure => simp [intOf]; omega
    · have hk8 : k = 8 := by omega
      subst hk8
      have hred := bred_raw ha b 8 (by decide)
      generalize raw 8 a b = P0 at hp hred ⊢
      have HRED := Hid.intro hred
      clear hred
      go_wp2_with fail
      go_loop [6, 12, 13] (fun p d i => ∃ n : Nat, n ≤ 8 ∧ i = .int .i64 (15 - (n : Int)) ∧ p = .int .i64 ((bred n P0 : Nat) : Int) ∧ d = .int .i64 ((36480 / 2 ^ n : Nat) : Int)) (fun _ _ i => (intOf i).toNat)
      case atStart => exact ⟨0, by omega, rfl, rfl, rfl⟩
      case round =>
        obtain ⟨n, hn, rfl, rfl, rfl⟩ := hrel
        have hbl := bred_lt (p := P0) (by omega) n hn
        have hb16 : bred n P0 < 65536 := Nat.lt_of_lt_of_le hbl (Nat.pow_le_pow_right (n := 2) (by decide) (show 16 - n ≤ 16 by omega))
        have hd16 : 36480 / 2 ^ n ≤ 36480 := Nat.div_le_self _ _
        by_cases hnl : n < 8
        · have hs : bred (n + 1) P0 = if 2 ^ (15 - n) ≤ bred n P0 then bred n P0 ^^^ (36480 / 2 ^ n) else bred n P0 := by
            rw [bred, bst_if (by rw [show 15 - n + 1 = 16 - n from by omega]; exact hbl)]
            have e : 285 * 2 ^ (15 - n - 8) = 36480 / 2 ^ n := by
              have : n = 0 ∨ n = 1 ∨ n = 2 ∨ n = 3 ∨ n = 4 ∨ n = 5 ∨ n = 6 ∨ n = 7 := by omega
              rcases this with rfl | rfl | rfl | rfl | rfl | rfl | rfl | rfl <;> rfl
            rw [e]
          have hdn := div_pow_succ 36480 n
          generalize bred n P0 = P at hb16 hs hbl ⊢
          generalize 36480 / 2 ^ n = D at hd16 hdn hs ⊢
          obtain ⟨I, hI⟩ : ∃ I : Nat, I = 15 - n := ⟨_, rfl⟩
          have hIc : 15 - (n : Int) = (I : Int) := by omega
          have hI15 : I ≤ 15 := by omega
          have hI8 : 8 ≤ I := by omega
          rw [← hI] at hs
          rw [hIc]
          obtain ⟨P1, hP1⟩ : ∃ P1, P1 = bred (n + 1) P0 := ⟨_, rfl⟩
          rw [← hP1] at hs
          have HS := Hid.intro hs
          have HP1 := Hid.intro hP1
          have HDN := Hid.intro hdn
          have HI := Hid.intro hI
          clear hs hP1 hdn hbl hIc hI
          go_wp2_with fail
          go_loop [14, 15] (fun t i => ∃ q : Nat, q ≤ I ∧ i = .int .i64 q ∧ t = .int .i64 ((2 ^ q : Nat) : Int)) (fun _ i => I - (intOf i).toNat)
          case atStart => exact ⟨0, by omega, rfl, rfl⟩
          case round =>
            obtain ⟨q, hq, rfl, rfl⟩ := hrel
            have hq2 := pow_le8 q (by omega)
            by_cases hql : q < I
            · have hnx : 2 ^ q * 2 = 2 ^ (q + 1) := by rw [← Nat.pow_succ]
              generalize 2 ^ q = T at hq2 hnx ⊢
              have HN := Hid.intro hnx
              clear hnx
              go_wp2
              go_round
              case rel => exact ⟨q + 1, by omega, by go_num, by rw [← HN.out]; simp⟩
              case measure => simp [intOf]; omega
            · have hqI : q = I := by omega
              subst hqI
              have hS := HS.out
              generalize 2 ^ q = T at hq2 hS ⊢
              by_cases hge : T ≤ P
              · rw [if_pos hge] at hS
                have hxor := i64_xor_nat P D (by omega) (by omega)
                rw [← hS] at hxor
                have j : (T : Int) ≤ (P : Int) := by omega
                have hP1l : P1 < 65536 := by
                  rw [HP1.out]
                  exact Nat.lt_of_lt_of_le (bred_lt (p := P0) (by omega) (n + 1) (by omega)) (Nat.pow_le_pow_right (n := 2) (by decide) (show 16 - (n + 1) ≤ 16 by omega))
                clear hS HS
                go_wp2
                go_round
                case rel => exact ⟨n + 1, by omega, by have := HI.out; congr 1; omega, by rw [← HP1.out], by rw [← HDN.out]; simp⟩
                case measure => have := HI.out; simp [intOf]; omega
              · rw [if_neg hge] at hS
                have HS2 := Hid.intro hS
                have j : decide ((T : Int) ≤ (P : Int)) = false := by simp; omega
                clear hS HS
                go_wp2
                go_round
                case rel => exact ⟨n + 1, by omega, by have := HI.out; congr 1; omega, by rw [← HP1.out, HS2.out], by rw [← HDN.out]; simp⟩
                case measure => have := HI.out; simp [intOf]; omega
        · have hn8 : n = 8 := by omega
          subst hn8
          rw [HRED.out]
          have hlt := gmul_lt ha b
          have e : gm 8 a b = R := HRR.out.symm
          rw [e]
          have hR : R < 256 := by rw [HRR.out]; exact hlt
          clear e hlt HRR HRED hbl hb16
          go_wp2
          go_ret
          exact ⟨rfl, rfl⟩

set_option maxRecDepth 100000 in
set_option maxHeartbeats 1000000 in
theorem refInv_any (a : Nat) (ha : a < 256) (w : World) :
    Calls Try.prog 72 #[.int .u8 (a : Int)] w fun e w' => e = .returned (.int .u8 ((ginv a : Nat) : Int)) ∧ w = w' := by
  obtain ⟨R, hR⟩ : ∃ R, R = ginv a := ⟨_, rfl⟩
  rw [← hR]
  have HRR := Hid.intro hR
  clear hR
  go_enter Try.func72, Try.ntmps72
  go_wp2_with fail
  go_loop [3] (fun i => ∃ k : Nat, 1 ≤ k ∧ k ≤ 256 ∧ i = .int .i64 k ∧ ∀ x, 1 ≤ x → x < k → gmul a x ≠ 1) (fun i => 256 - (intOf i).toNat)
  case atStart => exact ⟨1, by omega, by omega, rfl, fun x h1 h2 => by omega⟩
  case round =>
    obtain ⟨k, hk1, hk, rfl, hno⟩ := hrel
    have HNO := Hid.intro hno
    clear hno
    by_cases hlt : k < 256
    · have HM := Hid.intro (refMul_any a k ha hlt w)
      have hu : (k : Int) % 256 = (k : Int) := by omega
      by_cases h1 : gmul a k = 1
      · rw [h1] at HM
        have e : k = R := by rw [HRR.out]; exact ginv_only ha hlt h1
        clear h1 HNO
        subst e
        go_wp2_with fail
        refine HM.out.mono ?_
        rintro e1 w1 ⟨rfl, rfl⟩
        clear HM
        go_wp2
        go_ret
        exact ⟨rfl, rfl⟩
      · have hj : (((gmul a k : Nat) : Int) == 1) = false := by rw [beq_eq_false_iff_ne]; omega
        have hno' : ∀ x, 1 ≤ x → x < k + 1 → gmul a x ≠ 1 := fun x h2 h3 => by
          by_cases e : x = k
          · rw [e]; exact h1
          · exact HNO.out x h2 (by omega)
        have HN := Hid.intro hno'
        clear hno' h1 HNO
        generalize gmul a k = G at HM hj
        go_wp2_with fail
        refine HM.out.mono ?_
        rintro e1 w1 ⟨rfl, rfl⟩
        clear HM
        go_wp2
        go_round
        case rel => exact ⟨k + 1, by omega, by omega, by go_num, HN.out⟩
        case measure => simp [intOf]; omega
    · have hke : k = 256 := by omega
      subst hke
      have a0 : a = 0 := Classical.byContradiction fun h0 => HNO.out (ginv a) (by have := ginv_ne ha h0; omega) (ginv_lt a) (ginv_mul ha h0)
      have e : R = 0 := by rw [HRR.out, a0]; rfl
      clear HNO HRR
      subst e
      go_wp2
      go_ret
      exact ⟨rfl, rfl⟩

set_option maxRecDepth 100000 in
set_option maxHeartbeats 1000000 in
theorem refPow_nat (a n : Nat) (ha : a < 256) (hn : n < 2 ^ 62) (w : World) :
    Calls Try.prog 71 #[.int .u8 (a : Int), .int .i64 (n : Int)] w fun e w' => e = .returned (.int .u8 ((gpow a n : Nat) : Int)) ∧ w = w' := by
  obtain ⟨R, hR⟩ : ∃ R, R = gpow a n := ⟨_, rfl⟩
  rw [← hR]
  have HRR := Hid.intro hR
  clear hR
  have j0 : decide ((n : Int) < 0) = false := by simp
  go_enter Try.func71, Try.ntmps71
  go_wp2_with fail
  go_loop [5, 6] (fun p i => ∃ k : Nat, k ≤ n ∧ i = .int .i64 k ∧ p = .int .u8 ((gpow a k : Nat) : Int)) (fun _ i => n - (intOf i).toNat)
  case atStart => exact ⟨0, by omega, rfl, rfl⟩
  case round =>
    obtain ⟨k, hk, rfl, rfl⟩ := hrel
    have hp := gpow_lt ha k
    by_cases hlt : k < n
    · have HM := Hid.intro (refMul_any (gpow a k) a hp ha w)
      have hs : gmul (gpow a k) a = gpow a (k + 1) := rfl
      rw [hs] at HM
      have hp1 := gpow_lt ha (k + 1)
      generalize gpow a k = P at HM hp ⊢
      obtain ⟨P1, hP1⟩ : ∃ P1, P1 = gpow a (k + 1) := ⟨_, rfl⟩
      rw [← hP1] at HM hp1
      have HP1 := Hid.intro hP1
      clear hP1 hs
      go_wp2_with fail
      refine HM.out.mono ?_
      rintro e1 w1 ⟨rfl, rfl⟩
      clear HM
      go_wp2
      go_round
      case rel => exact ⟨k + 1, by omega, by go_num, by rw [HP1.out]⟩
      case measure => simp [intOf]; omega
    · have hke : k = n := by omega
      subst hke
      rw [← HRR.out]
      clear HRR
      go_wp2
      go_ret
      exact ⟨rfl, rfl⟩

theorem refPow_neg (a : Nat) (n : Int) (hn : n < 0) (w : World) :
    Calls Try.prog 71 #[.int .u8 (a : Int), .int .i64 n] w fun e w' => e = .returned (.int .u8 0) ∧ w = w' := by
  go_enter Try.func71, Try.ntmps71
  go_wp2
  go_ret
  exact ⟨rfl, rfl⟩

theorem refPow_any (a : Nat) (n : Int) (ha : a < 256) (hn : n < 2 ^ 62) (w : World) :
    Calls Try.prog 71 #[.int .u8 (a : Int), .int .i64 n] w fun e w' => e = .returned (.int .u8 ((powA a n : Nat) : Int)) ∧ w = w' := by
  unfold powA
  by_cases h : n < 0
  · rw [if_pos h]; exact refPow_neg a n h w
  · rw [if_neg h]
    obtain ⟨N, rfl⟩ := Int.eq_ofNat_of_zero_le (show 0 ≤ n by omega)
    rw [Int.toNat_natCast]
    exact refPow_nat a N ha (by omega) w

end Go.Proofs.Ytceekoifljeddaa

/- A table of bytes in memory of one's own: rows, and the slice of them. -/
namespace Go.Proofs.Ytceekoifljeddaa
open Go.RowKit
open Bt

theorem info_row : (Try.prog.info? 39).map (fun i => (i.zero, i.size, i.bytes)) = some (some (.slice none 0 0), 1, 24) := by kernel_rfl

/-- A row's bytes. -/
def rowL (n : Nat) (M : Nat → Nat → Nat) (r : Nat) : List Nat := (List.range n).map (M r)

theorem rowL_length (n : Nat) (M : Nat → Nat → Nat) (r : Nat) : (rowL n M r).length = n := by simp [rowL]

/-- A row as a value. -/
def sl (n : Nat) (g cp : Nat → Nat) (r : Nat) : Value := .slice (some ⟨g r, 0, none⟩) n (cp r)

theorem sl_block (n : Nat) (g cp : Nat → Nat) (r : Nat) : (sl n g cp r).ownBlock = some (g r) := rfl

/-- So many rows of so many bytes. -/
structure Mat (B : Nat) (w : World) (m : Value) (i n : Nat) (g cp : Nat → Nat) (M : Nat → Nat → Nat) : Prop where
  top : w.ownsRow 0 39 1 m i ((List.range i).map (sl n g cp))
  row : ∀ r, r < i → w.ownsRow 0 5 1 (sl n g cp r) n ((rowL n M r).map U)
  apart : ∀ r s, r < i → s < i → r ≠ s → g r ≠ g s
  newTop : ∀ k, m.ownBlock = some k → B ≤ k
  newRow : ∀ r, r < i → B ≤ g r

variable {B : Nat} {w : World} {m : Value} {i n : Nat} {g cp : Nat → Nat} {M : Nat → Nat → Nat}

theorem Mat.start (B : Nat) (w : World) (n : Nat) (g cp : Nat → Nat) (M : Nat → Nat → Nat) : Mat B w (.slice none 0 0) 0 n g cp M :=
  ⟨World.ownsRow_nil _ _ _ _, fun r hr => absurd hr (by omega), fun r s hr => absurd hr (by omega), nil_own _, fun r hr => absurd hr (by omega)⟩

theorem Mat.topApart (h : Mat B w m i n g cp M) {r : Nat} (hr : r < i) : m.ownBlock ≠ some (g r) := fun e =>
  rows_apart h.top (h.row r hr) (by decide) (g r) e rfl

theorem Mat.form (h : Mat B w m i n g cp M) (hi : 0 < i) : ∃ mb mc, m = .slice (some ⟨mb, 0, none⟩) i mc := by
  obtain ⟨ao, cap, e, h1⟩ := ownsRow_form h.top
  rcases h1 with h1 | ⟨b, rfl⟩
  · omega
  · exact ⟨b, cap, e⟩

theorem Mat.kept {S : Nat → Prop} {w' : World} (h : Mat B w m i n g cp M) (hc : Chg S w w') (hm : ∀ k, m.ownBlock = some k → ¬ S k) (hr : ∀ r, r < i → ¬ S (g r)) : Mat B w' m i n g cp M :=
  ⟨ownsRow_keep h.top fun k hk => hc.block k (ownsRow_lt h.top hk) (hm k hk),
    fun r hi => ownsRow_keep (h.row r hi) fun k hk => by
      have e : g r = k := by simpa [sl_block] using hk
      subst e
      exact hc.block _ (ownsRow_lt (h.row r hi) rfl) (hr r hi),
    h.apart, h.newTop, h.newRow⟩

theorem Mat.drew (h : Mat B w m i n g cp M) : Mat B w.drew m i n g cp M := h.kept ((Chg.refl (fun _ => False) w).drew) (fun _ _ => id) (fun _ _ => id)

theorem Mat.drewN (h : Mat B w m i n g cp M) (q : Nat) : Mat B (w.drewN q) m i n g cp M := h.kept ((Chg.refl (fun _ => False) w).drewN q) (fun _ _ => id) (fun _ _ => id)

theorem Mat.cellRow (h : Mat B w m i n g cp M) {r k : Nat} (hr : r < i) (hk : k < n) : w.cell? ⟨g r, k, none⟩ = some (U (M r k)) := by
  have := h.row r hr
  unfold sl at this
  rw [this.cellAt k (by omega)]
  simp [rowL, hk]

theorem Mat.frozenRow (h : Mat B w m i n g cp M) {r : Nat} (hr : r < i) (k : Nat) : w.frozen? ⟨g r, k, none⟩ = false := by
  have := h.row r hr
  unfold sl at this
  exact this.frozenAt k

theorem Mat.cellTop {mb mc : Nat} (h : Mat B w (.slice (some ⟨mb, 0, none⟩) i mc) i n g cp M) {r : Nat} (hr : r < i) : w.cell? ⟨mb, r, none⟩ = some (.slice (some ⟨g r, 0, none⟩) n (cp r)) := by
  rw [h.top.cellAt r (by omega)]
  simp [sl, hr]

theorem Mat.frozenTop {mb mc : Nat} (h : Mat B w (.slice (some ⟨mb, 0, none⟩) i mc) i n g cp M) (r : Nat) : w.frozen? ⟨mb, r, none⟩ = false := h.top.frozenAt r

/-- One byte turned. -/
def setM (r k v : Nat) (M : Nat → Nat → Nat) : Nat → Nat → Nat := fun s j => if s = r ∧ j = k then v else M s j

theorem Mat.set (h : Mat B w m i n g cp M) {r k v : Nat} (hr : r < i) : Mat B (w.setCell ⟨g r, k, none⟩ (U v)) m i n g cp (setM r k v M) := by
  refine ⟨ownsRow_setCell_other h.top (h.topApart hr) _, fun s hs => ?_, h.apart, h.newTop, h.newRow⟩
  by_cases e : s = r
  · subst e
    have h1 := h.row s hs
    unfold sl at h1 ⊢
    have h2 := (h1.stored k (U v)).1
    have e2 : ((rowL n M s).map U).set k (U v) = (rowL n (setM s k v M) s).map U := by
      apply List.ext_getElem
      · simp [rowL]
      · intro j h3 h4
        rw [List.getElem_set]
        simp only [rowL, List.getElem_map, List.getElem_range, setM, true_and]
        by_cases e : k = j
        · rw [if_pos e, if_pos e.symm]
        · rw [if_neg e, if_neg (fun e' => e e'.symm)]
    rw [e2] at h2
    exact h2
  · have e2 : rowL n (setM r k v M) s = rowL n M s := by
      unfold rowL setM
      refine List.map_congr_left (fun j _ => ?_)
      rw [if_neg (fun c => e c.1)]
    rw [e2]
    exact ownsRow_setCell_other (h.row s hs) (fun c => h.apart s r hs hr e (by simpa [sl_block] using c)) _

/-- Two rows exchanged. -/
def sw (c p : Nat) (f : Nat → Nat) : Nat → Nat := fun r => if r = c then f p else if r = p then f c else f r

theorem Mat.swap {mb mc c p : Nat} (h : Mat B w (.slice (some ⟨mb, 0, none⟩) i mc) i n g cp M) (hc : c < i) (hp : p < i) :
    Mat B ((w.setCell ⟨mb, c, none⟩ (.slice (some ⟨g p, 0, none⟩) n (cp p))).setCell ⟨mb, p, none⟩ (.slice (some ⟨g c, 0, none⟩) n (cp c))) (.slice (some ⟨mb, 0, none⟩) i mc) i n (sw c p g) (sw c p cp) (swapM c p M) := by
  have hpm : ∀ r, r < i → ∃ s, s < i ∧ sw c p g r = g s ∧ sw c p cp r = cp s ∧ ∀ k, swapM c p M r k = M s k := by
    intro r hr
    unfold sw swapM
    by_cases h1 : r = c
    · exact ⟨p, hp, by rw [if_pos h1], by rw [if_pos h1], fun k => by rw [if_pos h1]⟩
    · by_cases h2 : r = p
      · exact ⟨c, hc, by rw [if_neg h1, if_pos h2], by rw [if_neg h1, if_pos h2], fun k => by rw [if_neg h1, if_pos h2]⟩
      · exact ⟨r, hr, by rw [if_neg h1, if_neg h2], by rw [if_neg h1, if_neg h2], fun k => by rw [if_neg h1, if_neg h2]⟩
  refine ⟨?_, fun r hr => ?_, fun r s hr hs hne => ?_, h.newTop, fun r hr => ?_⟩
  · have h1 := (h.top.stored c (.slice (some ⟨g p, 0, none⟩) n (cp p))).1
    have h2 := (h1.stored p (.slice (some ⟨g c, 0, none⟩) n (cp c))).1
    have e : (((List.range i).map (sl n g cp)).set c (.slice (some ⟨g p, 0, none⟩) n (cp p))).set p (.slice (some ⟨g c, 0, none⟩) n (cp c)) = (List.range i).map (sl n (sw c p g) (sw c p cp)) := by
      apply List.ext_getElem
      · simp
      · intro j h3 h4
        rw [List.getElem_set, List.getElem_set]
        simp only [List.getElem_map, List.getElem_range, sl, sw]
        by_cases e1 : p = j
        · rw [if_pos e1]
          by_cases e2 : j = c
          · rw [if_pos e2, if_pos e2, e1, e2]
          · rw [if_neg e2, if_neg e2, if_pos e1.symm, if_pos e1.symm]
        · rw [if_neg e1]
          by_cases e2 : c = j
          · rw [if_pos e2, if_pos e2.symm, if_pos e2.symm]
          · have a1 : ¬ j = c := fun q => e2 q.symm
            have a2 : ¬ j = p := fun q => e1 q.symm
            simp only [if_neg e2, if_neg a1, if_neg a2]
    rw [e] at h2
    exact h2
  · obtain ⟨s, hs, e1, e2, e3⟩ := hpm r hr
    have e4 : sl n (sw c p g) (sw c p cp) r = sl n g cp s := by unfold sl; rw [e1, e2]
    have e5 : rowL n (swapM c p M) r = rowL n M s := by unfold rowL; exact List.map_congr_left (fun k _ => e3 k)
    rw [e4, e5]
    have ne : (sl n g cp s).ownBlock ≠ some mb := fun q => h.topApart hs (by rw [sl_block] at q; rw [q]; rfl)
    exact ownsRow_setCell_other (ownsRow_setCell_other (h.row s hs) ne _) ne _
  · have key : ∀ a b, a < i → b < i → g a = g b → a = b := fun a b ha hb e => Classical.byContradiction fun hn => h.apart a b ha hb hn e
    have hq : ∀ r, sw c p g r = g (if r = c then p else if r = p then c else r) := fun r => by
      unfold sw
      by_cases h1 : r = c
      · rw [if_pos h1, if_pos h1]
      · rw [if_neg h1, if_neg h1]
        by_cases h2 : r = p
        · rw [if_pos h2, if_pos h2]
        · rw [if_neg h2, if_neg h2]
    intro e
    rw [hq, hq] at e
    have l : ∀ r, r < i → (if r = c then p else if r = p then c else r) < i := fun r hr => by
      split
      · exact hp
      · split
        · exact hc
        · exact hr
    have := key _ _ (l r hr) (l s hs) e
    split at this <;> split at this <;> (try split at this) <;> (try split at this) <;> omega
  · obtain ⟨s, hs, e1, _⟩ := hpm r hr
    rw [e1]; exact h.newRow s hs

/-- A row more. -/
theorem Mat.push {w' : World} {m' : Value} {rb rc : Nat} (h : Mat B w m i n g cp M) (hr : w.ownsRow 0 5 1 (.slice (some ⟨rb, 0, none⟩) n rc) n ((rowL n M i).map U)) (hB : B ≤ rb) (hap : ∀ r, r < i → g r ≠ rb)
    (ht : w'.ownsRow 0 39 1 m' (i + 1) ((List.range i).map (sl n g cp) ++ [.slice (some ⟨rb, 0, none⟩) n rc]))
    (hc : Chg (fun k => m.ownBlock = some k) w w') (hm : ∀ k, m'.ownBlock = some k → B ≤ k) :
    Mat B w' m' (i + 1) n (fun r => if r = i then rb else g r) (fun r => if r = i then rc else cp r) M := by
  have hsl : ∀ r, r < i → sl n (fun r => if r = i then rb else g r) (fun r => if r = i then rc else cp r) r = sl n g cp r := by
    intro r hr; unfold sl; simp only [if_neg (Nat.ne_of_lt hr)]
  have hsi : sl n (fun r => if r = i then rb else g r) (fun r => if r = i then rc else cp r) i = .slice (some ⟨rb, 0, none⟩) n rc := by
    unfold sl; simp only [if_pos]
  refine ⟨?_, fun r hr' => ?_, fun r s hr' hs hne => ?_, hm, fun r hr' => ?_⟩
  · rw [List.range_succ, List.map_append, List.map_congr_left (fun r hr => hsl r (List.mem_range.1 hr)), List.map_cons, List.map_nil, hsi]
    exact ht
  · by_cases e : r = i
    · subst e
      rw [hsi]
      exact ownsRow_keep hr fun k hk => hc.block k (ownsRow_lt hr hk) (fun q => rows_apart h.top hr (by decide) k q hk)
    · have hlt : r < i := by omega
      rw [hsl r hlt]
      exact ownsRow_keep (h.row r hlt) fun k hk => hc.block k (ownsRow_lt (h.row r hlt) hk) (fun q => rows_apart h.top (h.row r hlt) (by decide) k q hk)
  · show (if r = i then rb else g r) ≠ (if s = i then rb else g s)
    split <;> split
    · omega
    · exact fun e => hap s (by omega) e.symm
    · exact hap r (by omega)
    · exact h.apart r s (by omega) (by omega) hne
  · show B ≤ if r = i then rb else g r
    split
    · exact hB
    · exact h.newRow r (by omega)

/-- What is told of a table is told of its places alone. -/
theorem Mat.congr {N : Nat → Nat → Nat} (h : Mat B w m i n g cp M) (e : ∀ r k, r < i → k < n → M r k = N r k) : Mat B w m i n g cp N :=
  ⟨h.top, fun r hr => by
    have e2 : rowL n N r = rowL n M r := List.map_congr_left (fun k hk => (e r k hr (List.mem_range.1 hk)).symm)
    rw [e2]; exact h.row r hr, h.apart, h.newTop, h.newRow⟩

end Go.Proofs.Ytceekoifljeddaa

/- The contract of the document's own Solve of layer 5: the polynomial that is at bytes what is told. -/
namespace Go.Proofs.Ytceekoifljeddaa
open Go.RowKit
open Bt

/-- A row's powers. -/
def powL (x t : Nat) : List Nat := (List.range t).map (gpow x)

theorem powL_succ (x t : Nat) : powL x (t + 1) = powL x t ++ [gpow x t] := by simp [powL, List.range_succ]

theorem powL_length (x t : Nat) : (powL x t).length = t := by simp [powL]

theorem vand_row (at_ vals : List Nat) (j : Nat) : rowL (at_.length + 1) (vand at_ vals) j = powL (at_.getD j 0) at_.length ++ [vals.getD j 0] := by
  unfold rowL powL
  rw [List.range_succ, List.map_append]
  congr 1
  · refine List.map_congr_left (fun k hk => ?_)
    unfold vand; rw [if_pos (List.mem_range.1 hk)]
  · simp [vand]

/-- A row divided, so far. -/
def scT (c v t : Nat) (M : Nat → Nat → Nat) : Nat → Nat → Nat := fun r k => if r = c ∧ k < t then gmul (M c k) v else M r k

theorem scT_zero (c v : Nat) (M : Nat → Nat → Nat) : scT c v 0 M = M := by funext r k; simp [scT]

theorem scT_at (c v t : Nat) (M : Nat → Nat → Nat) : scT c v t M c t = M c t := by simp [scT]

theorem scT_succ (c v t : Nat) (M : Nat → Nat → Nat) : setM c t (gmul (M c t) v) (scT c v t M) = scT c v (t + 1) M := by
  funext r k
  unfold setM scT
  by_cases h1 : r = c
  · by_cases h2 : k = t
    · rw [if_pos ⟨h1, h2⟩, if_pos ⟨h1, by omega⟩, h2]
    · rw [if_neg (fun h => h2 h.2)]
      by_cases h3 : k < t
      · rw [if_pos ⟨h1, h3⟩, if_pos ⟨h1, by omega⟩]
      · rw [if_neg (fun h => h3 h.2), if_neg (fun h => by omega)]
  · rw [if_neg (fun h => h1 h.1), if_neg (fun h => h1 h.1), if_neg (fun h => h1 h.1)]

theorem scT_all (c v n r k : Nat) (M : Nat → Nat → Nat) (hk : k < n) : scT c v n M r k = scaleM c v M r k := by
  unfold scT scaleM
  by_cases h1 : r = c
  · rw [if_pos ⟨h1, hk⟩, if_pos h1]
  · rw [if_neg (fun h => h1 h.1), if_neg h1]

/-- Rows that have been turned, so far. -/
def elT (c t s : Nat) (M : Nat → Nat → Nat) : Nat → Nat → Nat := fun r k => if r < t ∨ (r = t ∧ k < s) then elimM c M r k else M r k

theorem elT_zero (c : Nat) (M : Nat → Nat → Nat) : elT c 0 0 M = M := by funext r k; simp [elT]

theorem elT_at (c t s k : Nat) (M : Nat → Nat → Nat) (hk : s ≤ k) : elT c t s M t k = M t k := by
  unfold elT; rw [if_neg (by omega)]

theorem elim_c (c k : Nat) (M : Nat → Nat → Nat) : elimM c M c k = M c k := by simp [elimM]

theorem elT_c (c t s k : Nat) (M : Nat → Nat → Nat) : elT c t s M c k = M c k := by
  unfold elT; split
  · exact elim_c c k M
  · rfl

theorem elT_succ (c t s : Nat) (M : Nat → Nat → Nat) : setM t s (elimM c M t s) (elT c t s M) = elT c t (s + 1) M := by
  funext r k
  unfold setM elT
  by_cases h1 : r = t ∧ k = s
  · rw [if_pos h1, if_pos (by omega), h1.1, h1.2]
  · rw [if_neg h1]
    by_cases h2 : r < t ∨ (r = t ∧ k < s)
    · rw [if_pos h2, if_pos (by omega)]
    · rw [if_neg h2, if_neg (by omega)]

theorem elT_row (c t n r k : Nat) (M : Nat → Nat → Nat) (hk : k < n) : elT c t n M r k = elT c (t + 1) 0 M r k := by
  unfold elT
  by_cases h : r < t + 1
  · rw [if_pos (by omega), if_pos (by omega)]
  · rw [if_neg (by omega), if_neg (by omega)]

theorem elT_skip (c : Nat) (M : Nat → Nat → Nat) : elT c c 0 M = elT c (c + 1) 0 M := by
  funext r k
  by_cases h : r = c
  · subst h; rw [elT_c, elT_c]
  · unfold elT
    by_cases h2 : r < c
    · rw [if_pos (by omega), if_pos (by omega)]
    · rw [if_neg (by omega), if_neg (by omega)]

theorem elT_all (c n r k : Nat) (M : Nat → Nat → Nat) (hr : r < n) : elT c n 0 M r k = elimM c M r k := by
  unfold elT; rw [if_pos (by omega)]

theorem elim_at (c t k : Nat) (M : Nat → Nat → Nat) (h : t ≠ c) : M t k ^^^ gmul (M t c) (M c k) = elimM c M t k := by
  unfold elimM; rw [if_neg h]

theorem refMul_flip (a b : Nat) (ha : a < 256) (hb : b < 256) (w : World) :
    Calls Try.prog 73 #[.int .u8 (a : Int), .int .u8 (b : Int)] w fun e w' => e = .returned (.int .u8 ((gmul a b : Nat) : Int)) ∧ w' = w :=
  (refMul_any a b ha hb w).mono (fun _ _ h => ⟨h.1, h.2.symm⟩)

set_option maxRecDepth 100000 in
set_option maxHeartbeats 4000000 in
theorem refSolve_any (ao bo : Option Addr) (ca cb : Nat) (at_ vals : List Nat) (ha : Byt at_) (hd : at_.Nodup) (hv : Byt vals) (hl : vals.length = at_.length) (hn : at_.length ≤ 300) (w : World) (hr : Reads w ao at_) (hs : Reads w bo vals) :
    Calls Try.prog 60 #[.slice ao at_.length ca, .slice bo at_.length cb] w fun e w' => ∃ v, e = .returned v ∧ w'.ownsRow 0 5 1 v at_.length ((poly at_ vals).map U) ∧ (∀ j, v.ownBlock = some j → w.heap.size ≤ j) ∧ Below w.heap.size w w' := by
  obtain ⟨i8, hi8, hz80, hz81, hz82⟩ := info_parts info_u8
  obtain ⟨iR, hiR, hzR0, hzR1, hzR2⟩ := info_parts info_row
  have HA := Hid.intro ha
  have HD := Hid.intro hd
  have HV := Hid.intro hv
  have HL := Hid.intro hl
  have HR := Hid.intro hr
  have HS := Hid.intro hs
  clear ha hd hv hl hr hs
  obtain ⟨n, hnn⟩ : ∃ n, n = at_.length := ⟨_, rfl⟩
  have HN := Hid.intro hnn
  rw [← hnn] at hn ⊢
  clear hnn
  go_enter Try.func60, Try.ntmps60
  go_wp2_with fail
  go_loopw [6, 7] (fun m i wr => ∃ (j : Nat) (g cp : Nat → Nat), j ≤ n ∧ i = .int .i64 j ∧ Mat w.heap.size wr m j (n + 1) g cp (vand at_ vals) ∧ Below w.heap.size w wr) (fun _ i _ => n - (intOf i).toNat)
  case atStart => exact ⟨0, fun _ => 0, fun _ => 0, by omega, rfl, Mat.start _ _ _ _ _ _, Below.refl _ _⟩
  case round =>
    rename World => wo
    obtain ⟨j, g, cp, hj, rfl, MJ, BJ⟩ := hrel
    have MJH := Hid.intro MJ
    clear MJ
    by_cases hlt : j < n
    · have BJH := Hid.intro BJ
      clear BJ
      have hx := getD_byt HA.out j
      have hy := getD_byt HV.out j
      have ROWH := Hid.intro (vand_row at_ vals j)
      obtain ⟨ab, ao', e, hac⟩ := reads_at HR.out (by rw [← HN.out]; omega)
      subst e
      obtain ⟨bb, bo', e, hbc⟩ := reads_at HS.out (by rw [HL.out, ← HN.out]; omega)
      subst e
      have ca0 : w.cell? ⟨ab, ao' + j, none⟩ = some (U (at_.getD j 0)) := by
        rw [← List.getElem_eq_getD (h := by rw [← HN.out]; exact hlt) 0]; exact hac j (by rw [← HN.out]; exact hlt)
      have cb0 : w.cell? ⟨bb, bo' + j, none⟩ = some (U (vals.getD j 0)) := by
        rw [← List.getElem_eq_getD (h := by rw [HL.out, ← HN.out]; exact hlt) 0]; exact hbc j (by rw [HL.out, ← HN.out]; exact hlt)
      have CA := Hid.intro ca0
      have CB := Hid.intro cb0
      have i0 : (0 : Int) ≤ (j : Int) := by omega
      have i1 : (j : Int) < (n : Int) := by omega
      generalize at_.getD j 0 = x at hx CA ROWH
      generalize vals.getD j 0 = y at hy CB ROWH
      clear hac hbc ca0 cb0
      go_wp2_with fail
      go_loopw [8, 9] (fun v k ws => ∃ t : Nat, t ≤ n ∧ k = .int .i64 t ∧ ws.ownsRow 0 5 1 v t ((powL x t).map U) ∧ (∀ q, v.ownBlock = some q → wo.heap.size ≤ q) ∧ Below wo.heap.size wo ws) (fun _ k _ => n - (intOf k).toNat)
      case atStart => exact ⟨0, by omega, rfl, World.ownsRow_nil _ _ _ _, nil_own _, Below.refl _ _⟩
      case round =>
        obtain ⟨t, ht, rfl, RT, NT, BT⟩ := hrel
        have RTH := Hid.intro RT
        have NTH := Hid.intro NT
        clear RT NT
        by_cases htl : t < n
        · have c1 : wr.cell? ⟨ab, ao' + j, none⟩ = some (U x) := (BT.cell (Nat.lt_of_lt_of_le (cell_lt CA.out) BJH.out.size)).trans ((BJH.out.cell (cell_lt CA.out)).trans CA.out)
          have hp := gpow_lt hx t
          have HP := Hid.intro (fun w => refPow_nat x t hx (by omega) w)
          have TS := Hid.intro (powL_succ x t)
          generalize gpow x t = P at hp HP TS
          have R6H := Hid.intro (RTH.out.alloc (.cells #[U P] 5))
          have i2 : (t : Int) < (n : Int) := by omega
          go_wp2_with fail
          refine (HP.out _).mono ?_
          rintro e1 w1 ⟨rfl, rfl⟩
          clear HP
          go_wp2_with (at_builtin; refine wpList_append_lies _ rfl _ _ 39 rfl 0 5 i8 (.int .u8 0) 1 1 Try.underlying39 hi8 hz80 hz81 hz82 rfl (by decide) u8 _ _ rfl R6H.out ⟨wr.heap.size, 0, none⟩ 1 1 [U P] rfl rfl (World.news_of_block (cs := #[U P]) (t := 5) (fr := (0, 0)) (heap_alloc_new wr _)) (by simp [Value.oneCell', U]) (by decide) (by unfold maxLen; omega) (by omega) (Nat.zero_le _) (wr.heap.size + 1) (by simp) ?_)
          intro g7 cp7 w7 hown hgrow hat hgl
          have C7 : Chg (fun q => u8.ownBlock = some q) wr w7 := ((Chg.refl _ _).alloc _).grown hgrow (fun q hq _ => hq)
          have B7 := BT.trans (C7.below BT.size (fun q hq => NTH.out q hq))
          have N7 : ∀ q, (Value.slice (some ⟨g7, 0, none⟩) (t + 1) cp7).ownBlock = some q → wo.heap.size ≤ q := by
            intro q hq
            have e : g7 = q := by simpa [Value.ownBlock] using hq
            subst e
            rcases hat with hat | hat
            · exact NTH.out g7 hat
            · have := BT.size; omega
          have R7 : w7.ownsRow 0 5 1 (.slice (some ⟨g7, 0, none⟩) (t + 1) cp7) (t + 1) ((powL x (t + 1)).map U) := by
            rw [TS.out, List.map_append]; exact hown
          have R7H := Hid.intro R7
          have N7H := Hid.intro N7
          clear hown hgrow hat R7 N7 C7 BT R6H NTH RTH
          go_wp2
          go_roundw
          case rel => exact ⟨t + 1, by omega, by go_num, R7H.out, N7H.out, B7⟩
          case measure => simp [intOf]; omega
        · have hte : t = n := by omega
          subst hte
          have c1 : wr.cell? ⟨bb, bo' + j, none⟩ = some (U y) := (BT.cell (Nat.lt_of_lt_of_le (cell_lt CB.out) BJH.out.size)).trans ((BJH.out.cell (cell_lt CB.out)).trans CB.out)
          have R6H := Hid.intro (RTH.out.alloc (.cells #[U y] 5))
          have i2 : ¬ (t : Int) < (t : Int) := by omega
          go_wp2_with (at_builtin; refine wpList_append_lies _ rfl _ _ 39 rfl 0 5 i8 (.int .u8 0) 1 1 Try.underlying39 hi8 hz80 hz81 hz82 rfl (by decide) u8 _ _ rfl R6H.out ⟨wr.heap.size, 0, none⟩ 1 1 [U y] rfl rfl (World.news_of_block (cs := #[U y]) (t := 5) (fr := (0, 0)) (heap_alloc_new wr _)) (by simp [Value.oneCell', U]) (by decide) (by unfold maxLen; omega) (by omega) (Nat.zero_le _) (wr.heap.size + 1) (by simp) ?_)
          intro g7 cp7 w7 hown hgrow hat hgl
          have C7 : Chg (fun q => u8.ownBlock = some q) wr w7 := ((Chg.refl _ _).alloc _).grown hgrow (fun q hq _ => hq)
          have B7 := BT.trans (C7.below BT.size (fun q hq => NTH.out q hq))
          have N7 : wo.heap.size ≤ g7 := by
            rcases hat with hat | hat
            · exact NTH.out g7 hat
            · have := BT.size; omega
          have R7 : w7.ownsRow 0 5 1 (.slice (some ⟨g7, 0, none⟩) (t + 1) cp7) (t + 1) ((rowL (t + 1) (vand at_ vals) j).map U) := by
            rw [HN.out, ROWH.out, List.map_append, ← HN.out]; exact hown
          have M7 := MJH.out.kept (below_chg B7) (fun _ _ => id) (fun _ _ => id)
          have AP : ∀ r, r < j → g r ≠ g7 := fun r hr e => by
            have : g r < wo.heap.size := ownsRow_lt (MJH.out.row r hr) rfl
            omega
          have B7w : Below w.heap.size w w7 := BJH.out.trans ((below_chg B7).below BJH.out.size (fun _ f => f.elim))
          have R8H := Hid.intro (M7.top.alloc (.cells #[.slice (some ⟨g7, 0, none⟩) (t + 1) cp7] 39))
          have N7w : w.heap.size ≤ g7 := Nat.le_trans BJH.out.size N7
          have M7H := Hid.intro M7
          have R7H := Hid.intro R7
          have APH := Hid.intro AP
          clear hown hgrow hat R7 M7 AP C7 BT B7 R6H NTH RTH c1 CA CB BJH
          go_wp2_with (at_builtin; refine wpList_append_lies _ rfl _ _ 48 rfl 0 39 iR (.slice none 0 0) 1 24 Try.underlying48 hiR hzR0 hzR1 hzR2 rfl (by decide) u6 j _ rfl R8H.out ⟨w7.heap.size, 0, none⟩ 1 1 [.slice (some ⟨g7, 0, none⟩) (t + 1) cp7] rfl rfl (World.news_of_block (cs := #[.slice (some ⟨g7, 0, none⟩) (t + 1) cp7]) (t := 39) (fr := (0, 0)) (heap_alloc_new w7 _)) (by simp [Value.oneCell']) (by decide) (by unfold maxLen; omega) (by omega) (Nat.zero_le _) (w7.heap.size + 1) (by simp) ?_)
          intro g9 cp9 w9 hown9 hgrow9 hat9 hgl9
          have C9 : Chg (fun q => u6.ownBlock = some q) w7 w9 := ((Chg.refl _ _).alloc _).grown hgrow9 (fun q hq _ => hq)
          have M9 := M7H.out.push R7H.out N7w APH.out hown9 C9 (fun k hk => by
            have e : g9 = k := by simpa [Value.ownBlock] using hk
            subst e
            rcases hat9 with hat9 | hat9
            · exact M7H.out.newTop _ hat9
            · have := B7w.size; omega)
          have B9 := B7w.trans (C9.below B7w.size (fun q hq => M7H.out.newTop q hq))
          have M9H := Hid.intro M9
          clear hown9 hgrow9 hat9 M9 C9 M7H R7H APH R8H MJH
          go_wp2
          go_roundw
          case rel => exact ⟨j + 1, _, _, by omega, by go_num, M9H.out, B9⟩
          case measure => simp [intOf]; omega
    · have hje : n = j := by omega
      subst hje
      have i1 : ¬ (n : Int) < (n : Int) := by omega
      have ESH := Hid.intro (Elim.start HA.out HV.out)
      go_wp2_with fail
      go_loopw [10] (fun c ws => ∃ (k : Nat) (g cp : Nat → Nat) (M : Nat → Nat → Nat), k ≤ n ∧ c = .int .i64 k ∧ Mat w.heap.size ws u6 n (n + 1) g cp M ∧ Elim at_ vals M k ∧ Below w.heap.size w ws) (fun c _ => n - (intOf c).toNat)
      case atStart => exact ⟨0, g, cp, _, by omega, rfl, MJH.out, ESH.out, BJ⟩
      case round =>
        rename World => wc
        clear ESH MJH BJ
        obtain ⟨c, g1, cp1, M, hc, rfl, MC, EC, BC⟩ := hrel
        by_cases hcn : c < n
        · obtain ⟨mb, mc, e⟩ := MC.form (by omega)
          subst e
          have MCH := Hid.intro MC
          have ECH := Hid.intro EC
          have BCH := Hid.intro BC
          clear MC EC BC
          have c0 : (0 : Int) ≤ (c : Int) := by omega
          have c1 : (c : Int) < (n : Int) := by omega
          have c2 : (c : Int) < (n : Int) + 1 := by omega
          go_wp2_with fail
          go_loop [11] (fun p => ∃ q : Nat, c ≤ q ∧ q ≤ n ∧ p = .int .i64 q ∧ ∀ s, c ≤ s → s < q → M s c = 0) (fun p => n - (intOf p).toNat)
          case atStart => exact ⟨c, by omega, by omega, rfl, fun s h1 h2 => absurd h1 (by omega)⟩
          case round =>
            obtain ⟨q, hq1, hq2, rfl, hz⟩ := hrel
            have HZ := Hid.intro hz
            clear hz
            by_cases hqn : q < n
            · have ct := MCH.out.cellTop hqn
              have cr := MCH.out.cellRow hqn (k := c) (by omega)
              have q0 : (0 : Int) ≤ (q : Int) := by omega
              have q1 : (q : Int) < (n : Int) := by omega
              have hb := ECH.out.byt q c
              by_cases h0 : M q c = 0
              · rw [h0] at cr
                have H0 := Hid.intro h0
                clear h0 hb
                go_wp2
                go_round
                case rel => exact ⟨q + 1, by omega, by omega, by go_num, fun s h1 h2 => by
                  by_cases e : s = q
                  · rw [e]; exact H0.out
                  · exact HZ.out s h1 (by omega)⟩
                case measure => simp [intOf]; omega
              · have hz1 : (((M q c : Nat) : Int) == 0) = false := by simp; omega
                have hpc : ((q : Int) == (n : Int)) = false := by simp; omega
                have H0 := Hid.intro h0
                clear h0 HZ
                go_wp2_with fail
                have ctc := MCH.out.cellTop hcn
                have fc := MCH.out.frozenTop c
                have fq := MCH.out.frozenTop q
                obtain ⟨x2, cs2⟩ : ∃ x2, (wc.setCell ⟨mb, c, none⟩ (.slice (some ⟨g1 q, 0, none⟩) (n + 1) (cp1 q))).cell? ⟨mb, q, none⟩ = some x2 := by
                  by_cases e : c = q
                  · subst e; exact ⟨_, World.cell?_setCell_same _ _ _ ctc⟩
                  · exact ⟨_, (World.cell?_setCell_other _ _ _ _ (fun h => e (congrArg Addr.off h))).trans ct⟩
                have MS := (MCH.out.swap hcn hqn).drew
                have BS : Below w.heap.size w ((wc.setCell ⟨mb, c, none⟩ (.slice (some ⟨g1 q, 0, none⟩) (n + 1) (cp1 q))).setCell ⟨mb, q, none⟩ (.slice (some ⟨g1 c, 0, none⟩) (n + 1) (cp1 c))).drew :=
                  ((BCH.out.setCell (p := ⟨mb, c, none⟩) (MCH.out.newTop mb rfl) _).setCell (p := ⟨mb, q, none⟩) (MCH.out.newTop mb rfl) _).drew
                obtain ⟨M1, hM1⟩ : ∃ M1, M1 = swapM c q M := ⟨_, rfl⟩
                have hcc : M1 c c = M q c := by rw [hM1]; simp [swapM]
                have hby : ∀ r k, M1 r k < 256 := fun r k => by rw [hM1]; exact ECH.out.byt.swap c q r k
                have HSTEP := Hid.intro (show stepM c q M = elimM c (scaleM c (ginv (M1 c c)) M1) by rw [hcc, hM1]; rfl)
                have HNEXT := Hid.intro (ECH.out.step hq1 (by rw [← HN.out]; exact hqn) H0.out)
                rw [← hM1] at MS
                have MSH := Hid.intro MS
                have BSH := Hid.intro BS
                have HBY := Hid.intro hby
                clear MS BS hM1 hcc hby
                go_region
                generalize ((wc.setCell ⟨mb, c, none⟩ (.slice (some ⟨g1 q, 0, none⟩) (n + 1) (cp1 q))).setCell ⟨mb, q, none⟩ (.slice (some ⟨g1 c, 0, none⟩) (n + 1) (cp1 c))).drew = w2 at MSH BSH ⊢
                generalize sw c q g1 = g2 at MSH
                generalize sw c q cp1 = cp2 at MSH
                clear ct cr hb hz1 ctc fc fq cs2 MCH ECH BCH H0
                have ct := MSH.out.cellTop hcn
                have cr := MSH.out.cellRow hcn (k := c) (by omega)
                have hb := HBY.out c c
                have HI := Hid.intro (fun w => refInv_any (M1 c c) hb w)
                have hv := ginv_lt (M1 c c)
                generalize ginv (M1 c c) = v at HI hv HSTEP
                go_wp2_with fail
                refine (HI.out _).mono ?_
                rintro e1 w1 ⟨rfl, rfl⟩
                clear HI ct cr hb
                go_wp2_with fail
                go_loopw [13] (fun k ws => ∃ t : Nat, t ≤ n + 1 ∧ k = .int .i64 t ∧ Mat w.heap.size ws (.slice (some ⟨mb, 0, none⟩) n mc) n (n + 1) g2 cp2 (scT c v t M1) ∧ Below w.heap.size w ws) (fun k _ => n + 1 - (intOf k).toNat)
                case atStart => exact ⟨0, by omega, rfl, by rw [scT_zero]; exact MSH.out, BSH.out⟩
                case round =>
                  rename World => wk
                  clear MSH BSH
                  obtain ⟨t, ht, rfl, MK, BK⟩ := hrel
                  by_cases htl : t < n + 1
                  · have ct := MK.cellTop hcn
                    have cr := MK.cellRow hcn htl
                    rw [scT_at] at cr
                    have fr := MK.frozenRow hcn t
                    have hb := HBY.out c t
                    have HM := Hid.intro (fun w => refMul_flip (M1 c t) v hb hv w)
                    have MN := (MK.set (r := c) (k := t) (v := gmul (M1 c t) v) hcn).drew
                    rw [scT_succ] at MN
                    have BN := (BK.setCell (p := ⟨g2 c, t, none⟩) (MK.newRow c hcn) (U (gmul (M1 c t) v))).drew
                    have hG := gmul_lt hb v
                    generalize gmul (M1 c t) v = G at HM MN BN hG
                    generalize M1 c t = b at cr HM hb
                    have MNH := Hid.intro MN
                    have BNH := Hid.intro BN
                    have t0 : (0 : Int) ≤ (t : Int) := by omega
                    have t1 : (t : Int) < (n : Int) + 1 := by omega
                    have t2 : (t : Int) ≤ (n : Int) := by omega
                    have t3 : t ≤ n := by omega
                    clear MK BK MN BN
                    go_wp2_with fail
                    refine wp_region_still_tail 15 (by kernel_rfl) (by kernel_rfl) ?_
                    simp only [List.take_succ_cons, List.take_zero, List.drop_succ_cons, List.drop_zero]
                    change wpStill _ _ wk.drew _ _ _
                    iterate 13 still_step
                    still_call (HM.out _)
                    still_step
                    refine wpStill_nil ?_
                    go_wp2
                    go_roundw
                    case rel => exact ⟨t + 1, by omega, by go_num, MNH.out, BNH.out⟩
                    case measure => simp [intOf]; omega
                  · have hte : t = n + 1 := by omega
                    subst hte
                    have M2 := MK.congr (N := scaleM c v M1) (fun r k _ hk => scT_all c v (n + 1) r k M1 hk)
                    obtain ⟨N, hN⟩ : ∃ N, N = scaleM c v M1 := ⟨_, rfl⟩
                    have hby : ∀ r k, N r k < 256 := fun r k => by rw [hN]; exact Bm.scale (fun r k => HBY.out r k) c v r k
                    rw [← hN] at M2
                    have HSTEP2 := Hid.intro (show stepM c q M = elimM c N by rw [hN]; exact HSTEP.out)
                    have HBN := Hid.intro hby
                    have M2H := Hid.intro M2
                    have BKH := Hid.intro BK
                    have t2 : ¬ ((n + 1 : Nat) : Int) ≤ (n : Int) := by omega
                    have t3 : ¬ n + 1 ≤ n := by omega
                    clear M2 BK MK hN hby HSTEP HBY hv
                    go_wp2_with fail
                    go_loopw [14] (fun r ws => ∃ t : Nat, t ≤ n ∧ r = .int .i64 t ∧ Mat w.heap.size ws (.slice (some ⟨mb, 0, none⟩) n mc) n (n + 1) g2 cp2 (elT c t 0 N) ∧ Below w.heap.size w ws) (fun r _ => n - (intOf r).toNat)
                    case atStart => exact ⟨0, by omega, rfl, by rw [elT_zero]; exact M2H.out, BKH.out⟩
                    case round =>
                      rename World => wx
                      clear M2H BKH
                      obtain ⟨t, ht, rfl, MX, BX⟩ := hrel
                      have MXH := Hid.intro MX
                      have BXH := Hid.intro BX
                      clear MX BX
                      by_cases htl : t < n
                      · have ct := MXH.out.cellTop htl
                        have cr := MXH.out.cellRow htl (k := c) (by omega)
                        rw [elT_at c t 0 c N (by omega)] at cr
                        have hf := HBN.out t c
                        have HF := Hid.intro (show N t c = N t c from rfl)
                        have t0 : (0 : Int) ≤ (t : Int) := by omega
                        have t1 : (t : Int) < (n : Int) := by omega
                        by_cases htc : t = c
                        · subst htc
                          have n0 : (0 : Int) ≤ (n : Int) := by omega
                          have MS := MXH.out
                          rw [elT_skip] at MS
                          have MSH := Hid.intro MS
                          clear MS MXH
                          go_wp2_with fail
                          go_loop [16] (fun k => k = .int .i64 0) (fun _ => 0)
                          case atStart => rfl
                          case round =>
                            subst hrel
                            clear ct cr
                            go_wp2
                            go_roundw
                            case rel => exact ⟨t + 1, by omega, by go_num, MSH.out, BXH.out⟩
                            case measure => simp [intOf]; omega
                        · have HE := Hid.intro (fun s => elim_at c t s N htc)
                          obtain ⟨f, hfe⟩ : ∃ f, f = N t c := ⟨_, rfl⟩
                          rw [← hfe] at HE cr hf
                          have tc1 : ((t : Int) == (c : Int)) = false := by simp; omega
                          have tc2 : ¬ (t : Int) = (c : Int) := by omega
                          have tc3 : ¬ (c : Int) = (t : Int) := by omega
                          have tc4 : ¬ c = t := by omega
                          clear hfe HF
                          go_wp2_with fail
                          go_loopw [16] (fun k ws => ∃ s : Nat, s ≤ n + 1 ∧ k = .int .i64 s ∧ Mat w.heap.size ws (.slice (some ⟨mb, 0, none⟩) n mc) n (n + 1) g2 cp2 (elT c t s N) ∧ Below w.heap.size w ws) (fun k _ => n + 1 - (intOf k).toNat)
                          case atStart => exact ⟨0, by omega, rfl, MXH.out, BXH.out⟩
                          case round =>
                            rename World => wy
                            clear MXH BXH ct cr
                            obtain ⟨s, hs, rfl, MY, BY⟩ := hrel
                            by_cases hsl : s < n + 1
                            · have ct := MY.cellTop htl
                              have cr := MY.cellRow htl hsl
                              rw [elT_at c t s s N (Nat.le_refl _)] at cr
                              have ctc := MY.cellTop hcn
                              have crc := MY.cellRow hcn hsl
                              rw [elT_c] at crc
                              have fr := MY.frozenRow htl s
                              have hb := HBN.out t s
                              have hd := HBN.out c s
                              have HM := Hid.intro (fun w => refMul_flip f (N c s) hf hd w)
                              have MN := (MY.set (r := t) (k := s) (v := elimM c N t s) htl).drew
                              rw [elT_succ] at MN
                              have BN := (BY.setCell (p := ⟨g2 t, s, none⟩) (MY.newRow t htl) (U (elimM c N t s))).drew
                              have hG := gmul_lt hf (N c s)
                              have hx8 := u8_xor_nat (N t s) (gmul f (N c s)) hb hG
                              rw [HE.out s] at hx8
                              generalize elimM c N t s = E at MN BN hx8
                              generalize gmul f (N c s) = G at HM hG hx8
                              generalize N t s = b at cr hb hx8
                              generalize N c s = d at crc hd HM
                              have MNH := Hid.intro MN
                              have BNH := Hid.intro BN
                              have s0 : (0 : Int) ≤ (s : Int) := by omega
                              have s1 : (s : Int) < (n : Int) + 1 := by omega
                              have s2 : (s : Int) ≤ (n : Int) := by omega
                              have s3 : s ≤ n := by omega
                              clear MY BY MN BN
                              go_wp2_with fail
                              refine wp_region_still_tail 23 (by kernel_rfl) (by kernel_rfl) ?_
                              simp only [List.take_succ_cons, List.take_zero, List.drop_succ_cons, List.drop_zero]
                              change wpStill _ _ wy.drew _ _ _
                              iterate 20 still_step
                              still_call (HM.out _)
                              iterate 2 still_step
                              refine wpStill_nil ?_
                              go_wp2
                              go_roundw
                              case rel => exact ⟨s + 1, by omega, by go_num, MNH.out, BNH.out⟩
                              case measure => simp [intOf]; omega
                            · have hse : s = n + 1 := by omega
                              subst hse
                              have MN := MY.congr (N := elT c (t + 1) 0 N) (fun r k _ hk => elT_row c t (n + 1) r k N hk)
                              have MNH := Hid.intro MN
                              have BNH := Hid.intro BY
                              have s2 : ¬ ((n + 1 : Nat) : Int) ≤ (n : Int) := by omega
                              have s3 : ¬ n + 1 ≤ n := by omega
                              clear MY BY MN
                              go_wp2
                              go_roundw
                              case rel => exact ⟨t + 1, by omega, by go_num, MNH.out, BNH.out⟩
                              case measure => simp [intOf]; omega
                      · have hte : n = t := by omega
                        subst hte
                        have MN := MXH.out.congr (N := stepM c q M) (fun r k hr _ => by rw [HSTEP2.out]; exact elT_all c n r k N hr)
                        have MNH := Hid.intro MN
                        clear MN MXH
                        go_wp2
                        go_roundw
                        case rel => exact ⟨c + 1, g2, cp2, _, by omega, by go_num, MNH.out, HNEXT.out, BXH.out⟩
                        case measure => simp [intOf]; omega
            · obtain ⟨p, h1, h2, h3⟩ := ECH.out.pivot HA.out HD.out (by rw [← HN.out]; exact hcn)
              exact absurd (HZ.out p h1 (by rw [← HN.out] at h2; omega)) h3
        · have hce : n = c := by omega
          subst hce
          have EN := EC
          rw [HN.out] at EN
          have DONE := EN.done HA.out HD.out HV.out HL.out
          rw [← HN.out] at DONE
          have DH := Hid.intro DONE
          have HBM := Hid.intro EC.byt
          have MCH := Hid.intro MC
          have BCH := Hid.intro BC
          clear EN EC MC BC DONE
          go_wp2_with fail
          go_loopw [17, 18] (fun v k ws => ∃ t : Nat, t ≤ n ∧ k = .int .i64 t ∧ ws.ownsRow 0 5 1 v t (((List.range t).map (fun r => M r n)).map U) ∧ (∀ q, v.ownBlock = some q → wc.heap.size ≤ q) ∧ Below wc.heap.size wc ws) (fun _ k _ => n - (intOf k).toNat)
          case atStart => exact ⟨0, by omega, rfl, World.ownsRow_nil _ _ _ _, nil_own _, Below.refl _ _⟩
          case round =>
            obtain ⟨t, ht, rfl, RT, NT, BT⟩ := hrel
            have RTH := Hid.intro RT
            have NTH := Hid.intro NT
            clear RT NT
            by_cases htl : t < n
            · have MT := MCH.out.kept (below_chg BT) (fun _ _ => id) (fun _ _ => id)
              obtain ⟨mb, mc, e⟩ := MT.form (by omega)
              subst e
              have ct := MT.cellTop htl
              have cr := MT.cellRow htl (k := n) (by omega)
              have hb := HBM.out t n
              have TS := Hid.intro (show (List.range (t + 1)).map (fun r => M r n) = (List.range t).map (fun r => M r n) ++ [M t n] by simp [List.range_succ])
              generalize M t n = P at cr hb TS
              have R6H := Hid.intro (RTH.out.alloc (.cells #[U P] 5))
              have t0 : (0 : Int) ≤ (t : Int) := by omega
              have t1 : (t : Int) < (n : Int) := by omega
              have t2 : (n : Int) < (n : Int) + 1 := by omega
              have t3 : (0 : Int) ≤ (n : Int) := by omega
              clear MT
              go_wp2_with (at_builtin; refine wpList_append_lies _ rfl _ _ 39 rfl 0 5 i8 (.int .u8 0) 1 1 Try.underlying39 hi8 hz80 hz81 hz82 rfl (by decide) u17 _ _ rfl R6H.out ⟨wr.heap.size, 0, none⟩ 1 1 [U P] rfl rfl (World.news_of_block (cs := #[U P]) (t := 5) (fr := (0, 0)) (heap_alloc_new wr _)) (by simp [Value.oneCell', U]) (by decide) (by unfold maxLen; omega) (by omega) (Nat.zero_le _) (wr.heap.size + 1) (by simp) ?_)
              intro g7 cp7 w7 hown hgrow hat hgl
              have C7 : Chg (fun q => u17.ownBlock = some q) wr w7 := ((Chg.refl _ _).alloc _).grown hgrow (fun q hq _ => hq)
              have B7 := BT.trans (C7.below BT.size (fun q hq => NTH.out q hq))
              have N7 : ∀ q, (Value.slice (some ⟨g7, 0, none⟩) (t + 1) cp7).ownBlock = some q → wc.heap.size ≤ q := by
                intro q hq
                have e : g7 = q := by simpa [Value.ownBlock] using hq
                subst e
                rcases hat with hat | hat
                · exact NTH.out g7 hat
                · have := BT.size; omega
              have R7 : w7.ownsRow 0 5 1 (.slice (some ⟨g7, 0, none⟩) (t + 1) cp7) (t + 1) (((List.range (t + 1)).map (fun r => M r n)).map U) := by
                rw [TS.out, List.map_append, List.map_map]; exact hown
              have R7H := Hid.intro R7
              have N7H := Hid.intro N7
              clear hown hgrow hat R7 N7 C7 BT R6H NTH RTH ct cr
              go_wp2
              go_roundw
              case rel => exact ⟨t + 1, by omega, by go_num, R7H.out, N7H.out, B7⟩
              case measure => simp [intOf]; omega
            · have hte : n = t := by omega
              subst hte
              have RL := RTH.out
              rw [DH.out] at RL
              have RLH := Hid.intro RL
              have BL : Below w.heap.size w wr := BCH.out.trans ((below_chg BT).below BCH.out.size (fun _ f => f.elim))
              clear RL RTH BT
              go_wp2
              go_ret
              exact ⟨_, rfl, RLH.out, fun q hq => Nat.le_trans BCH.out.size (NTH.out q hq), BL⟩

end Go.Proofs.Ytceekoifljeddaa

/- The contract of the document's own Value of layer 5: what a polynomial is at a byte. -/
namespace Go.Proofs.Ytceekoifljeddaa
open Go.RowKit
open Bt

/-- So far. -/
def vsum (l : List Nat) (x k : Nat) : Nat := fs k (fun i => gmul (l.getD i 0) (gpow x i))

theorem vsum_lt {l : List Nat} (hl : Byt l) (x k : Nat) : vsum l x k < 256 := fs_lt (fun i _ => gmul_lt (getD_byt hl i) _)

theorem vsum_all {l : List Nat} (hl : Byt l) {x : Nat} (hx : x < 256) : vsum l x l.length = pev l x := by
  have e : vsum l x l.length = fs l.length (fun i => gmul (gpow x i) (l.getD i 0)) :=
    fs_congr (fun i _ => gmul_comm (getD_byt hl i) (gpow_lt hx i))
  rw [e, fs_pev hx _ (getD_byt hl)]
  congr 1
  apply List.ext_getElem
  · simp
  · intro k h1 h2
    rw [List.getElem_map, List.getElem_range, ← List.getElem_eq_getD (h := h2) 0]

set_option maxRecDepth 100000 in
set_option maxHeartbeats 1000000 in
theorem refValue_any (ao : Option Addr) (cap : Nat) (l : List Nat) (hl : Byt l) (hn : l.length ≤ 300) (x : Nat) (hx : x < 256) (w : World) (hr : Reads w ao l) :
    Calls Try.prog 61 #[.slice ao l.length cap, .int .u8 (x : Int)] w fun e w' => e = .returned (.int .u8 ((pev l x : Nat) : Int)) ∧ ∃ q, w' = w.drewN q := by
  obtain ⟨R, hR⟩ : ∃ R, R = pev l x := ⟨_, rfl⟩
  rw [← hR]
  have HRR := Hid.intro hR
  have HR := Hid.intro hr
  have HL := Hid.intro hl
  clear hR hr hl
  go_enter Try.func61, Try.ntmps61
  go_wp2_with fail
  go_loopw [5, 6] (fun p i wr => ∃ k : Nat, k ≤ l.length ∧ i = .int .i64 k ∧ p = .int .u8 ((vsum l x k : Nat) : Int) ∧ ∃ q, wr = w.drewN q) (fun _ i _ => l.length - (intOf i).toNat)
  case atStart => exact ⟨0, by omega, rfl, rfl, 0, rfl⟩
  case round =>
    obtain ⟨k, hk, rfl, rfl, q, rfl⟩ := hrel
    have hv := vsum_lt HL.out x k
    by_cases hlt : k < l.length
    · obtain ⟨bb, off, e, hc⟩ := reads_at HR.out (by omega)
      subst e
      have c1 : w.cell? ⟨bb, off + k, none⟩ = some (U (l.getD k 0)) := by
        rw [← List.getElem_eq_getD (h := hlt) 0]; exact hc k hlt
      have hb := getD_byt HL.out k
      have hs : vsum l x (k + 1) = vsum l x k ^^^ gmul (l.getD k 0) (gpow x k) := rfl
      have hp := gpow_lt hx k
      have HP := Hid.intro (fun w => (refPow_nat x k hx (by omega) w).mono (fun _ _ h => ⟨h.1, h.2.symm⟩ : ∀ e w', _ → e = Ending.returned (.int .u8 ((gpow x k : Nat) : Int)) ∧ w' = w))
      generalize gpow x k = P at hs hp HP
      generalize l.getD k 0 = b at c1 hb hs
      have HM := Hid.intro (fun w => (refMul_any b P hb hp w).mono (fun _ _ h => ⟨h.1, h.2.symm⟩ : ∀ e w', _ → e = Ending.returned (.int .u8 ((gmul b P : Nat) : Int)) ∧ w' = w))
      have hm := gmul_lt hb P
      generalize gmul b P = G at HM hm hs
      have hx8 := u8_xor_nat _ G hv hm
      rw [← hs] at hx8
      obtain ⟨V1, hV1⟩ : ∃ V1, V1 = vsum l x (k + 1) := ⟨_, rfl⟩
      rw [← hV1] at hx8
      have HV1 := Hid.intro hV1
      generalize vsum l x k = V at hv hx8 ⊢
      have i0 : (0 : Int) ≤ (k : Int) := by omega
      have i1 : (k : Int) < (l.length : Int) := by omega
      clear hs hV1 hc
      go_wp2_with fail
      refine wp_region_still_tail 10 (by kernel_rfl) (by kernel_rfl) ?_
      simp only [List.take_succ_cons, List.take_zero, List.drop_succ_cons, List.drop_zero]
      change wpStill _ _ (w.drewN q).drew _ _ _
      iterate 7 still_step
      still_call (HP.out _)
      still_call (HM.out _)
      still_step
      refine wpStill_nil ?_
      go_wp2
      go_roundw
      case rel => exact ⟨k + 1, by omega, by go_num, by rw [← HV1.out], q + 1, rfl⟩
      case measure => simp [intOf]; omega
    · have hke : k = l.length := by omega
      subst hke
      have e := vsum_all HL.out hx
      rw [← HRR.out] at e
      rw [e]
      clear HRR hv e
      go_wp2
      go_ret
      exact ⟨rfl, q, rfl⟩

end Go.Proofs.Ytceekoifljeddaa

/- Contracts of the document's own May of layer 5. -/
namespace Go.Proofs.Ytceekoifljeddaa
open Go.RowKit
open Bt

set_option maxRecDepth 100000 in
set_option maxHeartbeats 1000000 in
theorem refMay_any (k n s : Int) (w : World) :
    Calls Try.prog 11 #[Cd k n s] w fun e w' => e = .returned (.bool (mayC k n s)) ∧ Below w.heap.size w w' := by
  obtain ⟨R, hR⟩ : ∃ R, R = mayC k n s := ⟨_, rfl⟩
  rw [← hR]
  have HR := Hid.intro hR
  clear hR
  by_cases h1 : 1 ≤ k
  · by_cases h2 : k ≤ 6
    · by_cases h3 : k ≤ n
      · by_cases h4 : n ≤ 10
        · by_cases h5 : 1 ≤ s
          · by_cases h6 : s ≤ 24
            · have e : R = true := by rw [HR.out]; simp [mayC, h1, h2, h3, h4, h5, h6]
              subst e
              clear HR
              go_enter Try.func11, Try.ntmps11
              go_wp2
              go_ret
              exact ⟨rfl, (Below.refl _ _).alloc (Nat.le_refl _) _⟩
            · have e : R = false := by rw [HR.out]; exact mayC_false (by omega)
              subst e
              clear HR
              go_enter Try.func11, Try.ntmps11
              go_wp2
              go_ret
              exact ⟨rfl, (Below.refl _ _).alloc (Nat.le_refl _) _⟩
          · have e : R = false := by rw [HR.out]; exact mayC_false (by omega)
            subst e
            clear HR
            go_enter Try.func11, Try.ntmps11
            go_wp2
            go_ret
            exact ⟨rfl, (Below.refl _ _).alloc (Nat.le_refl _) _⟩
        · have e : R = false := by rw [HR.out]; exact mayC_false (by omega)
          subst e
          clear HR
          go_enter Try.func11, Try.ntmps11
          go_wp2
          go_ret
          exact ⟨rfl, (Below.refl _ _).alloc (Nat.le_refl _) _⟩
      · have e : R = false := by rw [HR.out]; exact mayC_false (by omega)
        subst e
        clear HR
        go_enter Try.func11, Try.ntmps11
        go_wp2
        go_ret
        exact ⟨rfl, (Below.refl _ _).alloc (Nat.le_refl _) _⟩
    · have e : R = false := by rw [HR.out]; exact mayC_false (by omega)
      subst e
      clear HR
      go_enter Try.func11, Try.ntmps11
      go_wp2
      go_ret
      exact ⟨rfl, (Below.refl _ _).alloc (Nat.le_refl _) _⟩
  · have e : R = false := by rw [HR.out]; exact mayC_false (by omega)
    subst e
    clear HR
    go_enter Try.func11, Try.ntmps11
    go_wp2
    go_ret
    exact ⟨rfl, (Below.refl _ _).alloc (Nat.le_refl _) _⟩

end Go.Proofs.Ytceekoifljeddaa

/- The contract of the document's own Decode of layer 5: where the code may be, and there are N rows. -/
namespace Go.Proofs.Ytceekoifljeddaa
open Go.RowKit
open Bt

set_option maxRecDepth 100000 in
set_option maxHeartbeats 8000000 in
theorem refDecode_main (K N S : Nat) (hmay : mayC K N S = true) (ao : Option Addr) (cap : Nat) (L : List (List Nat)) (hB : BytL L) (hl : L.length = N) (w : World) (hr : ReadsL w ao L) :
    Calls Try.prog 41 #[Cd K N S, .slice ao L.length cap] w fun e w' => ∃ v, e = .returned (.tuple #[v, .int .i64 (decE K N S L)]) ∧ w'.ownsRow 0 5 1 v (decA K N S L).length ((decA K N S L).map U) ∧ (∀ j, v.ownBlock = some j → w.heap.size ≤ j) ∧ Below w.heap.size w w' := by
  obtain ⟨i8, hi8, hz80, hz81, hz82⟩ := info_parts info_u8
  obtain ⟨h1, h2, h3, h4, h5, h6⟩ := mayC_true hmay
  have HM := Hid.intro (fun w => refMay_any K N S w)
  rw [hmay] at HM
  have HMAY := Hid.intro hmay
  have HLN := Hid.intro (show (L.length : Int) = (N : Int) by rw [hl])
  have hL0 : 0 < L.length := by omega
  obtain ⟨lb, lo, eao, hrow⟩ := hr hL0
  subst eao
  have HROW := Hid.intro hrow
  have HBY := Hid.intro hB
  have HLE := Hid.intro hl
  have hKS : K * S ≤ 144 := by
    calc K * S ≤ 6 * S := Nat.mul_le_mul_right _ (by omega)
      _ ≤ 6 * 24 := Nat.mul_le_mul_left _ (by omega)
  rw [hl]
  obtain ⟨E, hE⟩ : ∃ E, E = decE K N S L := ⟨_, rfl⟩
  obtain ⟨T, hT⟩ : ∃ T, T = decA K N S L := ⟨_, rfl⟩
  rw [← hE, ← hT]
  have HE := Hid.intro hE
  have HT := Hid.intro hT
  clear hr hB hl hL0 hrow hmay hE hT
  go_enter Try.func41, Try.ntmps41
  go_wp2_with fail
  refine (HM.out _).mono ?_
  rintro e1 w1 ⟨rfl, B1⟩
  clear HM
  have b1 : w1.heap[w.heap.size]? = some (.cells #[.int .i64 (K : Int), .int .i64 (N : Int), .int .i64 (S : Int)] 23 (0, 0)) := by
    rw [B1.block _ (by simp)]; exact heap_alloc_new w _
  have BH := Hid.intro b1
  have B1w : Below w.heap.size w w1 := ((Below.refl _ _).alloc (Nat.le_refl _) _).trans ((below_chg B1).below (by simp) (fun _ f => f.elim))
  have hw1 : w.heap.size < w1.heap.size := lt_of_heap b1
  have HW1 := Hid.intro hw1
  have B1H := Hid.intro B1w
  have c1 : w1.cell? ⟨w.heap.size, 1, none⟩ = some (.int .i64 (N : Int)) := by rw [cell_of_row w1 _ 1 _ _ _ b1]; rfl
  have nn : ((N : Int) != (N : Int)) = false := by simp
  clear b1 B1 B1w hw1
  go_wp2_with fail
  go_loopw [6, 7] (fun va i ws => ∃ t : Nat, t ≤ N ∧ i = .int .i64 t ∧ ws.ownsRow 0 5 1 va (thT K L t).length ((thT K L t).map U) ∧ (∀ k, va.ownBlock = some k → w1.heap.size ≤ k) ∧ (∀ r, r < t → (L.getD r []).length = 0 ∨ ((L.getD r []).length : Int) = (S : Int)) ∧ Below w1.heap.size w1 ws) (fun _ i _ => N - (intOf i).toNat)
  case atStart => exact ⟨0, by omega, rfl, by rw [thT_zero]; exact World.ownsRow_nil _ _ _ _, nil_own _, fun r hr => absurd hr (by omega), Below.refl _ _⟩
  case round =>
    clear c1
    obtain ⟨t, ht, rfl, RA, NA, OK, BT⟩ := hrel
    have cb := (BT.block _ HW1.out).trans BH.out
    have c0 : wr.cell? ⟨w.heap.size, 0, none⟩ = some (.int .i64 (K : Int)) := by rw [cell_of_row wr _ 0 _ _ _ cb]; rfl
    have c2 : wr.cell? ⟨w.heap.size, 2, none⟩ = some (.int .i64 (S : Int)) := by rw [cell_of_row wr _ 2 _ _ _ cb]; rfl
    have RAH := Hid.intro RA
    have NAH := Hid.intro NA
    have OKH := Hid.intro OK
    have BTH := Hid.intro BT
    have BW : Below w.heap.size w wr := B1H.out.trans ((below_chg BT).below B1H.out.size (fun _ f => f.elim))
    have BWH := Hid.intro BW
    obtain ⟨av, cv, ev, _⟩ := ownsRow_form RA
    subst ev
    clear RA NA OK BT BW cb
    by_cases htl : t < N
    · have t0 : (0 : Int) ≤ (t : Int) := by omega
      have t1 : (t : Int) < (N : Int) := by omega
      obtain ⟨ra, rc, hcell, _, _⟩ := HROW.out t (by rw [HLE.out]; exact htl)
      have ct : wr.cell? ⟨lb, lo + t, none⟩ = some (.slice ra (L.getD t []).length rc) := (BWH.out.cell (cell_lt hcell)).trans hcell
      obtain ⟨m, hm⟩ : ∃ m, m = (L.getD t []).length := ⟨_, rfl⟩
      rw [← hm] at ct
      have HMM := Hid.intro hm
      clear hcell hm
      by_cases m0 : m = 0
      · subst m0
        have SK := Hid.intro (thT_skip (K := K) HMM.out.symm)
        go_wp2_with fail
        go_quiet (fail)
        go_wp2
        go_roundw
        case rel => exact ⟨t + 1, by omega, by go_num, by rw [SK.out]; exact RAH.out, NAH.out, fun r hr => by
          by_cases e : r = t
          · subst e; exact .inl HMM.out.symm
          · exact OKH.out r (by omega), belowN BTH.out _⟩
        case measure => simp [intOf]; omega
      · have m1 : ((m : Int) != 0) = true := by rw [bne_iff_ne]; omega
        have m2 : decide (0 < m) = true := by simp; omega
        have m3 : decide ((0 : Int) < (m : Int)) = true := by simp; omega
        by_cases ms : m = S
        · have m4 : ((m : Int) != (S : Int)) = false := by rw [ms]; simp
          have OK2 := Hid.intro (show ∀ r, r < t + 1 → (L.getD r []).length = 0 ∨ ((L.getD r []).length : Int) = (S : Int) from fun r hr => by
            by_cases e : r = t
            · subst e; exact .inr (by rw [← HMM.out, ms])
            · exact OKH.out r (by omega))
          have hKle := thT_le K L t
          clear ms
          by_cases hq : (thT K L t).length < K
          · have PU := Hid.intro (thT_push (K := K) (L := L) (t := t) (by rw [← HMM.out]; exact m0) hq)
            have RQ := RAH.out
            clear RAH
            generalize thT K L t = xs at PU RQ hq hKle NAH ⊢
            obtain ⟨q, hq2⟩ : ∃ q, q = xs.length := ⟨_, rfl⟩
            rw [← hq2] at RQ hq hKle NAH ⊢
            have q1 : decide ((q : Int) < (K : Int)) = true := by simp; omega
            have hu8 : (t : Int) % 256 = (t : Int) := by omega
            have HXL := Hid.intro hq2
            have RQH := Hid.intro (show ∀ X : World, X.heap = wr.heap → (X.alloc (.cells #[U t] 5)).ownsRow 0 5 1 (.slice av q cv) q (xs.map U) from fun X hX => (ownsRow_keep RQ (fun k _ => by rw [hX])).alloc _)
            have hkk : (K : Int) ≤ 6 := h2
            clear RQ hq2
            go_wp2_with fail
            go_quiet (fail)
            go_wp2_with (at_builtin; refine wpList_append_lies _ rfl _ _ 39 rfl 0 5 i8 (.int .u8 0) 1 1 Try.underlying39 hi8 hz80 hz81 hz82 rfl (by decide) (.slice av q cv) _ _ rfl (RQH.out _ (by rfl)) ⟨wr.heap.size, 0, none⟩ 1 1 [U t] rfl rfl (World.news_of_block (cs := #[U t]) (t := 5) (fr := (0, 0)) (heap_alloc_new _ _)) (by simp [Value.oneCell', U]) (by decide) (by unfold maxLen; omega) (by omega) (Nat.zero_le _) (wr.heap.size + 1) (by simp) ?_)
            intro g7 cp7 w7 hown hgrow hat hgl
            have C7 : Chg (fun k => (Value.slice av q cv).ownBlock = some k) wr w7 := (((Chg.refl _ wr).drewN nq).alloc _).grown hgrow (fun k hk _ => hk)
            have B7 := BTH.out.trans (C7.below BTH.out.size (fun k hk => NAH.out k hk))
            have N7 : ∀ k, (Value.slice (some ⟨g7, 0, none⟩) (q + 1) cp7).ownBlock = some k → w1.heap.size ≤ k := by
              intro k hk
              have e : g7 = k := by simpa [Value.ownBlock] using hk
              subst e
              rcases hat with hat | hat
              · exact NAH.out g7 hat
              · have := BTH.out.size; omega
            have R7 : w7.ownsRow 0 5 1 (.slice (some ⟨g7, 0, none⟩) (q + 1) cp7) (thT K L (t + 1)).length ((thT K L (t + 1)).map U) := by
              rw [PU.out, List.length_append, List.map_append, ← HXL.out]; exact hown
            have R7H := Hid.intro R7
            have N7H := Hid.intro N7
            have B7H := Hid.intro B7
            clear hown hgrow hat R7 N7 C7 B7 RQH NAH c0 c2 ct
            go_wp2
            go_roundw
            case rel => exact ⟨t + 1, by omega, by go_num, R7H.out, N7H.out, OK2.out, B7H.out⟩
            case measure => simp [intOf]; omega
          · have FU := Hid.intro (thT_full (K := K) (L := L) (t := t) hq)
            have q1 : decide (((thT K L t).length : Int) < (K : Int)) = false := by simp; omega
            go_wp2_with fail
            go_quiet (fail)
            go_wp2
            go_roundw
            case rel => exact ⟨t + 1, by omega, by go_num, by rw [FU.out]; exact RAH.out, NAH.out, OK2.out, belowN BTH.out _⟩
            case measure => simp [intOf]; omega
        · have m4 : ((m : Int) != (S : Int)) = true := by rw [bne_iff_ne]; omega
          have e4 := decE_size HMAY.out HLN.out (t := t) (by rw [HLE.out]; exact htl) (by rw [← HMM.out]; exact m0) (by rw [← HMM.out]; omega)
          rw [← HE.out] at e4
          have eT : T = [] := by rw [HT.out]; unfold decA; rw [← HE.out, e4, if_neg (by decide)]
          subst e4
          subst eT
          go_wp2_with fail
          go_quiet (fail)
          go_wp2
          go_ret2
          exact ⟨_, rfl, World.ownsRow_nil _ _ _ _, nil_own _, belowN BWH.out _⟩
    · have hte : t = N := by omega
      subst hte
      have n1 : ¬ (t : Int) < (t : Int) := by omega
      have eAt : thT K L t = decAt K L := by rw [← HLE.out]; rfl
      have OKL := Hid.intro (show ∀ r, r < L.length → (L.getD r []).length = 0 ∨ ((L.getD r []).length : Int) = (S : Int) from fun r hr => OKH.out r (by rw [← HLE.out]; exact hr))
      by_cases hq : (thT K L t).length < K
      · have q1 : decide (((thT K L t).length : Int) < (K : Int)) = true := by simp; omega
        have e8 := decE_few HMAY.out HLN.out OKL.out (by have := decAt_few (eAt ▸ hq); omega)
        rw [← HE.out] at e8
        have eT : T = [] := by rw [HT.out]; unfold decA; rw [← HE.out, e8, if_neg (by decide)]
        subst e8
        subst eT
        clear eAt
        go_wp2
        go_ret2
        exact ⟨_, rfl, World.ownsRow_nil _ _ _ _, nil_own _, BWH.out⟩
      · have q1 : decide (((thT K L t).length : Int) < (K : Int)) = false := by simp; omega
        have hen := decAt_enough (eAt ▸ hq)
        have hlenK : (thT K L t).length = K := by rw [eAt]; exact decAt_length hen
        have e0 := decE_ok HMAY.out HLN.out OKL.out (by omega)
        rw [← HE.out] at e0
        have eT : T = decT K S L := by rw [HT.out]; unfold decA; rw [← HE.out, e0, if_pos rfl]; rfl
        subst e0
        subst eT
        have RAD : wr.ownsRow 0 5 1 (.slice av K cv) K ((decAt K L).map U) := by
          have := RAH.out
          rw [hlenK, eAt] at this
          exact this
        have NAD : ∀ k, (Value.slice av K cv).ownBlock = some k → w1.heap.size ≤ k := by
          have := NAH.out
          rw [hlenK] at this
          exact this
        rw [hlenK] at q1 ⊢
        have RADH := Hid.intro RAD
        have NADH := Hid.intro NAD
        have HEN := Hid.intro hen
        have hw2 : IntKind.i64.wrap ((K : Int) * (S : Int)) = ((K * S : Nat) : Int) := by rw [← Int.natCast_mul]; exact IntWalk.i64_in _ (by omega)
        obtain ⟨Y, hY⟩ : ∃ Y, Y = K * S := ⟨_, rfl⟩
        rw [← hY] at hw2 hKS
        have HY := Hid.intro hY
        clear RAH NAH OKH RAD NAD hen hlenK eAt hY
        rename World => wA
        obtain ⟨gv, cv', ev, _, _⟩ := RADH.out.form (by omega)
        obtain ⟨rfl, rfl⟩ : av = some ⟨gv, 0, none⟩ ∧ cv = cv' := by simpa using ev
        clear ev
        go_wp2_with (at_make; refine wpList_make_full _ rfl _ _ 39 rfl 0 5 i8 (.int .u8 0) 1 Try.underlying39 hi8 hz80 hz81 _ _ _ _ Y rfl rfl (by omega) (by omega) (by rw [hz82]; omega) (by unfold maxLen; omega) (Nat.zero_le _) ?_)
        intro w2 hown hgrow
        have B2 : Below wA.heap.size wA w2 := (Below.refl _ _).grown hgrow (Nat.le_refl _) (fun k hk => by cases hk)
        have O2 : w2.ownsRow 0 5 1 (.slice (some ⟨wA.heap.size, 0, none⟩) Y Y) Y ((rowD K S L 0 0).map U) := by
          rw [rowD_start, List.map_replicate, ← HY.out]
          rw [toList_madeCells_one] at hown
          exact hown
        have B2H := Hid.intro B2
        have O2H := Hid.intro O2
        have CBA := Hid.intro ((BTH.out.block _ HW1.out).trans BH.out)
        clear hown hgrow B2 O2 c0 c2
        go_wp2_with fail
        go_loopw [9] (fun i ws => ∃ p : Nat, p ≤ S ∧ i = .int .i64 p ∧ ws.ownsRow 0 5 1 (.slice (some ⟨wA.heap.size, 0, none⟩) Y Y) Y ((rowD K S L p 0).map U) ∧ Below wA.heap.size wA ws) (fun i _ => S - (intOf i).toNat)
        case atStart => exact ⟨0, by omega, rfl, O2H.out, B2H.out⟩
        case round =>
          rename World => wo
          clear B2H O2H
          obtain ⟨p, hp, rfl, OP, BP⟩ := hrel
          have cbo := (BP.block _ (lt_of_heap CBA.out)).trans CBA.out
          have c2 : wo.cell? ⟨w.heap.size, 2, none⟩ = some (.int .i64 (S : Int)) := by rw [cell_of_row wo _ 2 _ _ _ cbo]; rfl
          have OPH := Hid.intro OP
          have BPH := Hid.intro BP
          clear OP BP cbo
          by_cases hlt : p < S
          · have p1 : (p : Int) < (S : Int) := by omega
            have VL : (decV L (decAt K L) p).length = K := by simp [decV, decAt_length HEN.out]
            go_wp2_with fail
            go_loopw [10, 11] (fun vv i ws => ∃ t : Nat, t ≤ K ∧ i = .int .i64 t ∧ ws.ownsRow 0 5 1 vv t (((decV L (decAt K L) p).take t).map U) ∧ (∀ k, vv.ownBlock = some k → wo.heap.size ≤ k) ∧ Below wo.heap.size wo ws) (fun _ i _ => K - (intOf i).toNat)
            case atStart => exact ⟨0, by omega, rfl, World.ownsRow_nil _ _ _ _, nil_own _, Below.refl _ _⟩
            case round =>
              clear c2
              obtain ⟨i, hi, rfl, RV, NV, BV⟩ := hrel
              have BAV : Below wA.heap.size wA wr := BPH.out.trans ((below_chg BV).below BPH.out.size (fun _ f => f.elim))
              have BWV : Below w.heap.size w wr := BWH.out.trans ((below_chg BAV).below BWH.out.size (fun _ f => f.elim))
              have BVH := Hid.intro BV
              have BAVH := Hid.intro BAV
              have NVH := Hid.intro NV
              by_cases hil : i < K
              · have i0 : (0 : Int) ≤ (i : Int) := by omega
                have i1 : (i : Int) < (K : Int) := by omega
                have hil' : i < (decAt K L).length := by rw [decAt_length HEN.out]; exact hil
                obtain ⟨j, hj⟩ : ∃ j, j = (decAt K L)[i] := ⟨_, rfl⟩
                have hjm : j ∈ there L := decAt_mem (by rw [hj]; exact List.getElem_mem hil')
                have hjl := there_lt hjm
                have hjs : (L.getD j []).length = S := by
                  have a1 := there_pos hjm
                  rcases OKL.out j hjl with a2 | a2 <;> omega
                have ca : wr.cell? ⟨gv, i, none⟩ = some (U j) := by
                  have a1 := RADH.out.cellAt i (by omega)
                  have a2 : ((decAt K L).map U)[i]? = some (U j) := by rw [List.getElem?_map, List.getElem?_eq_getElem hil', hj]; rfl
                  rw [a2] at a1
                  exact (BAV.cell (cell_lt a1)).trans a1
                obtain ⟨ra, rc, hcell, hrd, _⟩ := HROW.out j hjl
                rw [hjs] at hcell
                obtain ⟨bb, off, e, hc⟩ := reads_at hrd (by omega)
                subst e
                have ct : wr.cell? ⟨lb, lo + j, none⟩ = some (.slice (some ⟨bb, off, none⟩) S rc) := (BWV.cell (cell_lt hcell)).trans hcell
                have cx0 := hc p (by omega)
                have cx : wr.cell? ⟨bb, off + p, none⟩ = some (U ((L.getD j []).getD p 0)) := by
                  rw [← List.getElem_eq_getD (h := by omega) 0]
                  exact (BWV.cell (cell_lt cx0)).trans cx0
                have TS : (decV L (decAt K L) p).take (i + 1) = (decV L (decAt K L) p).take i ++ [(L.getD j []).getD p 0] := by
                  rw [take_snoc _ _ (by rw [VL]; exact hil)]
                  simp [decV, hj]
                have hjN : j < t := by rw [← HLE.out]; exact hjl
                have j0 : (0 : Int) ≤ (j : Int) := by omega
                have j1 : (j : Int) < (t : Int) := by omega
                have p0 : (0 : Int) ≤ (p : Int) := by omega
                generalize (L.getD j []).getD p 0 = y at cx TS
                have TSH := Hid.intro TS
                have R6H := Hid.intro (RV.alloc (.cells #[U y] 5))
                clear TS hc cx0 hcell hrd hjs hjm hjl hj hil' RV NV BV BAV BWV VL
                go_wp2_with (at_builtin; refine wpList_append_lies _ rfl _ _ 39 rfl 0 5 i8 (.int .u8 0) 1 1 Try.underlying39 hi8 hz80 hz81 hz82 rfl (by decide) u10 i _ rfl R6H.out ⟨wr.heap.size, 0, none⟩ 1 1 [U y] rfl rfl (World.news_of_block (cs := #[U y]) (t := 5) (fr := (0, 0)) (heap_alloc_new wr _)) (by simp [Value.oneCell', U]) (by decide) (by unfold maxLen; omega) (by omega) (Nat.zero_le _) (wr.heap.size + 1) (by simp) ?_)
                intro g7 cp7 w7 hown hgrow hat hgl
                have C7 : Chg (fun k => u10.ownBlock = some k) wr w7 := ((Chg.refl _ wr).alloc _).grown hgrow (fun k hk _ => hk)
                have B7 := BVH.out.trans (C7.below BVH.out.size (fun k hk => NVH.out k hk))
                have N7 : ∀ k, (Value.slice (some ⟨g7, 0, none⟩) (i + 1) cp7).ownBlock = some k → wo.heap.size ≤ k := by
                  intro k hk
                  have e : g7 = k := by simpa [Value.ownBlock] using hk
                  subst e
                  rcases hat with hat | hat
                  · exact NVH.out g7 hat
                  · have := BVH.out.size; omega
                have R7 : w7.ownsRow 0 5 1 (.slice (some ⟨g7, 0, none⟩) (i + 1) cp7) (i + 1) (((decV L (decAt K L) p).take (i + 1)).map U) := by
                  rw [TSH.out, List.map_append, List.map_take]; exact hown
                have R7H := Hid.intro R7
                have N7H := Hid.intro N7
                have B7H := Hid.intro B7
                clear hown hgrow hat R7 N7 C7 B7 R6H NVH ca ct cx
                go_wp2
                go_roundw
                case rel => exact ⟨i + 1, by omega, by go_num, R7H.out, N7H.out, B7H.out⟩
                case measure => simp [intOf]; omega
              · have hie : K = i := by omega
                subst hie
                have tk : (decV L (decAt K L) p).take K = decV L (decAt K L) p := List.take_of_length_le (by omega)
                rw [tk] at RV
                have dl : (decAt K L).length = K := decAt_length HEN.out
                have RV' : wr.ownsRow 0 5 1 u10 (decV L (decAt K L) p).length ((decV L (decAt K L) p).map U) := by rw [VL]; exact RV
                obtain ⟨av2, cv2, ev2, rv2, _⟩ := row_of_owns RV'
                rw [VL] at ev2
                subst ev2
                have RA' : wA.ownsRow 0 5 1 (.slice (some ⟨gv, 0, none⟩) K cv) (decAt K L).length ((decAt K L).map U) := by rw [dl]; exact RADH.out
                obtain ⟨aa, ca, ea, ra, _⟩ := row_of_owns RA'
                rw [dl] at ea
                obtain ⟨rfl, rfl⟩ : aa = some ⟨gv, 0, none⟩ ∧ ca = cv := by simpa using ea.symm
                have hL256 : L.length ≤ 256 := by rw [HLE.out]; omega
                have SOL := refSolve_any (some ⟨gv, 0, none⟩) av2 ca cv2 (decAt K L) (decV L (decAt K L) p) (decAt_byt hL256) (decAt_nodup K L) (decV_byt HBY.out _ p) (by rw [VL, dl]) (by rw [dl]; omega) wr (ra.below BAV) rv2
                obtain ⟨pb1, pb2, _⟩ := poly_spec (decAt_byt (K := K) hL256) (decAt_nodup K L) (decV_byt HBY.out (decAt K L) p) (by rw [VL, dl])
                rw [dl] at SOL pb2
                have SB := Hid.intro (fun i => show decB K L i p = pev (poly (decAt K L) (decV L (decAt K L) p)) i from rfl)
                generalize poly (decAt K L) (decV L (decAt K L) p) = F at SOL pb1 pb2 SB
                have SOLH := Hid.intro SOL
                have PB1 := Hid.intro pb1
                have PB2 := Hid.intro pb2
                clear RA' RV' ra rv2 ea SOL pb1 pb2 tk VL dl RV NV BV BAV BWV
                go_wp2_with fail
                refine SOLH.out.mono ?_
                rintro e5 w5 ⟨vf, rfl, RF, NF, B5⟩
                have BO5 : Below wo.heap.size wo w5 := BVH.out.trans ((below_chg B5).below BVH.out.size (fun _ f => f.elim))
                have O5 : w5.ownsRow 0 5 1 (.slice (some ⟨wA.heap.size, 0, none⟩) Y Y) Y ((rowD K S L p 0).map U) := ownsRow_keep OPH.out fun k hk => BO5.block k (ownsRow_lt OPH.out hk)
                have BA5 : Below wA.heap.size wA w5 := BPH.out.trans ((below_chg BO5).below BPH.out.size (fun _ f => f.elim))
                have obl : wA.heap.size < wo.heap.size := ownsRow_lt OPH.out rfl
                have NF5 : ∀ k, vf.ownBlock = some k → k ≠ wA.heap.size := fun k hk e => by
                  have := NF k hk
                  have := BVH.out.size
                  omega
                have RFH := Hid.intro RF
                have NFH := Hid.intro NF5
                have O5H := Hid.intro O5
                have BA5H := Hid.intro BA5
                clear RF NF B5 BO5 O5 BA5 obl NF5 SOLH BVH BAVH NVH OPH BPH
                go_wp2_with fail
                go_loopw [13] (fun i ws => ∃ t : Nat, t ≤ K ∧ i = .int .i64 t ∧ ws.ownsRow 0 5 1 (.slice (some ⟨wA.heap.size, 0, none⟩) Y Y) Y ((rowD K S L p t).map U) ∧ Chg (fun k => k = wA.heap.size) w5 ws) (fun i _ => K - (intOf i).toNat)
                case atStart => exact ⟨0, by omega, rfl, O5H.out, Chg.refl _ _⟩
                case round =>
                  rename World => wx
                  clear O5H
                  obtain ⟨i, hi2, rfl, OX, CX⟩ := hrel
                  have BAX : Below wA.heap.size wA wx := BA5H.out.trans (CX.below BA5H.out.size (fun k e => by omega))
                  have cbx := (BAX.block _ (lt_of_heap CBA.out)).trans CBA.out
                  have c0 : wx.cell? ⟨w.heap.size, 0, none⟩ = some (.int .i64 (K : Int)) := by rw [cell_of_row wx _ 0 _ _ _ cbx]; rfl
                  have c2 : wx.cell? ⟨w.heap.size, 2, none⟩ = some (.int .i64 (S : Int)) := by rw [cell_of_row wx _ 2 _ _ _ cbx]; rfl
                  have OXH := Hid.intro OX
                  have CXH := Hid.intro CX
                  have BAXH := Hid.intro BAX
                  clear OX CX BAX cbx
                  by_cases hik : i < K
                  · have k1 : (i : Int) < (K : Int) := by omega
                    have hin := mul_in hik hlt
                    rw [← HY.out] at hin
                    have SBT := SB.out i
                    have hd := decB_lt (K := K) hL256 HBY.out (i := i) (by omega) p
                    have RFX := ownsRow_keep (w' := wx) RFH.out fun k hk => CXH.out.block k (ownsRow_lt RFH.out hk) (NFH.out k hk)
                    obtain ⟨af, cf, ef, rf, _⟩ := row_of_owns (by rw [PB2.out]; exact RFX : wx.ownsRow 0 5 1 vf F.length (F.map U))
                    rw [PB2.out] at ef
                    subst ef
                    have HVAL := Hid.intro (show ∀ X : World, X.heap = wx.heap → Calls Try.prog 61 #[.slice af K cf, .int .u8 (i : Int)] X fun e w' => e = .returned (U (decB K L i p)) ∧ ∃ q, w' = X.drewN q from fun X hX => by
                      rw [SBT, ← PB2.out]
                      exact refValue_any af cf F PB1.out (by rw [PB2.out]; omega) i (by omega) X (fun h0 => by
                        obtain ⟨ad, ha, hc⟩ := rf h0
                        exact ⟨ad, ha, fun j u hu => (World.cell?_of_block (by rw [hX])).trans (hc j u hu)⟩))
                    have SET := Hid.intro (rowD_set U (K := K) (L := L) (show 0 < S by omega) (p := p) (i := i) hlt)
                    have hST := (OXH.out.stored (i * S + p) (U (decB K L i p))).1
                    rw [SET.out] at hST
                    have cx : ∃ u, wx.cell? ⟨wA.heap.size, i * S + p, none⟩ = some u := by
                      have := OXH.out.cellAt (i * S + p) (by omega)
                      rw [this]
                      exact ⟨_, List.getElem?_eq_getElem (by rw [List.length_map, rowD_length, ← HY.out]; exact hin)⟩
                    obtain ⟨u, cx⟩ := cx
                    have fx : wx.frozen? ⟨wA.heap.size, i * S + p, none⟩ = false := OXH.out.frozenAt (i * S + p)
                    have hi0 : IntKind.i64.wrap ((i : Int) * (S : Int)) = ((i * S : Nat) : Int) := by rw [← Int.natCast_mul]; exact IntWalk.i64_in _ (by omega)
                    have hi1 : IntKind.i64.wrap (((i * S : Nat) : Int) + (p : Int)) = ((i * S + p : Nat) : Int) := by rw [← Int.natCast_add]; exact IntWalk.i64_in _ (by omega)
                    generalize decB K L i p = y at SBT HVAL hST hd SET
                    generalize i * S = I0 at hi0 hi1 cx fx hin hST SET
                    generalize I0 + p = X at hi1 cx fx hin hST SET
                    have x0 : (0 : Int) ≤ (X : Int) := by omega
                    have x1 : (X : Int) < (Y : Int) := by omega
                    have hu8 : (i : Int) % 256 = (i : Int) := by omega
                    have hu8w : IntKind.u8.wrap (i : Int) = (i : Int) := IntWalk.u8_in _ (by omega)
                    have HST := Hid.intro hST
                    clear SBT RFX rf hST SET
                    go_wp2_with fail
                    go_region_law (go_simp; refine (HVAL.out _ (by rfl)).mono ?_; rintro e6 w6 ⟨rfl, q6, rfl⟩)
                    all_goals (
                      go_wp2
                      go_roundw
                      case rel => exact ⟨i + 1, by omega, by go_num, ownsRow_keep HST.out (fun _ _ => rfl), (CXH.out.drewN _).setCell (p := ⟨wA.heap.size, X, none⟩) (fun _ => rfl) _⟩
                      case measure => simp [intOf]; omega)
                  · have hie : K = i := by omega
                    subst hie
                    have n2 : ¬ (K : Int) < (K : Int) := by omega
                    have ON := OXH.out
                    rw [rowD_next] at ON
                    have ONH := Hid.intro ON
                    clear ON OXH
                    go_wp2
                    go_roundw
                    case rel => exact ⟨p + 1, by omega, by go_num, ONH.out, BAXH.out⟩
                    case measure => simp [intOf]; omega
          · have hpe : S = p := by omega
            subst hpe
            have p1 : ¬ (S : Int) < (S : Int) := by omega
            go_wp2
            go_ret2
            have OE := OPH.out
            rw [rowD_end (by omega)] at OE
            exact ⟨_, rfl, by rw [decT_length, ← HY.out]; exact OE, fun k hk => by
              have e : wA.heap.size = k := by simpa [Value.ownBlock] using hk
              rw [← e]; exact BWH.out.size, BWH.out.trans ((below_chg BPH.out).below BWH.out.size (fun _ f => f.elim))⟩

set_option maxRecDepth 100000 in
set_option maxHeartbeats 1000000 in
theorem refDecode_any (k n s : Int) (ao : Option Addr) (cap : Nat) (L : List (List Nat)) (hB : BytL L) (w : World) (hr : ReadsL w ao L) :
    Calls Try.prog 41 #[Cd k n s, .slice ao L.length cap] w fun e w' => ∃ v, e = .returned (.tuple #[v, .int .i64 (decE k n s L)]) ∧ w'.ownsRow 0 5 1 v (decA k n s L).length ((decA k n s L).map U) ∧ (∀ j, v.ownBlock = some j → w.heap.size ≤ j) ∧ Below w.heap.size w w' := by
  rcases hmay : mayC k n s with _ | _
  · have e1 := decE_may (L := L) hmay
    have eA : decA k n s L = [] := by unfold decA; rw [e1, if_neg (by decide)]
    rw [e1, eA]
    have HM := Hid.intro (fun w => refMay_any k n s w)
    rw [hmay] at HM
    clear e1 eA hr hB
    go_enter Try.func41, Try.ntmps41
    go_wp2_with fail
    refine (HM.out _).mono ?_
    rintro e1 w1 ⟨rfl, B1⟩
    go_wp2
    go_ret2
    exact ⟨_, rfl, World.ownsRow_nil _ _ _ _, nil_own _, ((Below.refl _ _).alloc (Nat.le_refl _) _).trans ((below_chg B1).below (by simp) (fun _ f => f.elim))⟩
  · obtain ⟨h1, h2, h3, h4, h5, h6⟩ := mayC_true hmay
    obtain ⟨K, rfl⟩ := Int.eq_ofNat_of_zero_le (show 0 ≤ k by omega)
    obtain ⟨N, rfl⟩ := Int.eq_ofNat_of_zero_le (show 0 ≤ n by omega)
    obtain ⟨S, rfl⟩ := Int.eq_ofNat_of_zero_le (show 0 ≤ s by omega)
    by_cases hl : L.length = N
    · exact refDecode_main K N S hmay ao cap L hB hl w hr
    · have e1 := decE_many (L := L) hmay (by omega)
      have eA : decA K N S L = [] := by unfold decA; rw [e1, if_neg (by decide)]
      rw [e1, eA]
      have HM := Hid.intro (fun w => refMay_any K N S w)
      rw [hmay] at HM
      have nn : ((L.length : Int) != (N : Int)) = true := by rw [bne_iff_ne]; omega
      clear e1 eA hr hB
      go_enter Try.func41, Try.ntmps41
      go_wp2_with fail
      refine (HM.out _).mono ?_
      rintro e1 w1 ⟨rfl, B1⟩
      have b1 : w1.heap[w.heap.size]? = some (.cells #[.int .i64 (K : Int), .int .i64 (N : Int), .int .i64 (S : Int)] 23 (0, 0)) := by
        rw [B1.block _ (by simp)]; exact heap_alloc_new w _
      have c1 : w1.cell? ⟨w.heap.size, 1, none⟩ = some (.int .i64 (N : Int)) := by rw [cell_of_row w1 _ 1 _ _ _ b1]; rfl
      clear b1
      go_wp2
      go_ret2
      exact ⟨_, rfl, World.ownsRow_nil _ _ _ _, nil_own _, ((Below.refl _ _).alloc (Nat.le_refl _) _).trans ((below_chg B1).below (by simp) (fun _ f => f.elim))⟩

end Go.Proofs.Ytceekoifljeddaa
