/- Contracts of package crc's Number and Read. -/
import Derived.Test.YtaieohnppeapfaaDoorCrcA
namespace Go.Proofs.YtaieohnppeapfaaDoor
open Go.RowKit
open Bt

/-- A number as 64 bits. -/
def lo64 (n : Int) : Nat := (IntKind.u64.wrap n).toNat
theorem lo64_eq (n : Int) : ((lo64 n : Nat) : Int) = n % 18446744073709551616 := by
  unfold lo64
  rw [IntKind.wrap_u64]
  omega
theorem lo64_nat (n : Nat) (h : n < 18446744073709551616) : lo64 (n : Int) = n := by
  have := lo64_eq n
  omega

theorem lo64_byte (n : Int) (j : Nat) (h : j < 4) : n / 2 ^ (j * 8) % 256 = ((lo64 n / 256 ^ j % 256 : Nat) : Int) := by
  have e := lo64_eq n
  generalize lo64 n = u at e ⊢
  rcases (show j = 0 ∨ j = 1 ∨ j = 2 ∨ j = 3 by omega) with rfl | rfl | rfl | rfl <;> simp <;> omega

theorem number_no (n m : Int) (w : World) (h : m < 0 ∨ 4 < m) :
    Calls Tryd.prog 22 #[.int .i64 n, .int .i64 m] w fun e w' => e = .returned (.slice none 0 0) ∧ w = w' := by
  rcases h with h | h
  · go_enter Tryd.func22, Tryd.ntmps22
    go_wp2
    go_ret
    exact ⟨rfl, rfl⟩
  · have h' : ¬ m < 0 := by omega
    go_enter Tryd.func22, Tryd.ntmps22
    go_wp2
    go_ret
    exact ⟨rfl, rfl⟩

set_option maxHeartbeats 1000000 in
theorem number_yes (n : Int) (M : Nat) (h4 : M ≤ 4) (w : World) :
    Calls Tryd.prog 22 #[.int .i64 n, .int .i64 M] w fun e w' => ∃ g, e = .returned (.slice (some ⟨g, 0, none⟩) M M) ∧ w.heap.size ≤ g ∧
      w'.ownsRow 0 5 1 (.slice (some ⟨g, 0, none⟩) M M) M ((numB (lo64 n) M).map U) ∧ Below w.heap.size w w' := by
  obtain ⟨i, hi, hz0, hz1, hz2⟩ := info_parts info_u8
  have hby := Hid.intro (lo64_byte n)
  generalize lo64 n = u at hby ⊢
  go_enter Tryd.func22, Tryd.ntmps22
  go_wp2_with (at_make; refine wpList_make_full _ rfl _ _ 22 rfl 0 5 i (.int .u8 0) 1 Tryd.underlying22 hi hz0 hz1 _ _ _ _ M rfl rfl (by omega) (by omega) (by rw [hz2]; omega) (by unfold maxLen; omega) (Nat.zero_le _) ?_)
  intro w1 hown hgrow
  have hB : Below w.heap.size w w1 := (Below.refl _ w).grown hgrow (Nat.le_refl _) (fun k hk => by cases hk)
  have hR : w1.ownsRow 0 5 1 (.slice (some ⟨w.heap.size, 0, none⟩) M M) M ((laidB u M 0).map U) := by
    rw [laidB_zero, List.map_replicate]
    rw [toList_madeCells_one] at hown
    exact hown
  clear hown hgrow
  go_wp2_with fail
  go_loopw [17] (fun c wr => ∃ j : Nat, j ≤ M ∧ c = .int .i64 j ∧
      wr.ownsRow 0 5 1 (.slice (some ⟨w.heap.size, 0, none⟩) M M) M ((laidB u M j).map U) ∧ Below w.heap.size w wr)
    (fun c _ => M - (intOf c).toNat)
  case atStart => exact ⟨0, by omega, rfl, hR, hB⟩
  case round =>
    obtain ⟨j, hj, rfl, RJ, BJ⟩ := hrel
    clear hR hB
    by_cases hlt : j < M
    · have hst := laidB_step u M j hlt
      have hb := hby.out j (by omega)
      generalize u / 256 ^ j % 256 = q at hst hb
      have HST := Hid.intro hst
      clear hst
      have fl := laidB_length u M j
      have c1 : ∃ x, wr.cell? ⟨w.heap.size, M - 1 - j, none⟩ = some x := by
        rw [RJ.cellAt _ (by omega)]
        exact ⟨_, List.getElem?_eq_getElem (by simp [fl]; omega)⟩
      obtain ⟨x, c1⟩ := c1
      have f1 : wr.frozen? ⟨w.heap.size, M - 1 - j, none⟩ = false := RJ.frozenAt _
      have RS : (wr.setCell ⟨w.heap.size, M - 1 - j, none⟩ (U q)).ownsRow 0 5 1 (.slice (some ⟨w.heap.size, 0, none⟩) M M) M ((laidB u M (j + 1)).map U) := by
        rw [← HST.out, List.map_set]; exact (RJ.stored _ _).1
      have BS : Below w.heap.size w (wr.setCell ⟨w.heap.size, M - 1 - j, none⟩ (U q)) := BJ.setCell (Nat.le_refl _) _
      have RSH := Hid.intro RS
      have BSH := Hid.intro BS
      have HB := Hid.intro hb
      clear RS BS RJ BJ fl hb
      go_wp2
      rw [HB.out]
      go_roundw
      case rel => exact ⟨j + 1, by omega, by go_num, RSH.out, BSH.out⟩
      case measure => simp [intOf]; omega
    · have hjm : j = M := by omega
      rw [hjm, laidB_all] at RJ
      clear hjm
      go_wp2
      go_ret
      exact ⟨w.heap.size, rfl, Nat.le_refl _, RJ, BJ⟩

/-- A number's bytes, as they read. -/
theorem number_reads (n : Int) (M : Nat) (h4 : M ≤ 4) (w : World) :
    Calls Tryd.prog 22 #[.int .i64 n, .int .i64 M] w fun e w' => ∃ ao, e = .returned (.slice ao M M) ∧ Reads w' ao (numB (lo64 n) M) ∧ Below w.heap.size w w' := by
  refine (number_yes n M h4 w).mono ?_
  rintro e w' ⟨g, rfl, _, R, B⟩
  have hl := numB_length (lo64 n) M
  generalize numB (lo64 n) M = bs at R hl ⊢
  subst hl
  obtain ⟨ao, cap, hv, hr, _⟩ := row_of_owns R
  cases hv
  exact ⟨_, rfl, hr, B⟩

/-- What Number answers, whatever it is asked. -/
def numAll (n m : Int) : List Nat := if 0 ≤ m ∧ m ≤ 4 then numB (lo64 n) m.toNat else []

theorem numAll_len (n m : Int) : (numAll n m).length ≤ 4 := by
  unfold numAll
  split
  · rw [numB_length]; omega
  · simp

theorem number_all (n m : Int) (w : World) :
    Calls Tryd.prog 22 #[.int .i64 n, .int .i64 m] w fun e w' => ∃ ao cap, e = .returned (.slice ao (numAll n m).length cap) ∧ Reads w' ao (numAll n m) ∧ Below w.heap.size w w' := by
  by_cases h : 0 ≤ m ∧ m ≤ 4
  · obtain ⟨M, rfl⟩ := Int.eq_ofNat_of_zero_le h.1
    rw [show numAll n M = numB (lo64 n) M from by unfold numAll; rw [if_pos h]; rfl, numB_length]
    refine (number_reads n M (by omega) w).mono ?_
    rintro e w' ⟨ao, rfl, r, B⟩
    exact ⟨ao, M, rfl, r, B⟩
  · rw [show numAll n m = [] from by unfold numAll; rw [if_neg h]]
    refine (number_no n m w (by omega)).mono ?_
    rintro e w' ⟨rfl, rfl⟩
    exact ⟨none, 0, rfl, fun h => absurd h (by simp), Below.refl _ _⟩

theorem or_byte (n b : Nat) (hn : n < 2 ^ 54) (hb : b < 256) : bits .or .i64 ((n : Int) * 256) (b : Int) = ((n * 256 + b : Nat) : Int) := by
  rw [show (n : Int) * 256 = ((n * 256 : Nat) : Int) from by simp, i64_or_nat _ _ (by omega) (by omega)]
  have := Nat.two_pow_add_eq_or_of_lt (i := 8) (b := b) (by omega) n
  rw [Nat.mul_comm n 256, show 256 = 2 ^ 8 from rfl, this]

set_option maxHeartbeats 1000000 in
theorem cread_any (a : Option Addr) (cap : Nat) (bs : List Nat) (hl : bs.length < 2 ^ 62) (h256 : ∀ b ∈ bs, b < 256) (w : World) (hr : Reads w a bs) :
    Calls Tryd.prog 30 #[.slice a bs.length cap] w fun e w' => e = .returned (.int .i64 (((if 4 < bs.length then 0 else readB bs) : Nat) : Int)) ∧ w = w' := by
  by_cases h4 : 4 < bs.length
  · rw [if_pos h4]
    go_enter Tryd.func30, Tryd.ntmps30
    go_wp2
    go_ret
    exact ⟨rfl, rfl⟩
  · rw [if_neg h4]
    have HR := Hid.intro hr
    have H256 := Hid.intro h256
    clear hr h256
    go_enter Tryd.func30, Tryd.ntmps30
    go_wp2_with fail
    go_loop [3, 11] (fun n c => ∃ k : Nat, k ≤ bs.length ∧ c = .int .i64 k ∧ n = .int .i64 ((readB (bs.take k) : Nat) : Int)) (fun _ c => bs.length - (intOf c).toNat)
    case atStart => exact ⟨0, by omega, rfl, rfl⟩
    case round =>
      obtain ⟨k, hk, rfl, rfl⟩ := hrel
      by_cases hlt : k < bs.length
      · obtain ⟨bb, off, rfl, hc⟩ := reads_at HR.out (by omega)
        have c := hc k hlt
        have hb := H256.out bs[k] (List.getElem_mem hlt)
        have hs := readB_snoc (bs.take k) bs[k]
        rw [← take_snoc bs k hlt] at hs
        have hn := readB_lt (bs.take k) (fun b hb => H256.out b (List.mem_of_mem_take hb))
        have hn2 : readB (bs.take k) < 16777216 := by
          refine Nat.lt_of_lt_of_le hn ?_
          have : (256 : Nat) ^ (bs.take k).length ≤ 256 ^ 3 := Nat.pow_le_pow_right (by decide) (by simp; omega)
          exact this
        generalize bs[k] = b at c hb hs
        generalize readB (bs.take k) = N at hs hn2 ⊢
        have HS := Hid.intro hs
        clear hs hn hc
        have HO := Hid.intro (or_byte N b (by omega) hb)
        have j1 : (0 : Int) ≤ (k : Int) := by omega
        have j2 : (k : Int) < (bs.length : Int) := by omega
        go_wp2
        go_round
        case rel => exact ⟨k + 1, by omega, by go_num, by rw [HS.out, HO.out]⟩
        case measure => simp [intOf]; omega
      · have hke : k = bs.length := by omega
        subst hke
        rw [List.take_length]
        go_wp2
        go_ret
        exact ⟨rfl, rfl⟩

end Go.Proofs.YtaieohnppeapfaaDoor
