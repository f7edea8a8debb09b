/- The document's own answer of layer 2: numbers as bytes, and back. -/
import Derived.Test.YthbfdfkkacmbhaaDoorBase
import Derived.Test.YthbfdfkkacmbhaaDoorCrcPure
namespace Go.Proofs.YthbfdfkkacmbhaaDoor
open Go.RowKit
open Bt

theorem refNumber_no (n m : Int) (w : World) (h : m < 0 ∨ 4 < m) :
    Calls Tryd.prog 31 #[.int .i64 n, .int .i64 m] w fun e w' => e = .returned (.slice none 0 0) ∧ w = w' := by
  rcases h with h | h
  · go_enter Tryd.func31, Tryd.ntmps31
    go_wp2
    go_ret
    exact ⟨rfl, rfl⟩
  · have h' : ¬ m < 0 := by omega
    go_enter Tryd.func31, Tryd.ntmps31
    go_wp2
    go_ret
    exact ⟨rfl, rfl⟩

/-- A number as 64 bits. -/
def low64 (n : Int) : Nat := (IntKind.u64.wrap n).toNat
theorem low64_eq (n : Int) : IntKind.u64.wrap n = (low64 n : Int) := by
  unfold low64
  have : 0 ≤ IntKind.u64.wrap n := by rw [IntKind.wrap_u64]; omega
  omega
theorem low64_lt (n : Int) : low64 n < 2 ^ 64 := by
  have := low64_eq n
  rw [IntKind.wrap_u64] at this
  omega

set_option maxHeartbeats 1000000 in
theorem refNumber_yes (n : Int) (M : Nat) (h4 : M ≤ 4) (w : World) :
    Calls Tryd.prog 31 #[.int .i64 n, .int .i64 M] w fun e w' => ∃ g, e = .returned (.slice (some ⟨g, 0, none⟩) M M) ∧ w.heap.size ≤ g ∧
      w'.ownsRow 0 5 1 (.slice (some ⟨g, 0, none⟩) M M) M ((numB (low64 n) M).map U) ∧ Below w.heap.size w w' := by
  obtain ⟨i, hi, hz0, hz1, hz2⟩ := info_parts info_u8
  have hu := low64_eq n
  have hul := low64_lt n
  generalize low64 n = u at hu hul ⊢
  go_enter Tryd.func31, Tryd.ntmps31
  go_wp2_with (at_make; refine wpList_make_full _ rfl _ _ 30 rfl 0 5 i (.int .u8 0) 1 Tryd.underlying30 hi hz0 hz1 _ _ _ _ M rfl rfl (by omega) (by omega) (by rw [hz2]; omega) (by unfold maxLen; omega) (Nat.zero_le _) ?_)
  intro w1 hown hgrow
  have hB : Below w.heap.size w w1 := (Below.refl _ w).grown hgrow (Nat.le_refl _) (fun k hk => by cases hk)
  have hR : w1.ownsRow 0 5 1 (.slice (some ⟨w.heap.size, 0, none⟩) M M) M ((laidB u M 0).map U) := by
    rw [laidB_zero, List.map_replicate]
    rw [toList_madeCells_one] at hown
    exact hown
  clear hown hgrow
  go_wp2_with fail
  clear hu
  go_loopw [6, 7] (fun n c wr => ∃ j : Nat, j ≤ M ∧ n = .int .u64 ((u / 256 ^ j : Nat) : Int) ∧ c = .int .i64 ((M : Int) - 1 - j) ∧
      wr.ownsRow 0 5 1 (.slice (some ⟨w.heap.size, 0, none⟩) M M) M ((laidB u M j).map U) ∧ Below w.heap.size w wr)
    (fun _ c _ => (intOf c + 1).toNat)
  case atStart => exact ⟨0, by omega, by simp, by simp, hR, hB⟩
  case round =>
    obtain ⟨j, hj, rfl, rfl, RJ, BJ⟩ := hrel
    clear hR hB
    by_cases hlt : j < M
    · have hq : u / 256 ^ j < 2 ^ 64 := Nat.lt_of_le_of_lt (Nat.div_le_self _ _) hul
      have hst := laidB_step u M j hlt
      have hdiv : u / 256 ^ (j + 1) = u / 256 ^ j / 256 := by rw [Nat.pow_succ, Nat.div_div_eq_div_mul]
      generalize u / 256 ^ j = q at hq hst hdiv ⊢
      have HST := Hid.intro hst
      have HD := Hid.intro hdiv
      clear hst hdiv
      have fl := laidB_length u M j
      have c1 : ∃ x, wr.cell? ⟨w.heap.size, M - 1 - j, none⟩ = some x := by
        rw [RJ.cellAt _ (by omega)]
        exact ⟨_, List.getElem?_eq_getElem (by simp [fl]; omega)⟩
      obtain ⟨x, c1⟩ := c1
      have f1 : wr.frozen? ⟨w.heap.size, M - 1 - j, none⟩ = false := RJ.frozenAt _
      have RS : (wr.setCell ⟨w.heap.size, M - 1 - j, none⟩ (U (q % 256))).ownsRow 0 5 1 (.slice (some ⟨w.heap.size, 0, none⟩) M M) M ((laidB u M (j + 1)).map U) := by
        rw [← HST.out, List.map_set]; exact (RJ.stored _ _).1
      have BS : Below w.heap.size w (wr.setCell ⟨w.heap.size, M - 1 - j, none⟩ (U (q % 256))) := BJ.setCell (Nat.le_refl _) _
      have RSH := Hid.intro RS
      have BSH := Hid.intro BS
      clear RS BS RJ BJ fl
      go_wp2
      go_roundw
      case rel => exact ⟨j + 1, by omega, by rw [HD.out]; go_num, by go_num, RSH.out, BSH.out⟩
      case measure => simp [intOf]; omega
    · have hjm : j = M := by omega
      rw [hjm, laidB_all] at RJ
      clear hjm
      go_wp2
      go_ret
      exact ⟨w.heap.size, rfl, Nat.le_refl _, RJ, BJ⟩

set_option maxHeartbeats 1000000 in
theorem refRead_any (a : Option Addr) (cap : Nat) (bs : List Nat) (hl : bs.length < 2 ^ 62) (h256 : ∀ b ∈ bs, b < 256) (w : World) (hr : Reads w a bs) :
    Calls Tryd.prog 38 #[.slice a bs.length cap] w fun e w' => e = .returned (.int .i64 (((if 4 < bs.length then 0 else readB bs) : Nat) : Int)) ∧ w = w' := by
  by_cases h4 : 4 < bs.length
  · rw [if_pos h4]
    go_enter Tryd.func38, Tryd.ntmps38
    go_wp2
    go_ret
    exact ⟨rfl, rfl⟩
  · rw [if_neg h4]
    have HR := Hid.intro hr
    have H256 := Hid.intro h256
    clear hr h256
    go_enter Tryd.func38, Tryd.ntmps38
    go_wp2_with fail
    go_loop [3, 4] (fun n c => ∃ k : Nat, k ≤ bs.length ∧ c = .int .i64 k ∧ n = .int .i64 ((readB (bs.take k) : Nat) : Int)) (fun _ c => bs.length - (intOf c).toNat)
    case atStart => exact ⟨0, by omega, rfl, rfl⟩
    case round =>
      obtain ⟨k, hk, rfl, rfl⟩ := hrel
      by_cases hlt : k < bs.length
      · obtain ⟨bb, off, rfl, hc⟩ := reads_at HR.out (by omega)
        have c := hc k hlt
        have hb := H256.out bs[k] (List.getElem_mem hlt)
        have hs := readB_snoc (bs.take k) bs[k]
        rw [← take_snoc bs k hlt] at hs
        have hn := readB_lt (bs.take k) (fun b hb => H256.out b (List.mem_of_mem_take hb))
        have hn2 : readB (bs.take k) < 16777216 := by
          refine Nat.lt_of_lt_of_le hn ?_
          have : (256 : Nat) ^ (bs.take k).length ≤ 256 ^ 3 := Nat.pow_le_pow_right (by decide) (by simp; omega)
          exact this
        generalize bs[k] = b at c hb hs
        generalize readB (bs.take k) = N at hs hn2 ⊢
        have HS := Hid.intro hs
        clear hs hn hc
        have j1 : (0 : Int) ≤ (k : Int) := by omega
        have j2 : (k : Int) < (bs.length : Int) := by omega
        go_wp2
        go_round
        case rel => exact ⟨k + 1, by omega, by go_num, by rw [HS.out]; go_num⟩
        case measure => simp [intOf]; omega
      · have hke : k = bs.length := by omega
        subst hke
        rw [List.take_length]
        go_wp2
        go_ret
        exact ⟨rfl, rfl⟩

end Go.Proofs.YthbfdfkkacmbhaaDoor
