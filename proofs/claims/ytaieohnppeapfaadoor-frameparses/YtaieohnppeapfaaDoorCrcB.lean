/- Contracts of package crc's sums: Short is the document's CRC-16 as a plain number, Long the CRC-32. -/
import Derived.Test.YtaieohnppeapfaaDoorCrcA
namespace Go.Proofs.YtaieohnppeapfaaDoor
open Go.RowKit
open Bt

theorem run_snoc (n P s : Nat) (l : List Nat) (b : Nat) : run n P s (l ++ [b]) = stp n P (run n P s l) b := by rw [run_append]; rfl

theorem fld8_take (x t : Nat) (h : t < 8) : (fld 8 x).take (t + 1) = (fld 8 x).take t ++ [x / 2 ^ (7 - t) % 2] := by
  have hl : t < (fld 8 x).length := by rw [fld_length]; exact h
  have e := fld_getD 8 x t h
  rw [List.getD_eq_getElem?_getD, List.getElem?_eq_getElem hl, Option.getD_some] at e
  rw [take_snoc _ _ hl, e]

theorem fld8_back (x t : Nat) (h : t < 8) : (fld 8 x).reverse.take (t + 1) = (fld 8 x).reverse.take t ++ [x / 2 ^ t % 2] := by
  have hl : t < (fld 8 x).reverse.length := by rw [List.length_reverse, fld_length]; exact h
  have e := fld_getD 8 x (8 - 1 - t) (by omega)
  rw [List.getD_eq_getElem?_getD, List.getElem?_eq_getElem (by rw [fld_length]; omega), Option.getD_some] at e
  rw [take_snoc _ _ hl, List.getElem_reverse]
  simp only [fld_length]
  rw [e, show 8 - 1 - (8 - 1 - t) = t from by omega]

theorem drew_heap (w : World) (m : Nat) : (w.drewN m).heap = w.heap := rfl

theorem ways_at0 : ∀ w, (Instr.index 75 (.agg wayCells) (.int .i64 0)).run Tryd.prog w = .ok (.agg #[.int .i64 16, .int .u32 4129, .int .u32 65535, Fv 53, Fv 54]) w := by
  intro w
  kernel_rfl

theorem ways_at1 : ∀ w, (Instr.index 75 (.agg wayCells) (.int .i64 1)).run Tryd.prog w = .ok (.agg #[.int .i64 32, .int .u32 79764919, .int .u32 4294967295, Fv 55, Fv 56]) w := by
  intro w
  kernel_rfl

set_option maxHeartbeats 1000000 in
theorem sum_short (a : Option Addr) (cap : Nat) (bs : List Nat) (hl : bs.length < 2 ^ 62) (h256 : ∀ b ∈ bs, b < 256) (w : World) (hr : Reads w a bs) :
    Calls Tryd.prog 36 #[.int .i64 0, .slice a bs.length cap] w fun e w' => e = .returned (.int .i64 ((crc16 bs : Nat) : Int)) ∧ Below w.heap.size w w' := by
  have HR := Hid.intro hr
  have H256 := Hid.intro h256
  clear hr h256
  have i0 := ways_at0
  obtain ⟨R, hR⟩ : ∃ R, R = crc16 bs := ⟨_, rfl⟩
  rw [← hR]
  have HRR := Hid.intro hR
  clear hR
  go_enter Tryd.func36, Tryd.ntmps36
  go_wp2_with fail
  refine (ways_any w).mono ?_
  rintro e w1 ⟨rfl, B1⟩
  go_wp2_with fail
  clear i0
  have WA := heap_alloc_new w1 (.cells #[.int .i64 16, .int .u32 4129, .int .u32 65535, Fv 53, Fv 54] 74)
  have B2 := B1.alloc B1.size (.cells #[.int .i64 16, .int .u32 4129, .int .u32 65535, Fv 53, Fv 54] 74)
  generalize w1.alloc (.cells #[.int .i64 16, .int .u32 4129, .int .u32 65535, Fv 53, Fv 54] 74) = w2 at WA B2 ⊢
  generalize w1.heap.size = pb at WA ⊢
  have c3 : w2.cell? ⟨pb, 3, none⟩ = some (Fv 53) := by rw [cell_of_row _ _ _ _ _ _ WA]; rfl
  have c4 : w2.cell? ⟨pb, 4, none⟩ = some (Fv 54) := by rw [cell_of_row _ _ _ _ _ _ WA]; rfl
  have WAH := Hid.intro WA
  have B2H := Hid.intro B2
  clear WA B2 B1
  go_loop [6, 17] (fun s c => ∃ k : Nat, k ≤ bs.length ∧ c = .int .i64 k ∧ s = .int .u32 ((run 15 4129 65535 (unpack (bs.take k)) : Nat) : Int)) (fun _ c => bs.length - (intOf c).toNat)
  case atStart => exact ⟨0, by omega, rfl, rfl⟩
  case round =>
    obtain ⟨k, hk, rfl, rfl⟩ := hrel
    by_cases hlt : k < bs.length
    · obtain ⟨bb, off, rfl, hc⟩ := reads_at HR.out (by omega)
      have cl := hc k hlt
      have c := (B2H.out.cell (cell_lt cl)).trans cl
      have hb := H256.out bs[k] (List.getElem_mem hlt)
      have ts : unpack (bs.take (k + 1)) = unpack (bs.take k) ++ fld 8 bs[k] := unpack_take_succ bs k hlt
      generalize bs[k] = x at c hb ts
      have hS := run_lt (n := 15) (P := 4129) (by decide) 65535 (by decide) (unpack (bs.take k))
      have hn : run 15 4129 65535 (unpack (bs.take (k + 1))) = run 15 4129 (run 15 4129 65535 (unpack (bs.take k))) (fld 8 x) := by rw [ts, run_append]
      generalize run 15 4129 65535 (unpack (bs.take k)) = S at hS hn ⊢
      have HN := Hid.intro hn
      clear hn ts cl hc
      have j1 : (0 : Int) ≤ (k : Int) := by omega
      have j2 : (k : Int) < (bs.length : Int) := by omega
      go_wp2_with fail
      go_loop [6, 21] (fun s c => ∃ t : Nat, t ≤ 8 ∧ c = .int .i64 t ∧ s = .int .u32 ((run 15 4129 S ((fld 8 x).take t) : Nat) : Int)) (fun _ c => 8 - (intOf c).toNat)
      case atStart => exact ⟨0, by omega, rfl, rfl⟩
      case round =>
        obtain ⟨t, ht, rfl, rfl⟩ := hrel
        by_cases htl : t < 8
        · have hT := run_lt (n := 15) (P := 4129) (by decide) S hS ((fld 8 x).take t)
          have hs2 := run_snoc 15 4129 S ((fld 8 x).take t) (x / 2 ^ (7 - t) % 2)
          rw [← fld8_take x t htl] at hs2
          generalize run 15 4129 S ((fld 8 x).take t) = T at hT hs2 ⊢
          have HS2 := Hid.intro hs2
          clear hs2
          go_wp2_with fail
          refine (highest_any x t hb htl w2).mono ?_
          rintro e w' ⟨rfl, rfl⟩
          have hbit : x / 2 ^ (7 - t) % 2 < 2 := Nat.mod_lt _ (by decide)
          generalize x / 2 ^ (7 - t) % 2 = y at hbit HS2 ⊢
          go_wp2_with fail
          refine (step_any pb 15 4129 T y _ _ _ (by decide) hT (by decide) hbit w2 WAH.out).mono ?_
          rintro e w' ⟨rfl, rfl⟩
          rw [← HS2.out]
          obtain ⟨V, hV⟩ : ∃ V, V = run 15 4129 S ((fld 8 x).take (t + 1)) := ⟨_, rfl⟩
          rw [← hV]
          have HV := Hid.intro hV
          clear hV
          go_wp2
          go_round
          case rel => exact ⟨t + 1, by omega, by go_num, by rw [HV.out]⟩
          case measure => simp [intOf]; omega
        · have hte : t = 8 := by omega
          subst hte
          rw [List.take_of_length_le (by simp [fld_length]), ← HN.out]
          obtain ⟨V, hV⟩ : ∃ V, V = run 15 4129 65535 (unpack (bs.take (k + 1))) := ⟨_, rfl⟩
          rw [← hV]
          have HV := Hid.intro hV
          clear hV
          go_wp2
          go_round
          case rel => exact ⟨k + 1, by omega, by go_num, by rw [HV.out]⟩
          case measure => simp [intOf]; omega
    · have hke : k = bs.length := by omega
      subst hke
      rw [List.take_length]
      have e := HRR.out
      unfold crc16 at e
      rw [← e]
      have hlt := crc16_lt bs
      rw [← HRR.out] at hlt
      clear e HRR
      go_wp2_with fail
      refine (asItIs_any _ w2).mono ?_
      rintro e w' ⟨rfl, rfl⟩
      go_wp2
      go_ret
      exact ⟨rfl, B2H.out⟩

set_option maxHeartbeats 1000000 in
theorem sum_long (a : Option Addr) (cap : Nat) (bs : List Nat) (hl : bs.length < 2 ^ 62) (h256 : ∀ b ∈ bs, b < 256) (w : World) (hr : Reads w a bs) :
    Calls Tryd.prog 36 #[.int .i64 1, .slice a bs.length cap] w fun e w' => e = .returned (.int .i64 ((crc32 bs : Nat) : Int)) ∧ Below w.heap.size w w' := by
  have HR := Hid.intro hr
  have H256 := Hid.intro h256
  clear hr h256
  have i0 := ways_at1
  obtain ⟨R, hR⟩ : ∃ R, R = crc32 bs := ⟨_, rfl⟩
  rw [← hR]
  have HRR := Hid.intro hR
  clear hR
  go_enter Tryd.func36, Tryd.ntmps36
  go_wp2_with fail
  refine (ways_any w).mono ?_
  rintro e w1 ⟨rfl, B1⟩
  go_wp2_with fail
  clear i0
  have WA := heap_alloc_new w1 (.cells #[.int .i64 32, .int .u32 79764919, .int .u32 4294967295, Fv 55, Fv 56] 74)
  have B2 := B1.alloc B1.size (.cells #[.int .i64 32, .int .u32 79764919, .int .u32 4294967295, Fv 55, Fv 56] 74)
  generalize w1.alloc (.cells #[.int .i64 32, .int .u32 79764919, .int .u32 4294967295, Fv 55, Fv 56] 74) = w2 at WA B2 ⊢
  generalize w1.heap.size = pb at WA ⊢
  have c3 : w2.cell? ⟨pb, 3, none⟩ = some (Fv 55) := by rw [cell_of_row _ _ _ _ _ _ WA]; rfl
  have c4 : w2.cell? ⟨pb, 4, none⟩ = some (Fv 56) := by rw [cell_of_row _ _ _ _ _ _ WA]; rfl
  have WAH := Hid.intro WA
  have B2H := Hid.intro B2
  clear WA B2 B1
  go_loop [6, 17] (fun s c => ∃ k : Nat, k ≤ bs.length ∧ c = .int .i64 k ∧ s = .int .u32 ((run 31 79764919 4294967295 (lows (bs.take k)) : Nat) : Int)) (fun _ c => bs.length - (intOf c).toNat)
  case atStart => exact ⟨0, by omega, rfl, rfl⟩
  case round =>
    obtain ⟨k, hk, rfl, rfl⟩ := hrel
    by_cases hlt : k < bs.length
    · obtain ⟨bb, off, rfl, hc⟩ := reads_at HR.out (by omega)
      have cl := hc k hlt
      have c := (B2H.out.cell (cell_lt cl)).trans cl
      have hb := H256.out bs[k] (List.getElem_mem hlt)
      have ts : lows (bs.take (k + 1)) = lows (bs.take k) ++ (fld 8 bs[k]).reverse := by rw [take_snoc bs k hlt, lows_snoc]
      generalize bs[k] = x at c hb ts
      have hS := run_lt (n := 31) (P := 79764919) (by decide) 4294967295 (by decide) (lows (bs.take k))
      have hn : run 31 79764919 4294967295 (lows (bs.take (k + 1))) = run 31 79764919 (run 31 79764919 4294967295 (lows (bs.take k))) ((fld 8 x).reverse) := by rw [ts, run_append]
      generalize run 31 79764919 4294967295 (lows (bs.take k)) = S at hS hn ⊢
      have HN := Hid.intro hn
      clear hn ts cl hc
      have j1 : (0 : Int) ≤ (k : Int) := by omega
      have j2 : (k : Int) < (bs.length : Int) := by omega
      go_wp2_with fail
      go_loop [6, 21] (fun s c => ∃ t : Nat, t ≤ 8 ∧ c = .int .i64 t ∧ s = .int .u32 ((run 31 79764919 S (((fld 8 x).reverse).take t) : Nat) : Int)) (fun _ c => 8 - (intOf c).toNat)
      case atStart => exact ⟨0, by omega, rfl, rfl⟩
      case round =>
        obtain ⟨t, ht, rfl, rfl⟩ := hrel
        by_cases htl : t < 8
        · have hT := run_lt (n := 31) (P := 79764919) (by decide) S hS (((fld 8 x).reverse).take t)
          have hs2 := run_snoc 31 79764919 S (((fld 8 x).reverse).take t) (x / 2 ^ t % 2)
          rw [← fld8_back x t htl] at hs2
          generalize run 31 79764919 S (((fld 8 x).reverse).take t) = T at hT hs2 ⊢
          have HS2 := Hid.intro hs2
          clear hs2
          go_wp2_with fail
          refine (lowest_any x t hb htl w2).mono ?_
          rintro e w' ⟨rfl, rfl⟩
          have hbit : x / 2 ^ t % 2 < 2 := Nat.mod_lt _ (by decide)
          generalize x / 2 ^ t % 2 = y at hbit HS2 ⊢
          go_wp2_with fail
          refine (step_any pb 31 79764919 T y _ _ _ (by decide) hT (by decide) hbit w2 WAH.out).mono ?_
          rintro e w' ⟨rfl, rfl⟩
          rw [← HS2.out]
          obtain ⟨V, hV⟩ : ∃ V, V = run 31 79764919 S (((fld 8 x).reverse).take (t + 1)) := ⟨_, rfl⟩
          rw [← hV]
          have HV := Hid.intro hV
          clear hV
          go_wp2
          go_round
          case rel => exact ⟨t + 1, by omega, by go_num, by rw [HV.out]⟩
          case measure => simp [intOf]; omega
        · have hte : t = 8 := by omega
          subst hte
          rw [List.take_of_length_le (by simp [fld_length]), ← HN.out]
          obtain ⟨V, hV⟩ : ∃ V, V = run 31 79764919 4294967295 (lows (bs.take (k + 1))) := ⟨_, rfl⟩
          rw [← hV]
          have HV := Hid.intro hV
          clear hV
          go_wp2
          go_round
          case rel => exact ⟨k + 1, by omega, by go_num, by rw [HV.out]⟩
          case measure => simp [intOf]; omega
    · have hke : k = bs.length := by omega
      subst hke
      rw [List.take_length]
      have e := HRR.out
      unfold crc32 at e
      have hS := run_lt (n := 31) (P := 79764919) (by decide) 4294967295 (by decide) (lows bs)
      have hlt := crc32_lt bs
      rw [← HRR.out] at hlt
      generalize run 31 79764919 4294967295 (lows bs) = S at e hS ⊢
      have EH := Hid.intro e
      clear e HRR
      go_wp2_with fail
      refine (mirrored_any S (by omega) w2).mono ?_
      rintro e w' ⟨rfl, rfl⟩
      rw [← EH.out]
      clear EH
      go_wp2
      go_ret
      exact ⟨rfl, B2H.out⟩

theorem short_any (a : Option Addr) (cap : Nat) (bs : List Nat) (hl : bs.length < 2 ^ 62) (h256 : ∀ b ∈ bs, b < 256) (w : World) (hr : Reads w a bs) :
    Calls Tryd.prog 23 #[.slice a bs.length cap] w fun e w' => e = .returned (.int .i64 ((crc16 bs : Nat) : Int)) ∧ Below w.heap.size w w' := by
  have HS := Hid.intro (sum_short a cap bs hl h256 w hr)
  generalize crc16 bs = R at HS ⊢
  clear h256 hr
  go_enter Tryd.func23, Tryd.ntmps23
  go_wp2_with fail
  refine HS.out.mono ?_
  rintro e w1 ⟨rfl, B1⟩
  go_wp2
  go_ret
  exact ⟨rfl, B1⟩

theorem long_any (a : Option Addr) (cap : Nat) (bs : List Nat) (hl : bs.length < 2 ^ 62) (h256 : ∀ b ∈ bs, b < 256) (w : World) (hr : Reads w a bs) :
    Calls Tryd.prog 24 #[.slice a bs.length cap] w fun e w' => e = .returned (.int .i64 ((crc32 bs : Nat) : Int)) ∧ Below w.heap.size w w' := by
  have HS := Hid.intro (sum_long a cap bs hl h256 w hr)
  generalize crc32 bs = R at HS ⊢
  clear h256 hr
  go_enter Tryd.func24, Tryd.ntmps24
  go_wp2_with fail
  refine HS.out.mono ?_
  rintro e w1 ⟨rfl, B1⟩
  go_wp2
  go_ret
  exact ⟨rfl, B1⟩

end Go.Proofs.YtaieohnppeapfaaDoor
