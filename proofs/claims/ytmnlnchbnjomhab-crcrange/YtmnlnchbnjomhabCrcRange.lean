/- CrcRange: whatever bytes come in, it returns true: sums of up to 300 bytes are numbers of their widths, and the CRC-16 is read again of its two bytes; no condition. -/
import Derived.Test.YtmnlnchbnjomhabArgs
import Derived.Test.YtmnlnchbnjomhabCrcAlive
namespace Go.Proofs.Ytmnlnchbnjomhab.LCrcRange
open Go.ChangeShapes Go.WideShapes Go.ChangeAt Go.RowKit
open Bt

theorem walk_far (a : Option Addr) (len cap : Nat) (w : World) (hlen : len ≤ maxLen) (h : 300 < len) :
    Calls Try.prog 3 #[.slice a len cap] w fun e w' => e = .returned (.bool true) ∧ Below w.heap.size w w' := by
  unfold maxLen at hlen
  go_enter Try.func3, Try.ntmps3
  go_wp2_with fail
  refine (alive_any _).mono ?_
  rintro e w1 ⟨rfl, B1⟩
  go_wp2
  go_ret
  exact ⟨rfl, B1⟩

set_option maxHeartbeats 1000000 in
theorem walk_near (a : Option Addr) (cap : Nat) (bs : List Nat) (w : World) (h2 : bs.length ≤ 300) (h256 : ∀ b ∈ bs, b < 256) (hr : Reads w a bs) :
    Calls Try.prog 3 #[.slice a bs.length cap] w fun e w' => e = .returned (.bool true) ∧ Below w.heap.size w w' := by
  have HR := Hid.intro hr
  have H256 := Hid.intro h256
  clear hr h256
  have hdec : decide ((300 : Int) < (bs.length : Int)) = false := by simp; omega
  go_enter Try.func3, Try.ntmps3
  go_wp2_with fail
  refine (alive_any _).mono ?_
  rintro e w1 ⟨rfl, B1⟩
  have SB := Hid.intro (fun (w' : World) (h : Below w.heap.size w w') => And.intro (short_any a cap bs (by omega) H256.out w' (HR.out.below h)) (long_any a cap bs (by omega) H256.out w' (HR.out.below h)))
  have hs := crc16_lt bs
  have hl := crc32_lt bs
  generalize crc16 bs = S at SB hs
  generalize crc32 bs = T at SB hl
  have s0 : (0 : Int) ≤ (S : Int) := by omega
  have s1 : (S : Int) < 65536 := by omega
  have t0 : (0 : Int) ≤ (T : Int) := by omega
  have t1 : (T : Int) < 4294967296 := by omega
  go_wp2_with fail
  refine (SB.out w1 B1).1.mono ?_
  rintro e w2 ⟨rfl, B2⟩
  have B2w := B1.trans (B2.mono B1.size)
  clear B1 B2
  go_wp2_with fail
  refine (SB.out w2 B2w).2.mono ?_
  rintro e w3 ⟨rfl, B3⟩
  have B3w := B2w.trans (B3.mono B2w.size)
  clear B2w B3
  go_wp2_with fail
  refine (number_reads S 2 (by decide) w3).mono ?_
  rintro e w4 ⟨ao, rfl, _, B4⟩
  have B4w := B3w.trans (B4.mono B3w.size)
  clear B3w B4
  go_wp2_with fail
  refine (number_reads S 2 (by decide) w4).mono ?_
  rintro e w5 ⟨ao5, rfl, r5, B5⟩
  have B5w := B4w.trans (B5.mono B4w.size)
  rw [lo64_nat S (by omega)] at r5
  have S5 := read_any ao5 2 _ (by rw [numB_length]; omega) (numB_byte _ _) w5 r5
  rw [numB_length, if_neg (by omega), readB_numB, show 256 ^ 2 = 65536 from rfl, Nat.mod_eq_of_lt hs] at S5
  have S5H := Hid.intro S5
  clear S5 r5 B5 B4w
  have hSS : ((S : Int) == (S : Int)) = true := by simp
  go_wp2_with fail
  refine S5H.out.mono ?_
  rintro e w6 ⟨rfl, rfl⟩
  go_wp2
  go_ret
  exact ⟨rfl, B5w⟩

theorem walk (a : Option Addr) (len cap : Nat) (zs : List Int) (w : World) (h : IsRow .u8 w a len cap zs) :
    Calls Try.prog 3 #[.slice a len cap] w fun e w' => e = .returned (.bool true) ∧ Below w.heap.size w w' := by
  by_cases h300 : 300 < len
  · exact walk_far a len cap w h.len h300
  · obtain ⟨bs, hl, h256, hr⟩ := h.bytes
    subst hl
    exact walk_near a cap bs w (by omega) h256 hr

set_option maxRecDepth 100000 in
theorem lifted (os : Os) (started : os.Started) (H : Type) (enc : TypeId × Value → H) :
    ReturnsInHanded {} Try.checked os 3 .any (Rows.crcRangeSpec.pre6 enc Try.prog Try.f3 Rows.crcRangeRow.domain false) (Rows.crcRangeSpec.post enc Try.prog Try.f3 false true false false) := by
  refine returnsInHanded_of_change (C := Try.checked) own started (by kernel_rfl) Try.func3
    (ChangeSpec.witness6 (enc := enc) (C := Try.checked) false ⟨#[], #[.slice none 0 0], []⟩ 8 (by kernel_rfl) (by kernel_rfl) (by kernel_rfl) (by kernel_rfl)) ?_
  intro W base args ds gs before hval0 hW hcnd _
  have hval : ∀ (j : Nat) t v, Try.f3.params[j]? = some t → args[j]? = some v → Value.okWide Try.prog W .any base t v := hval0
  have hW' := hW
  obtain ⟨p, q, hA0, hV, rfl, hfz, hnd⟩ := hW
  have hA : DataW.TrodAll enc Try.prog W 0 (fun _ => true) true Try.f3.params.toList args.toList ds p := hA0
  rw [Try.params3] at hA hval
  obtain ⟨v0, vs0, d0, ds0, p0, q0, hargs, rfl, rfl, h0, r0⟩ := trodAll_cons hA
  obtain ⟨rfl, rfl, rfl⟩ := trodAll_nil r0
  obtain rfl : args = #[v0] := by cases args; simp_all
  obtain ⟨rfl, rfl⟩ := trodVars_none hV
  obtain ⟨a0, len0, cap0, rfl⟩ := okWide_slice Try.underlying22 (hval 0 22 v0 rfl rfl)
  have k0 := h0
  have lt0 : ∀ x ∈ p0, x.block < W.heap.size := by obtain ⟨m, hm⟩ := k0; exact DataW.trod_lt m _ _ _ hm
  obtain ⟨z0, w0⟩ : ∃ zs, IsRow .u8 W a0 len0 cap0 zs := by
    obtain ⟨fuel, hf⟩ := h0
    rcases open_ints Try.underlying22 Try.underlying5 (by kernel_rfl) hf with ⟨hcs, _⟩ | ⟨x, l, c, zs, hcs, _, hl, hm, hz, _, hcell, hwz⟩
    · simp [Value.cells] at hcs
      obtain ⟨rfl, rfl, rfl⟩ := hcs
      exact ⟨[], .inl ⟨rfl, rfl, rfl, rfl⟩⟩
    · simp [Value.cells] at hcs
      obtain ⟨rfl, rfl, rfl⟩ := hcs
      exact ⟨zs, .inr ⟨_, rfl, hl, hm, by simpa using hz, hcell, hwz⟩⟩
  clear hA0 hval0
  refine (walk a0 len0 cap0 z0 W w0).mono fun e W' ⟨he, bel⟩ => ?_
  subst he
  exact ⟨_, rfl, _, _, _, [], _, [], hW', trodAll_mk1 (shut_bool Try.underlying4 _), (trodAll_cons_mk (Below.trod laidOut (by kernel_rfl) (of_decide_eq_true (by kernel_rfl)) k0 bel lt0) trodAll_mk0), rfl, bel.frame _, fun h => by cases h⟩

theorem over : Rows.crcRangeRow.holds Try.pinned (OpenSpec.ofChange Rows.crcRangeSpec) :=
  OpenClaim.holds_of_wide 3 Try.f3 rfl rfl rfl rfl rfl rfl rfl ⟨rfl, rfl, rfl, rfl, rfl⟩ rfl rfl rfl rfl rfl (by kernel_rfl) Try.func3 (by kernel_rfl)
    (of_decide_eq_true (by kernel_rfl)) (by unfold Func.isWrapper; first | (rw [if_pos (by decide +kernel)]; kernel_rfl) | (rw [if_neg (by decide +kernel)]; exact ⟨rfl, rfl⟩))
    (fun os started H enc _ => lifted os started H enc)

end Go.Proofs.Ytmnlnchbnjomhab.LCrcRange

namespace Go.Proofs.Ytmnlnchbnjomhab
theorem crcRange_holds : Rows.CrcRangeSaid := LCrcRange.over
#print axioms crcRange_holds
end Go.Proofs.Ytmnlnchbnjomhab
