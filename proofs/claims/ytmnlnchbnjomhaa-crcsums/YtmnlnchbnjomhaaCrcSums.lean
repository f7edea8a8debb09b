/- CrcSums: whatever bytes come in, it returns true: both sums of up to 300 bytes are the document's; no condition. -/
import Derived.Test.YtmnlnchbnjomhaaArgs
import Derived.Test.YtmnlnchbnjomhaaCrcAlive
import Derived.Test.YtmnlnchbnjomhaaRefTwoB
namespace Go.Proofs.Ytmnlnchbnjomhaa.LCrcSums
open Go.ChangeShapes Go.WideShapes Go.ChangeAt Go.RowKit
open Bt

theorem walk_far (a : Option Addr) (len cap : Nat) (w : World) (hlen : len ≤ maxLen) (h : 300 < len) :
    Calls Try.prog 3 #[.slice a len cap] w fun e w' => e = .returned (.bool true) ∧ Below w.heap.size w w' := by
  unfold maxLen at hlen
  go_enter Try.func3, Try.ntmps3
  go_wp2_with fail
  refine (alive_any _).mono ?_
  rintro e w1 ⟨rfl, B1⟩
  go_wp2
  go_ret
  exact ⟨rfl, B1⟩

set_option maxHeartbeats 1000000 in
theorem walk_near (a : Option Addr) (cap : Nat) (bs : List Nat) (w : World) (h2 : bs.length ≤ 300) (hcap : bs.length ≤ cap) (hcm : cap ≤ 9223372036854775807) (h256 : ∀ b ∈ bs, b < 256) (hr : Reads w a bs) :
    Calls Try.prog 3 #[.slice a bs.length cap] w fun e w' => e = .returned (.bool true) ∧ Below w.heap.size w w' := by
  have HR := Hid.intro hr
  have H256 := Hid.intro h256
  clear hr h256
  have hdec : decide ((300 : Int) < (bs.length : Int)) = false := by simp; omega
  go_enter Try.func3, Try.ntmps3
  go_wp2_with fail
  refine (alive_any _).mono ?_
  rintro e w1 ⟨rfl, B1⟩
  go_wp2_with fail
  refine (short_any a cap bs (by omega) H256.out w1 (HR.out.below B1)).mono ?_
  rintro e w2 ⟨rfl, B2⟩
  have B2w := B1.trans (B2.mono B1.size)
  clear B1 B2
  have S3 := Hid.intro (refShort_any a cap bs h2 H256.out w2 (HR.out.below B2w))
  generalize crc16 bs = R at S3 ⊢
  go_wp2_with fail
  refine S3.out.mono ?_
  rintro e w3 ⟨rfl, B3⟩
  have B3w := B2w.trans (B3.mono B2w.size)
  clear B3 B2w S3
  have hRR : ((R : Int) == (R : Int)) = true := by simp
  go_wp2_with fail
  refine (long_any a cap bs (by omega) H256.out w3 (HR.out.below B3w)).mono ?_
  rintro e w4 ⟨rfl, B4⟩
  have B4w := B3w.trans (B4.mono B3w.size)
  clear B4 B3w hRR
  have S5 := Hid.intro (refLong_any a cap bs h2 hcap hcm H256.out w4 (HR.out.below B4w))
  generalize crc32 bs = T at S5 ⊢
  go_wp2_with fail
  refine S5.out.mono ?_
  rintro e w5 ⟨rfl, B5⟩
  have B5w := B4w.trans (B5.mono B4w.size)
  clear B5 B4w S5
  have hTT : ((T : Int) == (T : Int)) = true := by simp
  go_wp2
  go_ret
  exact ⟨rfl, B5w⟩

theorem walk (a : Option Addr) (len cap : Nat) (zs : List Int) (w : World) (h : IsRow .u8 w a len cap zs) :
    Calls Try.prog 3 #[.slice a len cap] w fun e w' => e = .returned (.bool true) ∧ Below w.heap.size w w' := by
  by_cases h300 : 300 < len
  · exact walk_far a len cap w h.len h300
  · obtain ⟨bs, hl, h256, hr⟩ := h.bytes
    subst hl
    exact walk_near a cap bs w (by omega) h.le_cap h.cap_le h256 hr

set_option maxRecDepth 100000 in
theorem lifted (os : Os) (started : os.Started) (H : Type) (enc : TypeId × Value → H) :
    ReturnsInHanded {} Try.checked os 3 .any (Rows.crcSumsSpec.pre6 enc Try.prog Try.f3 Rows.crcSumsRow.domain false) (Rows.crcSumsSpec.post enc Try.prog Try.f3 false true false false) := by
  refine returnsInHanded_of_change (C := Try.checked) own started (by kernel_rfl) Try.func3
    (ChangeSpec.witness6 (enc := enc) (C := Try.checked) false ⟨#[], #[.slice none 0 0], []⟩ 8 (by kernel_rfl) (by kernel_rfl) (by kernel_rfl) (by kernel_rfl)) ?_
  intro W base args ds gs before hval0 hW hcnd _
  have hval : ∀ (j : Nat) t v, Try.f3.params[j]? = some t → args[j]? = some v → Value.okWide Try.prog W .any base t v := hval0
  have hW' := hW
  obtain ⟨p, q, hA0, hV, rfl, hfz, hnd⟩ := hW
  have hA : DataW.TrodAll enc Try.prog W 0 (fun _ => true) true Try.f3.params.toList args.toList ds p := hA0
  rw [Try.params3] at hA hval
  obtain ⟨v0, vs0, d0, ds0, p0, q0, hargs, rfl, rfl, h0, r0⟩ := trodAll_cons hA
  obtain ⟨rfl, rfl, rfl⟩ := trodAll_nil r0
  obtain rfl : args = #[v0] := by cases args; simp_all
  obtain ⟨rfl, rfl⟩ := trodVars_none hV
  obtain ⟨a0, len0, cap0, rfl⟩ := okWide_slice Try.underlying22 (hval 0 22 v0 rfl rfl)
  have k0 := h0
  have lt0 : ∀ x ∈ p0, x.block < W.heap.size := by obtain ⟨m, hm⟩ := k0; exact DataW.trod_lt m _ _ _ hm
  obtain ⟨z0, w0⟩ : ∃ zs, IsRow .u8 W a0 len0 cap0 zs := by
    obtain ⟨fuel, hf⟩ := h0
    rcases open_ints Try.underlying22 Try.underlying5 (by kernel_rfl) hf with ⟨hcs, _⟩ | ⟨x, l, c, zs, hcs, _, hl, hm, hz, _, hcell, hwz⟩
    · simp [Value.cells] at hcs
      obtain ⟨rfl, rfl, rfl⟩ := hcs
      exact ⟨[], .inl ⟨rfl, rfl, rfl, rfl⟩⟩
    · simp [Value.cells] at hcs
      obtain ⟨rfl, rfl, rfl⟩ := hcs
      exact ⟨zs, .inr ⟨_, rfl, hl, hm, by simpa using hz, hcell, hwz⟩⟩
  clear hA0 hval0
  refine (walk a0 len0 cap0 z0 W w0).mono fun e W' ⟨he, bel⟩ => ?_
  subst he
  exact ⟨_, rfl, _, _, _, [], _, [], hW', trodAll_mk1 (shut_bool Try.underlying4 _), (trodAll_cons_mk (Below.trod laidOut (by kernel_rfl) (of_decide_eq_true (by kernel_rfl)) k0 bel lt0) trodAll_mk0), rfl, bel.frame _, fun h => by cases h⟩

theorem over : Rows.crcSumsRow.holds Try.pinned (OpenSpec.ofChange Rows.crcSumsSpec) :=
  OpenClaim.holds_of_wide 3 Try.f3 rfl rfl rfl rfl rfl rfl rfl ⟨rfl, rfl, rfl, rfl, rfl⟩ rfl rfl rfl rfl rfl (by kernel_rfl) Try.func3 (by kernel_rfl)
    (of_decide_eq_true (by kernel_rfl)) (by unfold Func.isWrapper; first | (rw [if_pos (by decide +kernel)]; kernel_rfl) | (rw [if_neg (by decide +kernel)]; exact ⟨rfl, rfl⟩))
    (fun os started H enc _ => lifted os started H enc)

end Go.Proofs.Ytmnlnchbnjomhaa.LCrcSums

namespace Go.Proofs.Ytmnlnchbnjomhaa
theorem crcSums_holds : Rows.CrcSumsSaid := LCrcSums.over
#print axioms crcSums_holds
end Go.Proofs.Ytmnlnchbnjomhaa
