/- CrcNumbers: whatever number, count and bytes come in, it returns true: the number's bytes and the number of up to 300 bytes are the document's; no condition. -/
import Derived.Test.YtmnlnchbnjomhaaArgs
import Derived.Test.YtmnlnchbnjomhaaCrcAlive
import Derived.Test.YtmnlnchbnjomhaaRefTwoB
import Derived.Test.YtmnlnchbnjomhaaRefSame
namespace Go.Proofs.Ytmnlnchbnjomhaa.LCrcNumbers
open Go.ChangeShapes Go.WideShapes Go.ChangeAt Go.RowKit
open Bt

theorem refNumber_all (n m : Int) (w : World) :
    Calls Try.prog 16 #[.int .i64 n, .int .i64 m] w fun e w' => ∃ ao cap, e = .returned (.slice ao (numAll n m).length cap) ∧ Reads w' ao (numAll n m) ∧ Below w.heap.size w w' := by
  by_cases h : 0 ≤ m ∧ m ≤ 4
  · obtain ⟨M, rfl⟩ := Int.eq_ofNat_of_zero_le h.1
    rw [show numAll n M = numB (lo64 n) M from by unfold numAll; rw [if_pos h]; rfl, numB_length]
    refine (refNumber_yes n M (by omega) w).mono ?_
    rintro e w' ⟨g, rfl, _, R, B⟩
    have hl := numB_length (lo64 n) M
    change w'.ownsRow 0 5 1 (.slice (some ⟨g, 0, none⟩) M M) M ((numB (lo64 n) M).map U) at R
    generalize numB (lo64 n) M = bs at R hl ⊢
    subst hl
    obtain ⟨ao, cap, hv, hr, _⟩ := row_of_owns R
    cases hv
    exact ⟨_, _, rfl, hr, B⟩
  · rw [show numAll n m = [] from by unfold numAll; rw [if_neg h]]
    refine (refNumber_no n m w (by omega)).mono ?_
    rintro e w' ⟨rfl, rfl⟩
    exact ⟨none, 0, rfl, fun h => absurd h (by simp), Below.refl _ _⟩

theorem walk_far (n m : Int) (a : Option Addr) (len cap : Nat) (w : World) (hlen : len ≤ maxLen) (h : 300 < len) :
    Calls Try.prog 4 #[.int .i64 n, .int .i64 m, .slice a len cap] w fun e w' => e = .returned (.bool true) ∧ Below w.heap.size w w' := by
  unfold maxLen at hlen
  go_enter Try.func4, Try.ntmps4
  go_wp2_with fail
  refine (alive_any _).mono ?_
  rintro e w1 ⟨rfl, B1⟩
  go_wp2
  go_ret
  exact ⟨rfl, B1⟩

set_option maxHeartbeats 1000000 in
theorem walk_near (n m : Int) (a : Option Addr) (cap : Nat) (bs : List Nat) (w : World) (h2 : bs.length ≤ 300) (h256 : ∀ b ∈ bs, b < 256) (hr : Reads w a bs) :
    Calls Try.prog 4 #[.int .i64 n, .int .i64 m, .slice a bs.length cap] w fun e w' => e = .returned (.bool true) ∧ Below w.heap.size w w' := by
  have HR := Hid.intro hr
  have H256 := Hid.intro h256
  clear hr h256
  have hdec : decide ((300 : Int) < (bs.length : Int)) = false := by simp; omega
  go_enter Try.func4, Try.ntmps4
  go_wp2_with fail
  refine (alive_any _).mono ?_
  rintro e w1 ⟨rfl, B1⟩
  go_wp2_with fail
  refine (number_all n m w1).mono ?_
  rintro e w2 ⟨ao, ca, rfl, r2, B2⟩
  have B2w := B1.trans (B2.mono B1.size)
  clear B1 B2
  go_wp2_with fail
  refine (refNumber_all n m w2).mono ?_
  rintro e w3 ⟨bo, cb, rfl, r3, B3⟩
  have B3w := B2w.trans (B3.mono B2w.size)
  have S4 := Hid.intro (same_true ao bo ca cb (numAll n m) (by have := numAll_len n m; omega) w3 (r2.below B3) r3)
  clear r2 r3 B3 B2w
  generalize (numAll n m).length = L at S4 ⊢
  go_wp2_with fail
  refine S4.out.mono ?_
  rintro e w4 ⟨rfl, d, rfl⟩
  have B4w : Below w.heap.size w (w3.drewN d) := ⟨B3w.os, B3w.tape, B3w.output, B3w.size, B3w.block⟩
  generalize w3.drewN d = w4 at B4w ⊢
  clear S4 B3w
  have S5 := Hid.intro (read_any a cap bs (by omega) H256.out w4 (HR.out.below B4w))
  have S6 := Hid.intro (refRead_any a cap bs (by omega) H256.out w4 (HR.out.below B4w))
  generalize (if 4 < bs.length then 0 else readB bs) = R at S5 S6
  have hRR : ((R : Int) == (R : Int)) = true := by simp
  go_wp2_with fail
  refine S5.out.mono ?_
  rintro e w5 ⟨rfl, rfl⟩
  go_wp2_with fail
  refine S6.out.mono ?_
  rintro e w5 ⟨rfl, rfl⟩
  go_wp2
  go_ret
  exact ⟨rfl, B4w⟩

theorem walk (n m : Int) (a : Option Addr) (len cap : Nat) (zs : List Int) (w : World) (_ : (Lit.int .i64 n).wf = true) (_ : (Lit.int .i64 m).wf = true) (h : IsRow .u8 w a len cap zs) :
    Calls Try.prog 4 #[.int .i64 n, .int .i64 m, .slice a len cap] w fun e w' => e = .returned (.bool true) ∧ Below w.heap.size w w' := by
  by_cases h300 : 300 < len
  · exact walk_far n m a len cap w h.len h300
  · obtain ⟨bs, hl, h256, hr⟩ := h.bytes
    subst hl
    exact walk_near n m a cap bs w (by omega) h256 hr

set_option maxRecDepth 100000 in
theorem lifted (os : Os) (started : os.Started) (H : Type) (enc : TypeId × Value → H) :
    ReturnsInHanded {} Try.checked os 4 .any (Rows.crcNumbersSpec.pre6 enc Try.prog Try.f4 Rows.crcNumbersRow.domain false) (Rows.crcNumbersSpec.post enc Try.prog Try.f4 false true false false) := by
  refine returnsInHanded_of_change (C := Try.checked) own started (by kernel_rfl) Try.func4
    (ChangeSpec.witness6 (enc := enc) (C := Try.checked) false ⟨#[], #[.int .i64 0, .int .i64 0, .slice none 0 0], []⟩ 8 (by kernel_rfl) (by kernel_rfl) (by kernel_rfl) (by kernel_rfl)) ?_
  intro W base args ds gs before hval0 hW hcnd _
  have hval : ∀ (j : Nat) t v, Try.f4.params[j]? = some t → args[j]? = some v → Value.okWide Try.prog W .any base t v := hval0
  have hW' := hW
  obtain ⟨p, q, hA0, hV, rfl, hfz, hnd⟩ := hW
  have hA : DataW.TrodAll enc Try.prog W 0 (fun _ => true) true Try.f4.params.toList args.toList ds p := hA0
  rw [Try.params4] at hA hval
  obtain ⟨v0, vs0, d0, ds0, p0, q0, hargs, rfl, rfl, h0, r0⟩ := trodAll_cons hA
  obtain ⟨v1, vs1, d1, ds1, p1, q1, rfl, rfl, rfl, h1, r1⟩ := trodAll_cons r0
  obtain ⟨v2, vs2, d2, ds2, p2, q2, rfl, rfl, rfl, h2, r2⟩ := trodAll_cons r1
  obtain ⟨rfl, rfl, rfl⟩ := trodAll_nil r2
  obtain rfl : args = #[v0, v1, v2] := by cases args; simp_all
  obtain ⟨rfl, rfl⟩ := trodVars_none hV
  obtain ⟨a0, rfl, rfl, rfl, w0⟩ := open_int Try.underlying3 (hval 0 3 v0 rfl rfl) h0
  obtain ⟨a1, rfl, rfl, rfl, w1⟩ := open_int Try.underlying3 (hval 1 3 v1 rfl rfl) h1
  obtain ⟨a2, len2, cap2, rfl⟩ := okWide_slice Try.underlying22 (hval 2 22 v2 rfl rfl)
  have k2 := h2
  have lt2 : ∀ x ∈ p2, x.block < W.heap.size := by obtain ⟨m, hm⟩ := k2; exact DataW.trod_lt m _ _ _ hm
  obtain ⟨z2, w2⟩ : ∃ zs, IsRow .u8 W a2 len2 cap2 zs := by
    obtain ⟨fuel, hf⟩ := h2
    rcases open_ints Try.underlying22 Try.underlying5 (by kernel_rfl) hf with ⟨hcs, _⟩ | ⟨x, l, c, zs, hcs, _, hl, hm, hz, _, hcell, hwz⟩
    · simp [Value.cells] at hcs
      obtain ⟨rfl, rfl, rfl⟩ := hcs
      exact ⟨[], .inl ⟨rfl, rfl, rfl, rfl⟩⟩
    · simp [Value.cells] at hcs
      obtain ⟨rfl, rfl, rfl⟩ := hcs
      exact ⟨zs, .inr ⟨_, rfl, hl, hm, by simpa using hz, hcell, hwz⟩⟩
  clear hA0 hval0
  refine (walk a0 a1 a2 len2 cap2 z2 W w0 w1 w2).mono fun e W' ⟨he, bel⟩ => ?_
  subst he
  exact ⟨_, rfl, _, _, _, [], _, [], hW', trodAll_mk1 (shut_bool Try.underlying4 _), (trodAll_cons_mk (shut_int Try.underlying3 w0) (trodAll_cons_mk (shut_int Try.underlying3 w1) (trodAll_cons_mk (Below.trod laidOut (by kernel_rfl) (of_decide_eq_true (by kernel_rfl)) k2 bel lt2) trodAll_mk0))), rfl, bel.frame _, fun h => by cases h⟩

theorem over : Rows.crcNumbersRow.holds Try.pinned (OpenSpec.ofChange Rows.crcNumbersSpec) :=
  OpenClaim.holds_of_wide 4 Try.f4 rfl rfl rfl rfl rfl rfl rfl ⟨rfl, rfl, rfl, rfl, rfl⟩ rfl rfl rfl rfl rfl (by kernel_rfl) Try.func4 (by kernel_rfl)
    (of_decide_eq_true (by kernel_rfl)) (by unfold Func.isWrapper; first | (rw [if_pos (by decide +kernel)]; kernel_rfl) | (rw [if_neg (by decide +kernel)]; exact ⟨rfl, rfl⟩))
    (fun os started H enc _ => lifted os started H enc)

end Go.Proofs.Ytmnlnchbnjomhaa.LCrcNumbers

namespace Go.Proofs.Ytmnlnchbnjomhaa
theorem crcNumbers_holds : Rows.CrcNumbersSaid := LCrcNumbers.over
#print axioms crcNumbers_holds
end Go.Proofs.Ytmnlnchbnjomhaa
