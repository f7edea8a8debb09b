/- BitsSplit: whatever numbers come in, it returns true: a field's bits are those of the two that it is split into; no condition. -/
import Derived.Test.YtfmnnhpadpjegaaAlive
import Derived.ProofKit
import Derived.OpenShut
import Derived.ChangeOld
namespace Go.Proofs.Ytfmnnhpadpjegaa.Split
open Go.ChangeShapes Go.WideShapes Go.ChangeAt Go.RowKit
open Bt

theorem own : ownKnob Try.prog.godebug = none := by kernel_rfl

theorem over_zero (s : Int) (h1 : -9223372036854775808 ≤ s) (h2 : s < 0) : wrap64 (2 ^ min (IntKind.u64.wrap s).toNat 64) = 0 := by
  have e : IntKind.u64.wrap s = s + 18446744073709551616 := by
    simp [IntKind.wrap, IntKind.bits, IntKind.signed]; omega
  rw [e, Nat.min_eq_right (by omega)]
  unfold wrap64; decide

theorem two_pow_small (k : Nat) (h : k ≤ 32) : (2 : Int) ^ k ≤ 4294967296 := by
  have : (2 : Nat) ^ k ≤ 2 ^ 32 := Nat.pow_le_pow_right (by decide) h
  have h2 : ((2 ^ k : Nat) : Int) ≤ ((2 ^ 32 : Nat) : Int) := by omega
  simpa using h2

theorem wrap_pow (k : Nat) (h : k ≤ 32) : wrap64 ((2 : Int) ^ k) = 2 ^ k := by
  have h1 := two_pow_small k h
  have h2 : (0 : Int) < 2 ^ k := Int.pow_pos (by decide)
  exact IntWalk.wrap64_in _ (by omega)

theorem mask (N M : Nat) (hN : N < 4294967296) (hM : M ≤ 32) : bits BinOp.and IntKind.i64 (N : Int) (wrap64 (wrap64 (2 ^ M) - 1)) = ((N % 2 ^ M : Nat) : Int) := by
  have h1 := two_pow_small M hM
  have h2 : (0 : Int) < 2 ^ M := Int.pow_pos (by decide)
  have h3 : 0 < 2 ^ M := Nat.pow_pos (n := M) (show 0 < 2 by decide)
  have h4 : 2 ^ M ≤ 2 ^ 32 := Nat.pow_le_pow_right (by decide) hM
  have e : (2 : Int) ^ M - 1 = ((2 ^ M - 1 : Nat) : Int) := by
    rw [Int.ofNat_sub (by omega)]; simp
  rw [wrap_pow M hM, IntWalk.wrap64_in _ (by omega), e, i64_and_nat _ _ (by omega) (by omega), Nat.and_two_pow_sub_one_eq_mod]

/-- The main way: all three are fields, and their bits are the same. -/
theorem main_facts (N V M : Nat) (hV : 1 ≤ V) (hM : 1 ≤ M) (hS : V + M ≤ 32) (hN : N < 2 ^ (V + M)) :
    isF N (V + M : Nat) = true ∧ isF (N / 2 ^ M : Nat) V = true ∧ isF (N % 2 ^ M : Nat) M = true ∧ putB N (V + M : Nat) = putB (N / 2 ^ M : Nat) V ++ putB (N % 2 ^ M : Nat) M := by
  have h2 : N / 2 ^ M < 2 ^ V := by
    rw [Nat.div_lt_iff_lt_mul (Nat.pow_pos (by decide)), ← Nat.pow_add]; exact hN
  have h3 : N % 2 ^ M < 2 ^ M := Nat.mod_lt _ (Nat.pow_pos (by decide))
  have a1 : isF N (V + M : Nat) = true := isF_nat (by omega) (by omega) hN
  have a2 : isF (N / 2 ^ M : Nat) V = true := isF_nat (by omega) (by omega) h2
  have a3 : isF (N % 2 ^ M : Nat) M = true := isF_nat (by omega) (by omega) h3
  refine ⟨a1, a2, a3, ?_⟩
  simp only [putB, a1, a2, a3, if_true, Int.toNat_natCast]
  exact fld_split V M N

set_option maxHeartbeats 1000000 in
theorem walk_main (N V M : Nat) (hV : 1 ≤ V) (hM : 1 ≤ M) (hS : V + M ≤ 32) (hN : N < 2 ^ (V + M)) (hN2 : N < 4294967296) (w : World) :
    Calls Try.prog 7 #[.int .i64 N, .int .i64 V, .int .i64 M] w fun e w' => e = .returned (.bool true) ∧ Below w.heap.size w w' := by
  have hF := main_facts N V M hV hM hS hN
  rw [Int.natCast_add, show ((N / 2 ^ M : Nat) : Int) = (N : Int) / 2 ^ M by simp] at hF
  have HF := Hid.intro hF
  clear hF
  have HM := Hid.intro (mask N M hN2 (by omega))
  clear hN
  go_enter Try.func7, Try.ntmps7
  go_wp2_with (go_at_call 9; refine (alive_any _).mono ?_; rintro e w1 ⟨rfl, B1⟩)
  · go_ret
    exact ⟨rfl, B1⟩
  · obtain ⟨P0, Q0, A0⟩ := pens_new w1
    have B0 := B1.trans (A0.mono B1.size)
    have T0 := apart_new w1.heap.size (w1.heap.size + 1) (by omega)
    have hpq : w.heap.size ≤ w1.heap.size := B1.size
    generalize (w1.alloc (.cells #[.slice none 0 0, .int .i64 0] 26)).alloc (.cells #[.slice none 0 0, .int .i64 0] 26) = w2 at P0 Q0 B0 ⊢
    clear A0 B1
    refine (put_any w1.heap.size N (V + M) _ _ (by simp) w2 P0).mono ?_
    rintro e w3 ⟨rfl, v3, P3, C3, K3⟩
    rw [HF.out.1]
    have O3 := (own_new w.heap.size w1.heap.size hpq).next B0.size K3
    have B3 := B0.trans (((own_new w.heap.size w1.heap.size hpq).chg C3).below B0.size fun _ h => h)
    have Q3 := Q0.kept C3 T0.symm
    have T3 := T0.next Q0 K3
    clear P0 C3 K3 Q0 T0 B0
    go_wp2_with fail
    refine (put_any (w1.heap.size + 1) (N / 2 ^ M) V _ _ (by simp) w3 Q3).mono ?_
    rintro e w4 ⟨rfl, v4, Q4, C4, K4⟩
    rw [HF.out.2.1]
    have U3 := own_new w.heap.size (w1.heap.size + 1) (by omega)
    have U4 := U3.next B3.size K4
    have B4 := B3.trans ((U3.chg C4).below B3.size fun _ h => h)
    have P4 := P3.kept C4 T3
    have T4 := T3.symm.next P3 K4
    clear P3 C4 K4 Q3 T3 B3 U3
    go_wp2_with fail
    rw [HM.out]
    refine (put_any (w1.heap.size + 1) (N % 2 ^ M : Nat) M _ _ (by have := putB_length (N / 2 ^ M) V; simp; omega) w4 Q4).mono ?_
    rintro e w5 ⟨rfl, v5, Q5, C5, K5⟩
    rw [HF.out.2.2.1]
    have U5 := U4.next B4.size K5
    have B5 := B4.trans ((U4.chg C5).below B4.size fun _ h => h)
    have P5 := P4.kept C5 T4.symm
    clear P4 C5 K5 Q4 T4 B4 U4
    rw [List.nil_append] at P5 Q5
    rw [← HF.out.2.2.2] at Q5
    have hll := putB_length N (V + M)
    generalize putB (N : Int) ((V : Int) + (M : Int)) = L at P5 Q5 hll
    go_wp2_with fail
    refine (len_any w1.heap.size v3 L w5 P5).mono ?_
    rintro e w6 ⟨rfl, rfl⟩
    go_wp2_with fail
    refine (len_any (w1.heap.size + 1) v5 L w5 Q5).mono ?_
    rintro e w6 ⟨rfl, rfl⟩
    go_wp2_with fail
    refine (bytes_any w1.heap.size v3 L (by omega) w5 P5).mono ?_
    rintro e w6 ⟨g6, rfl, hg6, R6, C6⟩
    have Q6 := Q5.kept C6 (fun _ _ h => h)
    have B6 := B5.trans ((C6.below (Nat.le_refl _) (fun _ h => h.elim)).mono B5.size)
    clear C6 Q5 P5 B5 hg6
    go_wp2_with fail
    refine (bytes_any (w1.heap.size + 1) v5 L (by omega) w6 Q6).mono ?_
    rintro e w7 ⟨g7, rfl, hg7, R7, C7⟩
    have R8 := R6.kept C7 (fun h => h)
    have B7 := B6.trans ((C7.below (Nat.le_refl _) (fun _ h => h.elim)).mono B6.size)
    clear C7 Q6 R6 B6 hg7
    go_wp2_with fail
    refine (same_true (some ⟨g6, 0, none⟩) (some ⟨g7, 0, none⟩) _ _ (pack L) (by rw [pack_length]; omega) w7 R8.reads R7.reads).mono ?_
    rintro e w8 ⟨rfl, n8, rfl⟩
    go_wp2
    go_ret
    exact ⟨rfl, ⟨B7.os, B7.tape, B7.output, B7.size, B7.block⟩⟩

theorem walk (n v m : Int) (hn : -9223372036854775808 ≤ n ∧ n ≤ 9223372036854775807) (hv : -9223372036854775808 ≤ v ∧ v ≤ 9223372036854775807) (hm : -9223372036854775808 ≤ m ∧ m ≤ 9223372036854775807) (w : World) :
    Calls Try.prog 7 #[.int .i64 n, .int .i64 v, .int .i64 m] w fun e w' => e = .returned (.bool true) ∧ Below w.heap.size w w' := by
  by_cases h1 : v < 1
  · go_enter Try.func7, Try.ntmps7
    go_wp2_with (go_at_call 9; refine (alive_any _).mono ?_; rintro e w1 ⟨rfl, B1⟩)
    go_ret
    exact ⟨rfl, B1⟩
  · by_cases h2 : m < 1
    · go_enter Try.func7, Try.ntmps7
      go_wp2_with (go_at_call 9; refine (alive_any _).mono ?_; rintro e w1 ⟨rfl, B1⟩)
      go_ret
      exact ⟨rfl, B1⟩
    · by_cases h3 : v + m ≤ 9223372036854775807
      · by_cases h4 : 32 < v + m
        · go_enter Try.func7, Try.ntmps7
          go_wp2_with (go_at_call 9; refine (alive_any _).mono ?_; rintro e w1 ⟨rfl, B1⟩)
          go_ret
          exact ⟨rfl, B1⟩
        · by_cases h5 : n < 0
          · go_enter Try.func7, Try.ntmps7
            go_wp2_with (go_at_call 9; refine (alive_any _).mono ?_; rintro e w1 ⟨rfl, B1⟩)
            go_ret
            exact ⟨rfl, B1⟩
          · by_cases h7 : n < 2 ^ (v + m).toNat
            · obtain ⟨N, rfl⟩ := Int.eq_ofNat_of_zero_le (show 0 ≤ n by omega)
              obtain ⟨V, rfl⟩ := Int.eq_ofNat_of_zero_le (show 0 ≤ v by omega)
              obtain ⟨M, rfl⟩ := Int.eq_ofNat_of_zero_le (show 0 ≤ m by omega)
              have e : ((V : Int) + (M : Int)).toNat = V + M := by omega
              rw [e] at h7
              have h8 := two_pow_small (V + M) (by omega)
              exact walk_main N V M (by omega) (by omega) (by omega) (by exact_mod_cast h7) (by omega) w
            · have h9 := wrap_pow (v + m).toNat (by omega)
              have H9 := Hid.intro h9
              have H7 := Hid.intro h7
              clear h9 h7
              go_enter Try.func7, Try.ntmps7
              go_wp2_with (go_at_call 9; refine (alive_any _).mono ?_; rintro e w1 ⟨rfl, B1⟩)
              · go_ret
                exact ⟨rfl, B1⟩
              · have hlt : n < wrap64 (2 ^ (v + m).toNat) := by
                  have h7 : (((1 ≤ v ∧ 1 ≤ m) ∧ v + m ≤ 32) ∧ 0 ≤ n) ∧ n < wrap64 (2 ^ (v + m).toNat) := by assumption
                  exact h7.2
                rw [H9.out] at hlt
                exact absurd hlt (Int.not_lt.2 H7.out)
      · have h6 : wrap64 (v + m) < 0 := by unfold wrap64; omega
        have h8 : -9223372036854775808 ≤ wrap64 (v + m) := by unfold wrap64; omega
        by_cases h5 : n < 0
        · go_enter Try.func7, Try.ntmps7
          go_wp2_with (go_at_call 9; refine (alive_any _).mono ?_; rintro e w1 ⟨rfl, B1⟩)
          go_ret
          exact ⟨rfl, B1⟩
        · go_enter Try.func7, Try.ntmps7
          go_wp2_with (go_at_call 9; refine (alive_any _).mono ?_; rintro e w1 ⟨rfl, B1⟩)
          · go_ret
            exact ⟨rfl, B1⟩
          · have hlt : n < wrap64 (2 ^ min (IntKind.u64.wrap (wrap64 (v + m))).toNat 64) := by
              have h7 : (((1 ≤ v ∧ 1 ≤ m) ∧ wrap64 (v + m) ≤ 32) ∧ 0 ≤ n) ∧ n < wrap64 (2 ^ min (IntKind.u64.wrap (wrap64 (v + m))).toNat 64) := by assumption
              exact h7.2
            rw [over_zero _ h8 h6] at hlt
            exact absurd hlt (by omega)

theorem bounds {a : Int} (h : (Lit.int .i64 a).wf = true) : -9223372036854775808 ≤ a ∧ a ≤ 9223372036854775807 := bounds_i64 h

set_option maxRecDepth 100000 in
theorem lifted (os : Os) (started : os.Started) (H : Type) (enc : TypeId × Value → H) :
    ReturnsInHanded {} Try.checked os 7 .any (Rows.bitsSplitSpec.pre6 enc Try.prog Try.f7 Rows.bitsSplitRow.domain false) (Rows.bitsSplitSpec.post enc Try.prog Try.f7 false true false false) := by
  refine returnsInHanded_of_change (C := Try.checked) own started (by kernel_rfl) Try.func7
    (ChangeSpec.witness6 (enc := enc) (C := Try.checked) false ⟨#[], #[.int .i64 0, .int .i64 0, .int .i64 0], []⟩ 8 (by kernel_rfl) (by kernel_rfl) (by kernel_rfl) (by kernel_rfl)) ?_
  intro W base args ds gs before hval0 hW hcnd _
  have hval : ∀ (j : Nat) t v, Try.f7.params[j]? = some t → args[j]? = some v → Value.okWide Try.prog W .any base t v := hval0
  have hW' := hW
  obtain ⟨p, q, hA0, hV, rfl, hfz, hnd⟩ := hW
  have hA : DataW.TrodAll enc Try.prog W 0 (fun _ => true) true Try.f7.params.toList args.toList ds p := hA0
  rw [Try.params7] at hA hval
  obtain ⟨v0, vs0, d0, ds0, p0, q0, hargs, rfl, rfl, h0, r0⟩ := trodAll_cons hA
  obtain ⟨v1, vs1, d1, ds1, p1, q1, rfl, rfl, rfl, h1, r1⟩ := trodAll_cons r0
  obtain ⟨v2, vs2, d2, ds2, p2, q2, rfl, rfl, rfl, h2, r2⟩ := trodAll_cons r1
  obtain ⟨rfl, rfl, rfl⟩ := trodAll_nil r2
  obtain rfl : args = #[v0, v1, v2] := by cases args; simp_all
  obtain ⟨rfl, rfl⟩ := trodVars_none hV
  obtain ⟨a0, rfl, rfl, rfl, w0⟩ := open_int Try.underlying3 (hval 0 3 v0 rfl rfl) h0
  obtain ⟨a1, rfl, rfl, rfl, w1⟩ := open_int Try.underlying3 (hval 1 3 v1 rfl rfl) h1
  obtain ⟨a2, rfl, rfl, rfl, w2⟩ := open_int Try.underlying3 (hval 2 3 v2 rfl rfl) h2
  clear hA0 hval0
  refine (walk a0 a1 a2 (bounds w0) (bounds w1) (bounds w2) W).mono fun e W' ⟨he, bel⟩ => ?_
  subst he
  exact ⟨_, rfl, _, _, _, [], _, [], hW', trodAll_mk1 (shut_bool Try.underlying4 _), (trodAll_cons_mk (shut_int Try.underlying3 w0) (trodAll_cons_mk (shut_int Try.underlying3 w1) (trodAll_cons_mk (shut_int Try.underlying3 w2) trodAll_mk0))), rfl, bel.frame _, fun h => by cases h⟩

theorem over : Rows.bitsSplitRow.holds Try.pinned (OpenSpec.ofChange Rows.bitsSplitSpec) :=
  OpenClaim.holds_of_wide 7 Try.f7 rfl rfl rfl rfl rfl rfl rfl ⟨rfl, rfl, rfl, rfl, rfl⟩ rfl rfl rfl rfl rfl (by kernel_rfl) Try.func7 (by kernel_rfl)
    (of_decide_eq_true (by kernel_rfl)) (by unfold Func.isWrapper; first | (rw [if_pos (by decide +kernel)]; kernel_rfl) | (rw [if_neg (by decide +kernel)]; exact ⟨rfl, rfl⟩))
    (fun os started H enc _ => lifted os started H enc)

end Go.Proofs.Ytfmnnhpadpjegaa.Split

namespace Go.Proofs.Ytfmnnhpadpjegaa
theorem bitsSplit_holds : Rows.BitsSplitSaid := Split.over
#print axioms bitsSplit_holds
end Go.Proofs.Ytfmnnhpadpjegaa
