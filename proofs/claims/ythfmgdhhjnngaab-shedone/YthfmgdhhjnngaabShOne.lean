/- The statement ShedOne: a bed alone is shed level by level, and is at Full again behind as many calm ticks as are waited for. -/
import Derived.Test.YthfmgdhhjnngaabShAlive
import Derived.Test.YthfmgdhhjnngaabShRng
import Derived.Test.YthfmgdhhjnngaabArgs
namespace Go.Proofs.Ythfmgdhhjnngaab
open Go.ChangeShapes Go.WideShapes Go.ChangeAt Go.RowKit
open Bt

namespace LShedOne

def oneC (C t : Nat) (p : Int) (v : Nat) : Ctl := ⟨C, t, [⟨5, p, v⟩]⟩

theorem add_one (C : Nat) (p : Int) : addE ⟨C, 0, []⟩ 5 = 0 ∧ addC ⟨C, 0, []⟩ 5 p = oneC C 0 p 0 := by
  have e : addE ⟨C, 0, []⟩ 5 = 0 := rfl
  exact ⟨e, by unfold addC; rw [if_pos e]; rfl⟩

theorem up_one (p : Int) (v : Nat) (hv : v < 3) : upS [(⟨5, p, v⟩ : Sd)] = some 0 := by simp [upS]; omega

theorem tick_one (C : Nat) (p : Int) (v : Nat) (hv : v < 3) : tickD (oneC C 0 p v) true = 5 ∧ tickC (oneC C 0 p v) true = oneC C 0 p (v + 1) := by
  refine ⟨?_, ?_⟩
  · simp [tickD, oneC, shedD, up_one p v hv]
  · simp [tickC, oneC, shedL, up_one p v hv, oneS]

theorem lev_one (C t : Nat) (p : Int) (v : Nat) : levS (oneC C t p v) 5 = v := rfl

theorem calm_go (C t : Nat) (p : Int) (v : Nat) (h : t + 1 < C) : tickD (oneC C t p v) false = -1 ∧ tickC (oneC C t p v) false = oneC C (t + 1) p v :=
  ⟨by simp [tickD], by simp [tickC, oneC]; omega⟩

theorem calm_end (C t : Nat) (p : Int) (v : Nat) (h : t + 1 = C) : tickD (oneC C t p v) false = -1 ∧ tickC (oneC C t p v) false = oneC C 0 p 0 :=
  ⟨by simp [tickD], by simp [tickC, oneC, h, zeroS]⟩

theorem rem_one (C t : Nat) (p : Int) (v : Nat) : remE (oneC C t p v) 5 = 0 ∧ levS (remC (oneC C t p v) 5) 5 = 3 := ⟨rfl, rfl⟩

def atO (C t : Nat) (p : Int) (v : Nat) : Ctl := if t < C then oneC C t p v else oneC C 0 p 0

set_option maxRecDepth 100000 in
set_option maxHeartbeats 2000000 in
theorem walk_nat (calm prio : Int) (N : Nat) (hN : N < 256) (w : World) :
    Calls Try.prog 4 #[.int .i64 calm, .int .i64 prio, .int .u8 (N : Int)] w fun e w' => e = .returned (.bool true) ∧ Below w.heap.size w w' := by
  have AL := Hid.intro (alive13_any w)
  by_cases hc : calm < 1 ∨ 1000 < calm
  · have NN := Hid.intro (hnew_no calm hc)
    clear hc
    go_enter Try.func4, Try.ntmps4
    go_wp2_with fail
    refine AL.out.mono ?_
    rintro e w1 ⟨rfl, B1⟩
    have BH := Hid.intro B1
    clear AL B1
    go_wp2_with fail
    refine (NN.out w1).mono ?_
    rintro e w2 ⟨rfl, B2⟩
    have B2H := Hid.intro (BH.out.trans (B2.mono BH.out.size))
    clear NN BH B2
    go_wp2
    go_ret
    exact ⟨rfl, B2H.out⟩
  · obtain ⟨C, rfl⟩ := Int.eq_ofNat_of_zero_le (show 0 ≤ calm by omega)
    have hC1 : 1 ≤ C := by omega
    have hC2 : C ≤ 1000 := by omega
    have NY := Hid.intro (hnew_yes C hC1 hC2)
    clear hc
    obtain ⟨k, hk⟩ : ∃ k, k = N % 4 := ⟨_, rfl⟩
    have hk4 : k < 4 := by omega
    have HK : (N : Int) % 4 = (k : Int) := by omega
    clear hk
    go_enter Try.func4, Try.ntmps4
    go_wp2_with fail
    refine AL.out.mono ?_
    rintro e w1 ⟨rfl, B1⟩
    have BH := Hid.intro B1
    clear AL B1
    go_wp2_with fail
    refine (NY.out w1).mono ?_
    rintro e w2 ⟨b, T, rfl, hS, hF, B2⟩
    have AD := hladd 5 prio (hl_new hS hF B2)
    rw [(add_one C prio).1, (add_one C prio).2] at AD
    have ADH := Hid.intro AD
    clear NY hS hF B2 AD
    go_wp2_with fail
    refine ADH.out.mono ?_
    rintro e w3 ⟨rfl, L3⟩
    have L3H := Hid.intro L3
    clear ADH L3
    go_wp2_with fail
    (try rw [HK])
    clear HK
    go_loopw [9] (fun iv ws => ∃ t : Nat, t ≤ k ∧ iv = .int .i64 ((t : Int) + 1) ∧ HL (fun k => k < w1.heap.size) w1 ws b (oneC C 0 prio t)) (fun iv _ => k + 1 - (intOf iv).toNat)
    case atStart => exact ⟨0, by omega, rfl, L3H.out⟩
    case round =>
      clear L3H
      obtain ⟨t, ht, rfl, hL⟩ := hrel
      by_cases hlt : t < k
      · have t1 : (t : Int) + 1 ≤ (k : Int) := by omega
        have TK := hltick true hL
        rw [(tick_one C prio t (by omega)).1, (tick_one C prio t (by omega)).2] at TK
        have TKH := Hid.intro TK
        clear TK hL
        go_wp2_with fail
        refine TKH.out.mono ?_
        rintro e w4 ⟨rfl, L4⟩
        have LV := hllevel 5 L4
        rw [lev_one] at LV
        have LVH := Hid.intro LV
        clear TKH L4 LV
        go_wp2_with fail
        refine LVH.out.mono ?_
        rintro e w5 ⟨rfl, L5⟩
        have L5H := Hid.intro L5
        clear LVH L5
        go_wp2
        go_roundw
        case rel => exact ⟨t + 1, by omega, by go_num, L5H.out⟩
        case measure => simp [intOf]; omega
      · obtain rfl : t = k := by omega
        have t1 : ¬ (t : Int) + 1 ≤ (t : Int) := by omega
        have L4H : Hid (HL (fun k => k < w1.heap.size) w1 wr b (atO C 0 prio t)) := by rw [Hid, atO, if_pos (by omega)]; exact hL
        clear hL
        go_wp2_with fail
        generalize wr = wx at *
        go_loopw [10] (fun iv ws => ∃ s : Nat, s ≤ C ∧ iv = .int .i64 s ∧ HL (fun k => k < w1.heap.size) w1 ws b (atO C s prio t)) (fun iv _ => C - (intOf iv).toNat)
        case atStart => exact ⟨0, by omega, rfl, L4H.out⟩
        case round =>
          clear L4H
          obtain ⟨s, hs, rfl, hL⟩ := hrel
          by_cases hst : s < C
          · have s1 : (s : Int) < (C : Int) := by omega
            rw [atO, if_pos hst] at hL
            have LV := hllevel 5 hL
            rw [lev_one] at LV
            have LVH := Hid.intro LV
            have TT : Hid (∀ W, HL (fun k => k < w1.heap.size) w1 W b (oneC C s prio t) → Calls Try.prog 9 #[.pointer (some ⟨b, 0, none⟩), .bool false] W fun e w' => e = .returned (.int .i64 (-1)) ∧ HL (fun k => k < w1.heap.size) w1 w' b (atO C (s + 1) prio t)) := fun W hW => by
              have q := hltick false hW
              by_cases e : s + 1 = C
              · rw [(calm_end C s prio t e).1, (calm_end C s prio t e).2] at q
                rw [atO, if_neg (by omega)]
                exact q
              · rw [(calm_go C s prio t (by omega)).1, (calm_go C s prio t (by omega)).2] at q
                rw [atO, if_pos (by omega)]
                exact q
            clear LV hL
            go_wp2_with fail
            refine LVH.out.mono ?_
            rintro e w4 ⟨rfl, L4⟩
            have T4 := Hid.intro (TT.out w4 L4)
            clear LVH L4 TT
            go_wp2_with fail
            refine T4.out.mono ?_
            rintro e w5 ⟨rfl, L5⟩
            have L5H := Hid.intro L5
            clear T4 L5
            go_wp2
            go_roundw
            case rel => exact ⟨s + 1, by omega, by go_num, L5H.out⟩
            case measure => simp [intOf]; omega
          · obtain rfl : s = C := by omega
            have s1 : ¬ (s : Int) < (s : Int) := by omega
            rw [atO, if_neg (by omega)] at hL
            have LV := hllevel 5 hL
            rw [lev_one] at LV
            have LVH := Hid.intro LV
            clear LV hL
            go_wp2_with fail
            refine LVH.out.mono ?_
            rintro e w4 ⟨rfl, L4⟩
            have RM := hlremove 5 L4
            rw [(rem_one s 0 prio 0).1] at RM
            have RMH := Hid.intro RM
            clear LVH L4 RM
            go_wp2_with fail
            refine RMH.out.mono ?_
            rintro e w5 ⟨rfl, L5⟩
            have LX := hllevel 5 L5
            rw [(rem_one s 0 prio 0).2] at LX
            have LXH := Hid.intro LX
            clear RMH L5 LX
            go_wp2_with fail
            refine LXH.out.mono ?_
            rintro e w6 ⟨rfl, L6⟩
            have FI := Hid.intro (BH.out.trans ((L6.out (Nat.le_refl _)).mono BH.out.size))
            clear LXH L6
            go_wp2
            go_ret
            exact ⟨rfl, FI.out⟩

theorem walk (calm prio n : Int) (w : World) (_ : (Lit.int .i64 calm).wf = true) (_ : (Lit.int .i64 prio).wf = true) (hn : (Lit.int .u8 n).wf = true) :
    Calls Try.prog 4 #[.int .i64 calm, .int .i64 prio, .int .u8 n] w fun e w' => e = .returned (.bool true) ∧ Below w.heap.size w w' := by
  obtain ⟨N, rfl, hN⟩ := u8_natS hn
  exact walk_nat calm prio N hN w

set_option maxRecDepth 100000 in
theorem lifted (os : Os) (started : os.Started) (H : Type) (enc : TypeId × Value → H) :
    ReturnsInHanded {} Try.checked os 4 .any (Rows.shedOneSpec.pre6 enc Try.prog Try.f4 Rows.shedOneRow.domain false) (Rows.shedOneSpec.post enc Try.prog Try.f4 false true false false) := by
  refine returnsInHanded_of_change (C := Try.checked) own started (by kernel_rfl) Try.func4
    (ChangeSpec.witness6 (enc := enc) (C := Try.checked) false ⟨#[], #[.int .i64 0, .int .i64 0, .int .u8 0], []⟩ 8 (by kernel_rfl) (by kernel_rfl) (by kernel_rfl) (by kernel_rfl)) ?_
  intro W base args ds gs before hval0 hW hcnd _
  have hval : ∀ (j : Nat) t v, Try.f4.params[j]? = some t → args[j]? = some v → Value.okWide Try.prog W .any base t v := hval0
  have hW' := hW
  obtain ⟨p, q, hA0, hV, rfl, hfz, hnd⟩ := hW
  have hA : DataW.TrodAll enc Try.prog W 0 (fun _ => true) true Try.f4.params.toList args.toList ds p := hA0
  rw [Try.params4] at hA hval
  obtain ⟨v0, vs0, d0, ds0, p0, q0, hargs, rfl, rfl, h0, r0⟩ := trodAll_cons hA
  obtain ⟨v1, vs1, d1, ds1, p1, q1, rfl, rfl, rfl, h1, r1⟩ := trodAll_cons r0
  obtain ⟨v2, vs2, d2, ds2, p2, q2, rfl, rfl, rfl, h2, r2⟩ := trodAll_cons r1
  obtain ⟨rfl, rfl, rfl⟩ := trodAll_nil r2
  obtain rfl : args = #[v0, v1, v2] := by cases args; simp_all
  obtain ⟨rfl, rfl⟩ := trodVars_none hV
  obtain ⟨a0, rfl, rfl, rfl, w0⟩ := open_int Try.underlying3 (hval 0 3 v0 rfl rfl) h0
  obtain ⟨a1, rfl, rfl, rfl, w1⟩ := open_int Try.underlying3 (hval 1 3 v1 rfl rfl) h1
  obtain ⟨a2, rfl, rfl, rfl, w2⟩ := open_int Try.underlying5 (hval 2 5 v2 rfl rfl) h2
  clear hA0 hval0
  refine (walk a0 a1 a2 W w0 w1 w2).mono fun e W' ⟨he, bel⟩ => ?_
  subst he
  exact ⟨_, rfl, _, _, _, [], _, [], hW', trodAll_mk1 (shut_bool Try.underlying4 _), (trodAll_cons_mk (shut_int Try.underlying3 w0) (trodAll_cons_mk (shut_int Try.underlying3 w1) (trodAll_cons_mk (shut_int Try.underlying5 w2) trodAll_mk0))), rfl, bel.frame _, fun h => by cases h⟩

theorem over : Rows.shedOneRow.holds Try.pinned (OpenSpec.ofChange Rows.shedOneSpec) :=
  OpenClaim.holds_of_wide 4 Try.f4 rfl rfl rfl rfl rfl rfl rfl ⟨rfl, rfl, rfl, rfl, rfl⟩ rfl rfl rfl rfl rfl (by kernel_rfl) Try.func4 (by kernel_rfl)
    (of_decide_eq_true (by kernel_rfl)) (by unfold Func.isWrapper; first | (rw [if_pos (by decide +kernel)]; kernel_rfl) | (rw [if_neg (by decide +kernel)]; exact ⟨rfl, rfl⟩))
    (fun os started H enc _ => lifted os started H enc)

end Go.Proofs.Ythfmgdhhjnngaab.LShedOne

namespace Go.Proofs.Ythfmgdhhjnngaab
theorem shedOne_holds : Rows.ShedOneSaid := LShedOne.over
#print axioms shedOne_holds
end Go.Proofs.Ythfmgdhhjnngaab
