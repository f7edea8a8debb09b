/- The statement ShedFull: beds that are shed to Off are shed no more, and a controller without beds sheds none. -/
import Derived.Test.YthfmgdhhjnngaaaShAlive
import Derived.Test.YthfmgdhhjnngaaaShRng
import Derived.Test.YthfmgdhhjnngaaaArgs
namespace Go.Proofs.Ythfmgdhhjnngaaa
open Go.ChangeShapes Go.WideShapes Go.ChangeAt Go.RowKit
open Bt

namespace LShedFull

/-- The beds that were put in. -/
def fullB : Nat → List Sd
  | 0 => []
  | k + 1 => ⟨(k : Int), (k : Int), 0⟩ :: fullB k

def stF (k : Nat) : Nat → List Sd
  | 0 => fullB k
  | t + 1 => shedL (stF k t)

theorem add_tab : ∀ i, i < 8 → addE ⟨1, 0, fullB i⟩ (i : Int) = 0 ∧ insS (fullB i) ⟨(i : Int), (i : Int), 0⟩ = fullB (i + 1) := by decide +kernel
theorem tick_tab : ∀ k, k < 9 → ∀ t, t < 3 * k → 0 ≤ shedD (stF k t) := by decide +kernel
theorem end_tab : ∀ k, k < 9 → shedD (stF k (3 * k)) = -1 ∧ ∀ i, i < k → levS ⟨1, 0, stF k (3 * k)⟩ (i : Int) = 3 := by decide +kernel

theorem add_at (C i : Nat) (hi : i < 8) : addE ⟨C, 0, fullB i⟩ (i : Int) = 0 ∧ addC ⟨C, 0, fullB i⟩ (i : Int) (i : Int) = ⟨C, 0, fullB (i + 1)⟩ := by
  obtain ⟨e1, e2⟩ := add_tab i hi
  have e1' : addE ⟨C, 0, fullB i⟩ (i : Int) = 0 := e1
  refine ⟨e1', ?_⟩
  unfold addC
  rw [if_pos e1']
  show (⟨C, 0, insS (fullB i) _⟩ : Ctl) = _
  rw [e2]

theorem tick_at (C : Nat) (l : List Sd) : tickD ⟨C, 0, l⟩ true = shedD l ∧ tickC ⟨C, 0, l⟩ true = ⟨C, 0, shedL l⟩ := ⟨by simp [tickD], by simp [tickC]⟩

theorem tick_empty (C : Nat) : tickD ⟨C, 0, []⟩ true = -1 ∧ tickC ⟨C, 0, []⟩ true = ⟨C, 0, fullB 0⟩ := ⟨by simp [tickD]; rfl, by simp [tickC]; rfl⟩

set_option maxRecDepth 100000 in
set_option maxHeartbeats 2000000 in
theorem walk_nat (calm : Int) (N : Nat) (hN : N < 256) (w : World) :
    Calls Try.prog 7 #[.int .i64 calm, .int .u8 (N : Int)] w fun e w' => e = .returned (.bool true) ∧ Below w.heap.size w w' := by
  have AL := Hid.intro (alive13_any w)
  by_cases hc : calm < 1 ∨ 1000 < calm
  · have NN := Hid.intro (hnew_no calm hc)
    clear hc
    go_enter Try.func7, Try.ntmps7
    go_wp2_with fail
    refine AL.out.mono ?_
    rintro e w1 ⟨rfl, B1⟩
    have BH := Hid.intro B1
    clear AL B1
    go_wp2_with fail
    refine (NN.out w1).mono ?_
    rintro e w2 ⟨rfl, B2⟩
    have B2H := Hid.intro (BH.out.trans (B2.mono BH.out.size))
    clear NN BH B2
    go_wp2
    go_ret
    exact ⟨rfl, B2H.out⟩
  · obtain ⟨C, rfl⟩ := Int.eq_ofNat_of_zero_le (show 0 ≤ calm by omega)
    have NY := Hid.intro (hnew_yes C (by omega) (by omega))
    clear hc
    obtain ⟨k, hk⟩ : ∃ k, k = N % 9 := ⟨_, rfl⟩
    have hk9 : k < 9 := by omega
    have HK : (N : Int) % 9 = (k : Int) := by omega
    clear hk
    go_enter Try.func7, Try.ntmps7
    go_wp2_with fail
    refine AL.out.mono ?_
    rintro e w1 ⟨rfl, B1⟩
    have BH := Hid.intro B1
    clear AL B1
    go_wp2_with fail
    refine (NY.out w1).mono ?_
    rintro e w2 ⟨b, T, rfl, hS, hF, B2⟩
    have TK := hltick true (hl_new hS hF B2)
    rw [(tick_empty C).1, (tick_empty C).2] at TK
    have TKH := Hid.intro TK
    clear NY hS hF B2 TK
    go_wp2_with fail
    refine TKH.out.mono ?_
    rintro e w3 ⟨rfl, L3⟩
    have L3H := Hid.intro L3
    clear TKH L3
    go_wp2_with fail
    (try rw [HK])
    clear HK
    go_loopw [7] (fun iv ws => ∃ t : Nat, t ≤ k ∧ iv = .int .i64 t ∧ HL (fun k => k < w1.heap.size) w1 ws b ⟨C, 0, fullB t⟩) (fun iv _ => k - (intOf iv).toNat)
    case atStart => exact ⟨0, by omega, rfl, L3H.out⟩
    case round =>
      clear L3H
      obtain ⟨t, ht, rfl, hL⟩ := hrel
      by_cases hlt : t < k
      · have t1 : (t : Int) < (k : Int) := by omega
        have AD := hladd (t : Int) (t : Int) hL
        rw [(add_at C t (by omega)).1, (add_at C t (by omega)).2] at AD
        have ADH := Hid.intro AD
        clear AD hL
        go_wp2_with fail
        refine ADH.out.mono ?_
        rintro e w4 ⟨rfl, L4⟩
        have L4H := Hid.intro L4
        clear ADH L4
        go_wp2
        go_roundw
        case rel => exact ⟨t + 1, by omega, by go_num, L4H.out⟩
        case measure => simp [intOf]; omega
      · obtain rfl : t = k := by omega
        have t1 : ¬ (t : Int) < (t : Int) := by omega
        have L4H := Hid.intro hL
        clear hL
        go_wp2_with fail
        generalize wr = wx at *
        go_loopw [8] (fun iv ws => ∃ s : Nat, s ≤ 3 * t ∧ iv = .int .i64 s ∧ HL (fun k => k < w1.heap.size) w1 ws b ⟨C, 0, stF t s⟩) (fun iv _ => 3 * t - (intOf iv).toNat)
        case atStart => exact ⟨0, by omega, rfl, L4H.out⟩
        case round =>
          clear L4H
          obtain ⟨s, hs, rfl, hL⟩ := hrel
          by_cases hst : s < 3 * t
          · have s1 : (s : Int) < 3 * (t : Int) := by omega
            have TK := hltick true hL
            rw [(tick_at C (stF t s)).1, (tick_at C (stF t s)).2] at TK
            have nn : 0 ≤ shedD (stF t s) := tick_tab t hk9 s hst
            have LL := Hid.intro (fun W (q : HL (fun k => k < w1.heap.size) w1 W b ⟨C, 0, shedL (stF t s)⟩) => (show HL (fun k => k < w1.heap.size) w1 W b ⟨C, 0, stF t (s + 1)⟩ from q))
            have TKH := Hid.intro TK
            clear TK hL
            generalize shedD (stF t s) = d at *
            generalize shedL (stF t s) = l2 at *
            have d0 : ¬ d < 0 := by omega
            go_wp2_with fail
            refine TKH.out.mono ?_
            rintro e w4 ⟨rfl, L4⟩
            have L5 := Hid.intro (LL.out w4 L4)
            clear TKH L4 LL
            go_wp2
            go_roundw
            case rel => exact ⟨s + 1, by omega, by go_num, L5.out⟩
            case measure => simp [intOf]; omega
          · obtain rfl : s = 3 * t := by omega
            have s1 : ¬ ((3 * t : Nat) : Int) < 3 * (t : Int) := by omega
            have L5H := Hid.intro hL
            obtain ⟨e1, e2⟩ := end_tab t hk9
            have E1 := Hid.intro e1
            have E2 : Hid (∀ i, i < t → levS ⟨C, 0, stF t (3 * t)⟩ (i : Int) = 3) := e2
            clear hL e1 e2
            go_wp2_with fail
            generalize wr = wy at *
            generalize stF t (3 * t) = l3 at *
            go_loopw [9] (fun iv ws => ∃ r : Nat, r ≤ t ∧ iv = .int .i64 r ∧ HL (fun k => k < w1.heap.size) w1 ws b ⟨C, 0, l3⟩) (fun iv _ => t - (intOf iv).toNat)
            case atStart => exact ⟨0, by omega, rfl, L5H.out⟩
            case round =>
              clear L5H
              obtain ⟨r, hr, rfl, hL⟩ := hrel
              by_cases hrt : r < t
              · have r1 : (r : Int) < (t : Int) := by omega
                have LV := hllevel (r : Int) hL
                rw [E2.out r hrt] at LV
                have LVH := Hid.intro LV
                clear LV hL
                go_wp2_with fail
                refine LVH.out.mono ?_
                rintro e w5 ⟨rfl, L6⟩
                have L6H := Hid.intro L6
                clear LVH L6
                go_wp2
                go_roundw
                case rel => exact ⟨r + 1, by omega, by go_num, L6H.out⟩
                case measure => simp [intOf]; omega
              · obtain rfl : r = t := by omega
                have r1 : ¬ (r : Int) < (r : Int) := by omega
                have TK := hltick true hL
                rw [(tick_at C l3).1, (tick_at C l3).2, E1.out] at TK
                have TKH := Hid.intro TK
                clear TK hL
                go_wp2_with fail
                refine TKH.out.mono ?_
                rintro e w6 ⟨rfl, L7⟩
                have CM := Hid.intro (hlcalm L7)
                clear TKH L7
                go_wp2_with fail
                refine CM.out.mono ?_
                rintro e w7 ⟨rfl, L8⟩
                have FI := Hid.intro (BH.out.trans ((L8.out (Nat.le_refl _)).mono BH.out.size))
                clear CM L8
                go_wp2
                go_ret
                exact ⟨rfl, FI.out⟩

theorem walk (calm n : Int) (w : World) (_ : (Lit.int .i64 calm).wf = true) (hn : (Lit.int .u8 n).wf = true) :
    Calls Try.prog 7 #[.int .i64 calm, .int .u8 n] w fun e w' => e = .returned (.bool true) ∧ Below w.heap.size w w' := by
  obtain ⟨N, rfl, hN⟩ := u8_natS hn
  exact walk_nat calm N hN w

set_option maxRecDepth 100000 in
theorem lifted (os : Os) (started : os.Started) (H : Type) (enc : TypeId × Value → H) :
    ReturnsInHanded {} Try.checked os 7 .any (Rows.shedFullSpec.pre6 enc Try.prog Try.f7 Rows.shedFullRow.domain false) (Rows.shedFullSpec.post enc Try.prog Try.f7 false true false false) := by
  refine returnsInHanded_of_change (C := Try.checked) own started (by kernel_rfl) Try.func7
    (ChangeSpec.witness6 (enc := enc) (C := Try.checked) false ⟨#[], #[.int .i64 0, .int .u8 0], []⟩ 8 (by kernel_rfl) (by kernel_rfl) (by kernel_rfl) (by kernel_rfl)) ?_
  intro W base args ds gs before hval0 hW hcnd _
  have hval : ∀ (j : Nat) t v, Try.f7.params[j]? = some t → args[j]? = some v → Value.okWide Try.prog W .any base t v := hval0
  have hW' := hW
  obtain ⟨p, q, hA0, hV, rfl, hfz, hnd⟩ := hW
  have hA : DataW.TrodAll enc Try.prog W 0 (fun _ => true) true Try.f7.params.toList args.toList ds p := hA0
  rw [Try.params7] at hA hval
  obtain ⟨v0, vs0, d0, ds0, p0, q0, hargs, rfl, rfl, h0, r0⟩ := trodAll_cons hA
  obtain ⟨v1, vs1, d1, ds1, p1, q1, rfl, rfl, rfl, h1, r1⟩ := trodAll_cons r0
  obtain ⟨rfl, rfl, rfl⟩ := trodAll_nil r1
  obtain rfl : args = #[v0, v1] := by cases args; simp_all
  obtain ⟨rfl, rfl⟩ := trodVars_none hV
  obtain ⟨a0, rfl, rfl, rfl, w0⟩ := open_int Try.underlying3 (hval 0 3 v0 rfl rfl) h0
  obtain ⟨a1, rfl, rfl, rfl, w1⟩ := open_int Try.underlying5 (hval 1 5 v1 rfl rfl) h1
  clear hA0 hval0
  refine (walk a0 a1 W w0 w1).mono fun e W' ⟨he, bel⟩ => ?_
  subst he
  exact ⟨_, rfl, _, _, _, [], _, [], hW', trodAll_mk1 (shut_bool Try.underlying4 _), (trodAll_cons_mk (shut_int Try.underlying3 w0) (trodAll_cons_mk (shut_int Try.underlying5 w1) trodAll_mk0)), rfl, bel.frame _, fun h => by cases h⟩

theorem over : Rows.shedFullRow.holds Try.pinned (OpenSpec.ofChange Rows.shedFullSpec) :=
  OpenClaim.holds_of_wide 7 Try.f7 rfl rfl rfl rfl rfl rfl rfl ⟨rfl, rfl, rfl, rfl, rfl⟩ rfl rfl rfl rfl rfl (by kernel_rfl) Try.func7 (by kernel_rfl)
    (of_decide_eq_true (by kernel_rfl)) (by unfold Func.isWrapper; first | (rw [if_pos (by decide +kernel)]; kernel_rfl) | (rw [if_neg (by decide +kernel)]; exact ⟨rfl, rfl⟩))
    (fun os started H enc _ => lifted os started H enc)

end Go.Proofs.Ythfmgdhhjnngaaa.LShedFull

namespace Go.Proofs.Ythfmgdhhjnngaaa
theorem shedFull_holds : Rows.ShedFullSaid := LShedFull.over
#print axioms shedFull_holds
end Go.Proofs.Ythfmgdhhjnngaaa
