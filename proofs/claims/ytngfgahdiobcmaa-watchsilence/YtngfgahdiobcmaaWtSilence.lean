/- The statement WatchSilence: a bed that isn't heard at any tick of as many as it may be silent is lost behind the next look, and one that is heard in time never is. -/
import Derived.Test.YtngfgahdiobcmaaWtAlive
import Derived.Test.YtngfgahdiobcmaaWtOne
import Derived.Test.YtngfgahdiobcmaaWtRng
import Derived.Test.YtngfgahdiobcmaaArgs
import Derived.Test.YtngfgahdiobcmaaBoolsArg
namespace Go.Proofs.Ytngfgahdiobcmaa
open Go.ChangeShapes Go.WideShapes Go.ChangeAt Go.RowKit
open Bt

namespace LWatchSilence

/-- The bed behind so many ticks since it was heard. -/
def sL (m : Int) (n s : Nat) : List Wb := [⟨3, m, (n : Int) - (s : Int), decide (m < (s : Int))⟩]

theorem sl_look (m : Int) (n s : Nat) : lookWt (sL m n s) ((n : Int) + 1) = sL m (n + 1) (s + 1) := by
  unfold sL
  rw [o1_look]
  have e : (decide (m < (s : Int)) || decide ((n : Int) - (s : Int) + m < (n : Int) + 1)) = decide (m < ((s + 1 : Nat) : Int)) := by
    by_cases q : m < ((s + 1 : Nat) : Int)
    · rw [decide_eq_true q, decide_eq_true (show (n : Int) - (s : Int) + m < (n : Int) + 1 by omega), Bool.or_true]
    · rw [decide_eq_false q, decide_eq_false (show ¬ (n : Int) - (s : Int) + m < (n : Int) + 1 by omega), decide_eq_false (show ¬ m < (s : Int) by omega)]
      rfl
  rw [e]
  congr 2
  omega

theorem sl_told (m : Int) (n s : Nat) : lookWl (sL m n s) ((n : Int) + 1) = if (s : Int) = m then [3] else [] := by
  unfold sL
  rw [o1_told]
  by_cases q : (s : Int) = m
  · rw [if_pos q, if_pos ⟨decide_eq_false (by omega), by omega⟩]
  · rw [if_neg q, if_neg]
    rintro ⟨q1, q2⟩
    rw [decide_eq_false_iff_not] at q1
    omega

theorem sl_lost (m : Int) (n s : Nat) : lostWb (sL m n s) 3 = decide (m < (s : Int)) := o1_lost _ _ _ _

theorem sl_heard (m : Int) (n s : Nat) (hm : 1 ≤ m) : heardWt (sL m (n + 1) s) 3 ((n : Int) + 1) = sL m (n + 1) 0 := by
  unfold sL
  rw [o1_heard, decide_eq_false (by omega)]
  simp

set_option maxRecDepth 100000 in
set_option maxHeartbeats 4000000 in
theorem walk_nat (most : Int) (N : Nat) (hN : N < 65536) (a : Option Addr) (cap : Nat) (l : List Bool) (hmx : l.length ≤ maxLen) (w : World) (hz : BoolsAt w a l) :
    Calls Try.prog 4 #[.int .i64 most, .int .u16 (N : Int), .slice a l.length cap] w fun e w' => e = .returned (.bool true) ∧ Below w.heap.size w w' := by
  have AL := Hid.intro (alive15_any w)
  have HZ := Hid.intro hz
  obtain ⟨len, hlen⟩ : ∃ len, len = l.length := ⟨_, rfl⟩
  have HL := Hid.intro hlen
  rw [← hlen] at hmx ⊢
  unfold maxLen at hmx
  clear hz hlen
  go_enter Try.func4, Try.ntmps4
  go_wp2_with fail
  refine AL.out.mono ?_
  rintro e w1 ⟨rfl, B1⟩
  have BH := Hid.intro B1
  clear AL B1
  by_cases h300 : 300 < len
  · have h300' : (300 : Int) < (len : Int) := by omega
    go_wp2
    go_ret
    exact ⟨rfl, BH.out⟩
  have h300' : ¬ (300 : Int) < (len : Int) := by omega
  by_cases hm1 : most < 1
  · go_wp2
    go_ret
    exact ⟨rfl, BH.out⟩
  by_cases hm2 : 1000 < most
  · go_wp2
    go_ret
    exact ⟨rfl, BH.out⟩
  obtain ⟨m, rfl⟩ := Int.eq_ofNat_of_zero_le (show 0 ≤ most by omega)
  have hmm : mostWb (m : Int) = true := by simp [mostWb]; omega
  have hm1' : 1 ≤ m := by omega
  have hm2' : m ≤ 1000 := by omega
  go_wp2_with fail
  refine (wnew_any w1).mono ?_
  rintro e w2 ⟨b, T, rfl, hS, hF, B2⟩
  have P1 := tadd 3 (m : Int) N (tw_small (by omega) (by omega)) (one_new (P := WS b []) hS hF B2)
  rw [(o1_add (N : Int) hmm).1, (o1_add (N : Int) hmm).2] at P1
  have e0 : ([⟨3, (m : Int), (N : Int), false⟩] : List Wb) = sL m N 0 := by
    unfold sL
    rw [decide_eq_false (by omega)]
    simp
  rw [e0] at P1
  have PH := Hid.intro P1
  clear hS hF B2 P1 e0 hmm
  go_wp2_with fail
  refine PH.out.mono ?_
  rintro e w3 ⟨rfl, L3⟩
  have L3H := Hid.intro L3
  clear PH L3
  go_wp2_with fail
  go_loopw [8, 9, 10] (fun nv sv iv ws => ∃ t s : Nat, t ≤ len ∧ s ≤ t ∧ nv = .int .i64 ((N + t : Nat) : Int) ∧ sv = .int .i64 s ∧ iv = .int .i64 t ∧ One (WS b (sL m (N + t) s)) (fun k => k < w1.heap.size) w1 ws) (fun _ _ iv _ => len - (intOf iv).toNat)
  case atStart => exact ⟨0, 0, by omega, by omega, rfl, rfl, rfl, L3H.out⟩
  case round =>
    clear L3H
    obtain ⟨t, s, ht, hs, rfl, rfl, rfl, hL⟩ := hrel
    have LH := Hid.intro hL
    clear hL
    by_cases hlt : t < len
    · have hlt' : t < l.length := by rw [← HL.out]; exact hlt
      obtain ⟨pb, off, ea, hcell⟩ := HZ.out (by omega)
      subst ea
      have v0 := hcell t hlt'
      have VC : Hid (∀ W x, One (WS b x) (fun k => k < w1.heap.size) w1 W → W.cell? ⟨pb, off + t, none⟩ = some (.bool l[t])) := fun W x h => h.cell ((BH.out.cell (cell_lt v0)).trans v0) (by have q : pb < w.heap.size := cell_lt v0; have := BH.out.size; show pb < w1.heap.size; omega)
      have t0 : (0 : Int) ≤ (t : Int) := by omega
      have t1 : (t : Int) < (len : Int) := by omega
      have nn : N + t < 70000 := by omega
      have ss : s < 300 := by omega
      have tm : timeWb (((N + t : Nat) : Int) + 1) := tw_small (by omega) (by omega)
      have P1 := tlook (((N + t : Nat) : Int) + 1) tm LH.out
      rw [sl_look, sl_told] at P1
      have TM := Hid.intro tm
      have LEN : Hid (N + t + 1 = N + (t + 1)) := by rw [Hid]; omega
      generalize l[t] = hb at *
      clear hcell v0 tm
      generalize hn : N + t = n at *
      clear hn
      rcases Nat.lt_trichotomy s m with q | q | q
      · rw [if_neg (by omega)] at P1
        have PH := Hid.intro P1
        have k1 : ¬ (m : Int) ≤ (s : Int) := by omega
        clear P1 q
        go_wp2_with fail
        refine PH.out.mono ?_
        rintro e w4 ⟨v4, rfl, n4, L4, _⟩
        obtain ⟨a4, c4, rfl⟩ := n4.len
        simp only [List.length_nil]
        have P2 := tlost 3 L4
        rw [sl_lost, decide_eq_false (by omega)] at P2
        have P2H := Hid.intro P2
        clear P2 L4 n4 PH LH
        go_wp2_with fail
        refine P2H.out.mono ?_
        rintro e w5 ⟨rfl, L5⟩
        have v5 := VC.out w5 _ L5
        have P3 := theard 3 ((n : Int) + 1) TM.out L5
        rw [sl_lost, sl_heard _ _ _ (by omega), decide_eq_false (by omega)] at P3
        have P3H := Hid.intro P3
        have L5H := Hid.intro L5
        clear P2H L5 P3
        cases hb with
        | true =>
          clear L5H
          go_wp2_with fail
          refine P3H.out.mono ?_
          rintro e w6 ⟨rfl, L6⟩
          have L6H := Hid.intro L6
          clear L6 P3H v5
          go_wp2
          go_roundw
          case rel => exact ⟨t + 1, 0, by omega, by omega, by rw [← LEN.out]; rfl, rfl, by go_num, by rw [← LEN.out]; exact L6H.out⟩
          case measure => simp [intOf]; omega
        | false =>
          clear P3H
          go_wp2
          go_roundw
          case rel => exact ⟨t + 1, s + 1, by omega, by omega, by rw [← LEN.out]; rfl, by go_num, by go_num, by rw [← LEN.out]; exact L5H.out⟩
          case measure => simp [intOf]; omega
      · rw [if_pos (by omega)] at P1
        have PH := Hid.intro P1
        have k1 : (m : Int) ≤ (s : Int) := by omega
        have k2 : ((s : Int) != (m : Int)) = false := by simp; omega
        clear P1 q
        go_wp2_with fail
        refine PH.out.mono ?_
        rintro e w4 ⟨v4, rfl, n4, L4, _⟩
        obtain ⟨a4, c4, rfl⟩ := n4.len
        simp only [List.length_cons, List.length_nil, Nat.reduceAdd]
        have P2 := tlost 3 L4
        rw [sl_lost, decide_eq_true (by omega)] at P2
        have P2H := Hid.intro P2
        clear P2 L4 n4 PH LH
        go_wp2_with fail
        refine P2H.out.mono ?_
        rintro e w5 ⟨rfl, L5⟩
        have v5 := VC.out w5 _ L5
        have P3 := theard 3 ((n : Int) + 1) TM.out L5
        rw [sl_lost, sl_heard _ _ _ (by omega), decide_eq_true (by omega)] at P3
        have P3H := Hid.intro P3
        have L5H := Hid.intro L5
        clear P2H L5 P3
        cases hb with
        | true =>
          clear L5H
          go_wp2_with fail
          refine P3H.out.mono ?_
          rintro e w6 ⟨rfl, L6⟩
          have L6H := Hid.intro L6
          clear L6 P3H v5
          go_wp2
          go_roundw
          case rel => exact ⟨t + 1, 0, by omega, by omega, by rw [← LEN.out]; rfl, rfl, by go_num, by rw [← LEN.out]; exact L6H.out⟩
          case measure => simp [intOf]; omega
        | false =>
          clear P3H
          go_wp2
          go_roundw
          case rel => exact ⟨t + 1, s + 1, by omega, by omega, by rw [← LEN.out]; rfl, by go_num, by go_num, by rw [← LEN.out]; exact L5H.out⟩
          case measure => simp [intOf]; omega
      · rw [if_neg (by omega)] at P1
        have PH := Hid.intro P1
        have k1 : (m : Int) ≤ (s : Int) := by omega
        clear P1 q
        go_wp2_with fail
        refine PH.out.mono ?_
        rintro e w4 ⟨v4, rfl, n4, L4, _⟩
        obtain ⟨a4, c4, rfl⟩ := n4.len
        simp only [List.length_nil]
        have P2 := tlost 3 L4
        rw [sl_lost, decide_eq_true (by omega)] at P2
        have P2H := Hid.intro P2
        clear P2 L4 n4 PH LH
        go_wp2_with fail
        refine P2H.out.mono ?_
        rintro e w5 ⟨rfl, L5⟩
        have v5 := VC.out w5 _ L5
        have P3 := theard 3 ((n : Int) + 1) TM.out L5
        rw [sl_lost, sl_heard _ _ _ (by omega), decide_eq_true (by omega)] at P3
        have P3H := Hid.intro P3
        have L5H := Hid.intro L5
        clear P2H L5 P3
        cases hb with
        | true =>
          clear L5H
          go_wp2_with fail
          refine P3H.out.mono ?_
          rintro e w6 ⟨rfl, L6⟩
          have L6H := Hid.intro L6
          clear L6 P3H v5
          go_wp2
          go_roundw
          case rel => exact ⟨t + 1, 0, by omega, by omega, by rw [← LEN.out]; rfl, rfl, by go_num, by rw [← LEN.out]; exact L6H.out⟩
          case measure => simp [intOf]; omega
        | false =>
          clear P3H
          go_wp2
          go_roundw
          case rel => exact ⟨t + 1, s + 1, by omega, by omega, by rw [← LEN.out]; rfl, by go_num, by go_num, by rw [← LEN.out]; exact L5H.out⟩
          case measure => simp [intOf]; omega
    · obtain rfl : t = len := by omega
      have t1 : ¬ (t : Int) < (t : Int) := by omega
      have FI := Hid.intro (BH.out.trans ((LH.out.out (Nat.le_refl _)).mono BH.out.size))
      clear LH
      go_wp2
      go_ret
      exact ⟨rfl, FI.out⟩

theorem walk (most n : Int) (a : Option Addr) (len cap : Nat) (l : List Bool) (w : World) (_ : (Lit.int .i64 most).wf = true) (h1 : (Lit.int .u16 n).wf = true) (h2 : l.length = len ∧ BoolsAt w a l ∧ len ≤ maxLen) :
    Calls Try.prog 4 #[.int .i64 most, .int .u16 n, .slice a len cap] w fun e w' => e = .returned (.bool true) ∧ Below w.heap.size w w' := by
  obtain ⟨N, rfl, hN⟩ := u16_nat h1
  obtain ⟨rfl, h3, h4⟩ := h2
  exact walk_nat most N hN a cap l h4 w h3

set_option maxRecDepth 100000 in
theorem lifted (os : Os) (started : os.Started) (H : Type) (enc : TypeId × Value → H) :
    ReturnsInHanded {} Try.checked os 4 .any (Rows.watchSilenceSpec.pre6 enc Try.prog Try.f4 Rows.watchSilenceRow.domain false) (Rows.watchSilenceSpec.post enc Try.prog Try.f4 false true false false) := by
  refine returnsInHanded_of_change (C := Try.checked) own started (by kernel_rfl) Try.func4
    (ChangeSpec.witness6 (enc := enc) (C := Try.checked) false ⟨#[], #[.int .i64 0, .int .u16 0, .slice none 0 0], []⟩ 8 (by kernel_rfl) (by kernel_rfl) (by kernel_rfl) (by kernel_rfl)) ?_
  intro W base args ds gs before hval0 hW hcnd _
  have hval : ∀ (j : Nat) t v, Try.f4.params[j]? = some t → args[j]? = some v → Value.okWide Try.prog W .any base t v := hval0
  have hW' := hW
  obtain ⟨p, q, hA0, hV, rfl, hfz, hnd⟩ := hW
  have hA : DataW.TrodAll enc Try.prog W 0 (fun _ => true) true Try.f4.params.toList args.toList ds p := hA0
  rw [Try.params4] at hA hval
  obtain ⟨v0, vs0, d0, ds0, p0, q0, hargs, rfl, rfl, h0, r0⟩ := trodAll_cons hA
  obtain ⟨v1, vs1, d1, ds1, p1, q1, rfl, rfl, rfl, h1, r1⟩ := trodAll_cons r0
  obtain ⟨v2, vs2, d2, ds2, p2, q2, rfl, rfl, rfl, h2, r2⟩ := trodAll_cons r1
  obtain ⟨rfl, rfl, rfl⟩ := trodAll_nil r2
  obtain rfl : args = #[v0, v1, v2] := by cases args; simp_all
  obtain ⟨rfl, rfl⟩ := trodVars_none hV
  obtain ⟨a0, rfl, rfl, rfl, w0⟩ := open_int Try.underlying3 (hval 0 3 v0 rfl rfl) h0
  obtain ⟨a1, rfl, rfl, rfl, w1⟩ := open_int Try.underlying43 (hval 1 43 v1 rfl rfl) h1
  have k2 := h2
  have lt2 : ∀ x ∈ p2, x.block < W.heap.size := by obtain ⟨m, hm⟩ := k2; exact DataW.trod_lt m _ _ _ hm
  obtain ⟨a2, len2, cap2, rfl⟩ := okWide_slice Try.underlying44 (hval 2 44 v2 rfl rfl)
  obtain ⟨z2, w2⟩ := open_bools h2
  clear hA0 hval0
  refine (walk a0 a1 a2 len2 cap2 z2 W w0 w1 w2).mono fun e W' ⟨he, bel⟩ => ?_
  subst he
  exact ⟨_, rfl, _, _, _, [], _, [], hW', trodAll_mk1 (shut_bool Try.underlying4 _), (trodAll_cons_mk (shut_int Try.underlying3 w0) (trodAll_cons_mk (shut_int Try.underlying43 w1) (trodAll_cons_mk (Below.trod laidOut (by kernel_rfl) (of_decide_eq_true (by kernel_rfl)) k2 bel lt2) trodAll_mk0))), rfl, bel.frame _, fun h => by cases h⟩

theorem over : Rows.watchSilenceRow.holds Try.pinned (OpenSpec.ofChange Rows.watchSilenceSpec) :=
  OpenClaim.holds_of_wide 4 Try.f4 rfl rfl rfl rfl rfl rfl rfl ⟨rfl, rfl, rfl, rfl, rfl⟩ rfl rfl rfl rfl rfl (by kernel_rfl) Try.func4 (by kernel_rfl)
    (of_decide_eq_true (by kernel_rfl)) (by unfold Func.isWrapper; first | (rw [if_pos (by decide +kernel)]; kernel_rfl) | (rw [if_neg (by decide +kernel)]; exact ⟨rfl, rfl⟩))
    (fun os started H enc _ => lifted os started H enc)

end Go.Proofs.Ytngfgahdiobcmaa.LWatchSilence

namespace Go.Proofs.Ytngfgahdiobcmaa
theorem watchSilence_holds : Rows.WatchSilenceSaid := LWatchSilence.over
#print axioms watchSilence_holds
end Go.Proofs.Ytngfgahdiobcmaa
