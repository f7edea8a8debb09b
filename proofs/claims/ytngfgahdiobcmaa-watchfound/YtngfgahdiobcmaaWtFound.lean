/- The statement WatchFound: a bed that is lost is so until it is heard, and is told as that once. -/
import Derived.Test.YtngfgahdiobcmaaWtAlive
import Derived.Test.YtngfgahdiobcmaaWtOne
import Derived.Test.YtngfgahdiobcmaaWtRng
import Derived.Test.YtngfgahdiobcmaaArgs
namespace Go.Proofs.Ytngfgahdiobcmaa
open Go.ChangeShapes Go.WideShapes Go.ChangeAt Go.RowKit
open Bt

namespace LWatchFound

set_option maxRecDepth 100000 in
set_option maxHeartbeats 4000000 in
theorem walk_nat (most : Int) (a : Option Addr) (cap : Nat) (bs : List Nat) (hmx : bs.length ≤ maxLen) (hY : ∀ y ∈ bs, y < 256) (w : World) (hr : Reads w a bs) :
    Calls Try.prog 7 #[.int .i64 most, .slice a bs.length cap] w fun e w' => e = .returned (.bool true) ∧ Below w.heap.size w w' := by
  have AL := Hid.intro (alive15_any w)
  have RD := Hid.intro hr
  have HY := Hid.intro hY
  obtain ⟨len, hlen⟩ : ∃ len, len = bs.length := ⟨_, rfl⟩
  have HL := Hid.intro hlen
  rw [← hlen] at hmx ⊢
  unfold maxLen at hmx
  clear hr hlen hY
  go_enter Try.func7, Try.ntmps7
  go_wp2_with fail
  refine AL.out.mono ?_
  rintro e w1 ⟨rfl, B1⟩
  have BH := Hid.intro B1
  clear AL B1
  by_cases h300 : 60 < len
  · have h300' : (60 : Int) < (len : Int) := by omega
    go_wp2
    go_ret
    exact ⟨rfl, BH.out⟩
  have h300' : ¬ (60 : Int) < (len : Int) := by omega
  by_cases hm1 : most < 1
  · go_wp2
    go_ret
    exact ⟨rfl, BH.out⟩
  by_cases hm2 : 1000 < most
  · go_wp2
    go_ret
    exact ⟨rfl, BH.out⟩
  have hmm : mostWb most = true := by simp [mostWb]; omega
  go_wp2_with fail
  refine (wnew_any w1).mono ?_
  rintro e w2 ⟨b, T, rfl, hS, hF, B2⟩
  have P1 := tadd 4 most 0 (tw_small (by omega) (by omega)) (one_new (P := WS b []) hS hF B2)
  rw [(o1_add 0 hmm).1, (o1_add 0 hmm).2] at P1
  have PH := Hid.intro P1
  clear hS hF B2 P1 hmm
  go_wp2_with fail
  refine PH.out.mono ?_
  rintro e w3 ⟨rfl, L3⟩
  have L3H := Hid.intro L3
  clear PH L3
  go_wp2_with fail
  go_loopw [6, 7] (fun nv iv ws => ∃ (t n : Nat) (last : Int) (x : Bool), t ≤ len ∧ n ≤ 255 * t ∧ nv = .int .i64 n ∧ iv = .int .i64 t ∧ One (WS b [⟨4, most, last, x⟩]) (fun k => k < w1.heap.size) w1 ws) (fun _ iv _ => len - (intOf iv).toNat)
  case atStart => exact ⟨0, 0, 0, false, by omega, by omega, rfl, rfl, L3H.out⟩
  case round =>
    clear L3H
    obtain ⟨t, n, last, x, ht, hn, rfl, rfl, hL⟩ := hrel
    have LH := Hid.intro hL
    clear hL
    by_cases hlt : t < len
    · have hlt' : t < bs.length := by rw [← HL.out]; exact hlt
      obtain ⟨pb, off, ea, hcell⟩ := reads_at RD.out (by omega)
      subst ea
      have v0 := hcell t hlt'
      have hg := HY.out bs[t] (List.getElem_mem hlt')
      have VC : Hid (∀ W x, One (WS b x) (fun k => k < w1.heap.size) w1 W → W.cell? ⟨pb, off + t, none⟩ = some (U bs[t])) := fun W x h => h.cell ((BH.out.cell (cell_lt v0)).trans v0) (by have q : pb < w.heap.size := cell_lt v0; have := BH.out.size; show pb < w1.heap.size; omega)
      have v1 := VC.out wr _ LH.out
      have t0 : (0 : Int) ≤ (t : Int) := by omega
      have t1 : (t : Int) < (len : Int) := by omega
      generalize bs[t] = g at *
      have nn : n ≤ 16000 := by omega
      have tm : timeWb ((n : Int) + (g : Int)) := tw_small (by omega) (by omega)
      have P1 := tlost 4 LH.out
      rw [o1_lost] at P1
      have P1H := Hid.intro P1
      have P2 := fun (w4 : World) (h : One (WS b [⟨4, most, last, x⟩]) (fun k => k < w1.heap.size) w1 w4) => tlook ((n : Int) + (g : Int)) tm h
      simp only [o1_look, o1_told] at P2
      have TM := Hid.intro tm
      clear hcell v0 tm P1 LH
      cases x with
      | true =>
        rw [if_neg (by simp), Bool.true_or] at P2
        have P2H := Hid.intro (fun (w4 : World) h => P2 w4 h)
        clear P2
        go_wp2_with fail
        refine P1H.out.mono ?_
        rintro e w4 ⟨rfl, L4⟩
        have P3H := Hid.intro (P2H.out w4 L4)
        clear P1H L4 P2H
        go_wp2_with fail
        refine P3H.out.mono ?_
        rintro e w5 ⟨v5, rfl, n5, L5, _⟩
        obtain ⟨a5, c5, rfl⟩ := n5.len
        have P4 := tlost 4 L5
        rw [o1_lost] at P4
        have P4H := Hid.intro P4
        clear P3H P4 L5 n5
        simp only [List.length_nil]
        go_wp2_with fail
        refine P4H.out.mono ?_
        rintro e w6 ⟨rfl, L6⟩
        have v6 := VC.out w6 _ L6
        have P5 := theard 4 ((n : Int) + (g : Int)) TM.out L6
        rw [o1_lost, o1_heard] at P5
        have P5H := Hid.intro P5
        have P6 := tlost 4 L6
        rw [o1_lost] at P6
        have P6H := Hid.intro P6
        clear P4H P5 P6 L6
        by_cases pr : g % 2 = 0
        · have r1 : (g : Int).tmod 2 = 0 := by rw [Int.tmod_eq_emod_of_nonneg (by omega)]; omega
          clear pr P6H
          go_wp2_with fail
          refine P5H.out.mono ?_
          rintro e w7 ⟨rfl, L7⟩
          have P7 := tlost 4 L7
          rw [o1_lost] at P7
          have P7H := Hid.intro P7
          clear P5H P7 L7 v6
          go_wp2_with fail
          refine P7H.out.mono ?_
          rintro e w8 ⟨rfl, L8⟩
          have L8H := Hid.intro L8
          clear P7H L8
          go_wp2
          go_roundw
          case rel => exact ⟨t + 1, n + g, _, _, by omega, by omega, by congr 1, by go_num, L8H.out⟩
          case measure => simp [intOf]; omega
        · have r1 : (g : Int).tmod 2 = 1 := by rw [Int.tmod_eq_emod_of_nonneg (by omega)]; omega
          clear pr P5H
          go_wp2_with fail
          refine P6H.out.mono ?_
          rintro e w7 ⟨rfl, L7⟩
          have L7H := Hid.intro L7
          clear P6H L7 v6
          go_wp2
          go_roundw
          case rel => exact ⟨t + 1, n + g, _, _, by omega, by omega, by congr 1, by go_num, L7H.out⟩
          case measure => simp [intOf]; omega
      | false =>
        rw [Bool.false_or] at P2
        generalize hll : (if false = false ∧ last + most < (n : Int) + (g : Int) then [(4 : Int)] else []) = ll at P2
        generalize decide (last + most < (n : Int) + (g : Int)) = y at P2
        clear hll
        have P2H := Hid.intro (fun (w4 : World) h => P2 w4 h)
        clear P2
        go_wp2_with fail
        refine P1H.out.mono ?_
        rintro e w4 ⟨rfl, L4⟩
        have P3H := Hid.intro (P2H.out w4 L4)
        clear P1H L4 P2H
        go_wp2_with fail
        refine P3H.out.mono ?_
        rintro e w5 ⟨v5, rfl, n5, L5, _⟩
        obtain ⟨a5, c5, rfl⟩ := n5.len
        have P4 := tlost 4 L5
        rw [o1_lost] at P4
        have P4H := Hid.intro P4
        clear P3H P4 L5 n5
        generalize ll.length = lln at *
        go_wp2_with fail
        refine P4H.out.mono ?_
        rintro e w6 ⟨rfl, L6⟩
        have v6 := VC.out w6 _ L6
        have P5 := theard 4 ((n : Int) + (g : Int)) TM.out L6
        rw [o1_lost, o1_heard] at P5
        have P5H := Hid.intro P5
        have P6 := tlost 4 L6
        rw [o1_lost] at P6
        have P6H := Hid.intro P6
        clear P4H P5 P6 L6
        by_cases pr : g % 2 = 0
        · have r1 : (g : Int).tmod 2 = 0 := by rw [Int.tmod_eq_emod_of_nonneg (by omega)]; omega
          clear pr P6H
          go_wp2_with fail
          refine P5H.out.mono ?_
          rintro e w7 ⟨rfl, L7⟩
          have P7 := tlost 4 L7
          rw [o1_lost] at P7
          have P7H := Hid.intro P7
          clear P5H P7 L7 v6
          go_wp2_with fail
          refine P7H.out.mono ?_
          rintro e w8 ⟨rfl, L8⟩
          have L8H := Hid.intro L8
          clear P7H L8
          go_wp2
          go_roundw
          case rel => exact ⟨t + 1, n + g, _, _, by omega, by omega, by congr 1, by go_num, L8H.out⟩
          case measure => simp [intOf]; omega
        · have r1 : (g : Int).tmod 2 = 1 := by rw [Int.tmod_eq_emod_of_nonneg (by omega)]; omega
          clear pr P5H
          go_wp2_with fail
          refine P6H.out.mono ?_
          rintro e w7 ⟨rfl, L7⟩
          have L7H := Hid.intro L7
          clear P6H L7 v6
          go_wp2
          go_roundw
          case rel => exact ⟨t + 1, n + g, _, _, by omega, by omega, by congr 1, by go_num, L7H.out⟩
          case measure => simp [intOf]; omega
    · obtain rfl : t = len := by omega
      have t1 : ¬ (t : Int) < (t : Int) := by omega
      have FI := Hid.intro (BH.out.trans ((LH.out.out (Nat.le_refl _)).mono BH.out.size))
      clear LH
      go_wp2
      go_ret
      exact ⟨rfl, FI.out⟩

theorem walk (most : Int) (a : Option Addr) (len cap : Nat) (zs : List Int) (w : World) (_ : (Lit.int .i64 most).wf = true) (hz : IsRow .u8 w a len cap zs) :
    Calls Try.prog 7 #[.int .i64 most, .slice a len cap] w fun e w' => e = .returned (.bool true) ∧ Below w.heap.size w w' := by
  have hmx := hz.len
  obtain ⟨bs, rfl, h1, h2⟩ := hz.bytes
  exact walk_nat most a cap bs hmx h1 w h2

set_option maxRecDepth 100000 in
theorem lifted (os : Os) (started : os.Started) (H : Type) (enc : TypeId × Value → H) :
    ReturnsInHanded {} Try.checked os 7 .any (Rows.watchFoundSpec.pre6 enc Try.prog Try.f7 Rows.watchFoundRow.domain false) (Rows.watchFoundSpec.post enc Try.prog Try.f7 false true false false) := by
  refine returnsInHanded_of_change (C := Try.checked) own started (by kernel_rfl) Try.func7
    (ChangeSpec.witness6 (enc := enc) (C := Try.checked) false ⟨#[], #[.int .i64 0, .slice none 0 0], []⟩ 8 (by kernel_rfl) (by kernel_rfl) (by kernel_rfl) (by kernel_rfl)) ?_
  intro W base args ds gs before hval0 hW hcnd _
  have hval : ∀ (j : Nat) t v, Try.f7.params[j]? = some t → args[j]? = some v → Value.okWide Try.prog W .any base t v := hval0
  have hW' := hW
  obtain ⟨p, q, hA0, hV, rfl, hfz, hnd⟩ := hW
  have hA : DataW.TrodAll enc Try.prog W 0 (fun _ => true) true Try.f7.params.toList args.toList ds p := hA0
  rw [Try.params7] at hA hval
  obtain ⟨v0, vs0, d0, ds0, p0, q0, hargs, rfl, rfl, h0, r0⟩ := trodAll_cons hA
  obtain ⟨v1, vs1, d1, ds1, p1, q1, rfl, rfl, rfl, h1, r1⟩ := trodAll_cons r0
  obtain ⟨rfl, rfl, rfl⟩ := trodAll_nil r1
  obtain rfl : args = #[v0, v1] := by cases args; simp_all
  obtain ⟨rfl, rfl⟩ := trodVars_none hV
  obtain ⟨a0, rfl, rfl, rfl, w0⟩ := open_int Try.underlying3 (hval 0 3 v0 rfl rfl) h0
  obtain ⟨a1, len1, cap1, rfl⟩ := okWide_slice Try.underlying48 (hval 1 48 v1 rfl rfl)
  have k1 := h1
  have lt1 : ∀ x ∈ p1, x.block < W.heap.size := by obtain ⟨m, hm⟩ := k1; exact DataW.trod_lt m _ _ _ hm
  obtain ⟨z1, w1⟩ : ∃ zs, IsRow .u8 W a1 len1 cap1 zs := by
    obtain ⟨fuel, hf⟩ := h1
    rcases open_ints Try.underlying48 Try.underlying5 (by kernel_rfl) hf with ⟨hcs, _⟩ | ⟨x, l, c, zs, hcs, _, hl, hm, hz, _, hcell, hwz⟩
    · simp [Value.cells] at hcs
      obtain ⟨rfl, rfl, rfl⟩ := hcs
      exact ⟨[], .inl ⟨rfl, rfl, rfl, rfl⟩⟩
    · simp [Value.cells] at hcs
      obtain ⟨rfl, rfl, rfl⟩ := hcs
      exact ⟨zs, .inr ⟨_, rfl, hl, hm, by simpa using hz, hcell, hwz⟩⟩
  clear hA0 hval0
  refine (walk a0 a1 len1 cap1 z1 W w0 w1).mono fun e W' ⟨he, bel⟩ => ?_
  subst he
  exact ⟨_, rfl, _, _, _, [], _, [], hW', trodAll_mk1 (shut_bool Try.underlying4 _), (trodAll_cons_mk (shut_int Try.underlying3 w0) (trodAll_cons_mk (Below.trod laidOut (by kernel_rfl) (of_decide_eq_true (by kernel_rfl)) k1 bel lt1) trodAll_mk0)), rfl, bel.frame _, fun h => by cases h⟩

theorem over : Rows.watchFoundRow.holds Try.pinned (OpenSpec.ofChange Rows.watchFoundSpec) :=
  OpenClaim.holds_of_wide 7 Try.f7 rfl rfl rfl rfl rfl rfl rfl ⟨rfl, rfl, rfl, rfl, rfl⟩ rfl rfl rfl rfl rfl (by kernel_rfl) Try.func7 (by kernel_rfl)
    (of_decide_eq_true (by kernel_rfl)) (by unfold Func.isWrapper; first | (rw [if_pos (by decide +kernel)]; kernel_rfl) | (rw [if_neg (by decide +kernel)]; exact ⟨rfl, rfl⟩))
    (fun os started H enc _ => lifted os started H enc)

end Go.Proofs.Ytngfgahdiobcmaa.LWatchFound

namespace Go.Proofs.Ytngfgahdiobcmaa
theorem watchFound_holds : Rows.WatchFoundSaid := LWatchFound.over
#print axioms watchFound_holds
end Go.Proofs.Ytngfgahdiobcmaa
