/- The statement SenderThere: a flight that is acked as there isn't sent, and is again, when an ack says that it isn't. -/
import Derived.Test.YteacdckfnmjojaaDoorSnAlive
import Derived.Test.YteacdckfnmjojaaDoorLinkArg
import Derived.Test.YteacdckfnmjojaaDoorFrmLaid
namespace Go.Proofs.YteacdckfnmjojaaDoor
open Go.ChangeShapes Go.WideShapes Go.ChangeAt Go.RowKit Go.Joins
open Bt

namespace LSenderThere

theorem bit_zero_all : ∀ m : Nat, m < 256 → ∀ t : Nat, t < 4 → (bits .and .u8 ((m : Int) / 2 ^ t) 1 == 0) = decide (m / 2 ^ t % 2 = 0) := by decide +kernel

theorem bit_zero (m : Nat) (hm : m ≤ 255) (t : Nat) (ht : t < 4) : (bits .and .u8 ((m : Int) / 2 ^ t) 1 == 0) = decide (m / 2 ^ t % 2 = 0) := bit_zero_all m (by omega) t ht

theorem walk_nil (tx k n s wt ms : Int) (m : Int) (w : World) (hW : Wid w) (h : (mayL k n s wt ms && isTx tx) = false) :
    Calls Tryd.prog 8 #[.int .i64 tx, Lk k n s wt ms, .int .u8 m] w fun e w' => e = .returned (.bool true) ∧ Below w.heap.size w w' := by
  have NO := Hid.intro (fun w hw => nnew_no tx k n s wt ms h w hw)
  have B0 := Hid.intro ((Below.refl _ w).alloc (Nat.le_refl _) (.cells #[.int .i64 k, .int .i64 n, .int .i64 s, .int .i64 wt, .int .i64 ms] 25))
  have b0 := Hid.intro (heap_alloc_new w (.cells #[.int .i64 k, .int .i64 n, .int .i64 s, .int .i64 wt, .int .i64 ms] 25))
  have W0 := Hid.intro (hW.below B0.out)
  clear h hW
  go_enter Tryd.func8, Tryd.ntmps8
  go_wp2_with fail
  refine (alive_any _ W0.out).mono ?_
  rintro e w1 ⟨rfl, B1⟩
  have W1 := Hid.intro (W0.out.below B1)
  have b1 := (B1.block _ (lt_of_heap b0.out)).trans b0.out
  have B1H := Hid.intro (B0.out.trans (B1.mono B0.out.size))
  obtain ⟨c0, c1, c2, c3, c4⟩ := lk_cells b1
  clear b1 B1 B0 W0 b0
  go_wp2_with fail
  refine (NO.out w1 W1.out).mono ?_
  rintro e w2 ⟨rfl, B2⟩
  have B2H := Hid.intro (B1H.out.trans (B2.mono B1H.out.size))
  clear B2 B1H NO c0 c1 c2 c3 c4
  go_wp2
  go_ret
  exact ⟨rfl, B2H.out⟩

set_option maxRecDepth 100000 in
set_option maxHeartbeats 2000000 in
theorem walk_near (tx K N S wt ms m : Nat) (hm : m ≤ 255) (w : World) (hW : Wid w) (h : (mayL K N S wt ms && isTx tx) = true) :
    Calls Tryd.prog 8 #[.int .i64 (tx : Int), Lk K N S wt ms, .int .u8 (m : Int)] w fun e w' => e = .returned (.bool true) ∧ Below w.heap.size w w' := by
  have NW := Hid.intro (fun w hw => nnew_yes tx K N S wt ms h w hw)
  rw [Bool.and_eq_true] at h
  obtain ⟨hmay, htx⟩ := h
  have ht := isTx_true htx
  obtain ⟨h1, h2, h3, h4, h5⟩ := mayL_true hmay
  have h6 := mayC_true h1
  obtain ⟨q, hq⟩ : ∃ q, q = K * S := ⟨_, rfl⟩
  have hq1 : (K : Int) * (S : Int) = (q : Int) := by rw [hq]; simp
  have hq2 : q ≤ 144 := by rw [hq]; exact Nat.mul_le_mul (show K ≤ 6 by omega) (show S ≤ 24 by omega)
  have HQ := Hid.intro hq
  have mk := make_bytes q (by omega)
  have B0 := Hid.intro ((Below.refl _ w).alloc (Nat.le_refl _) (.cells #[.int .i64 (K : Int), .int .i64 (N : Int), .int .i64 (S : Int), .int .i64 (wt : Int), .int .i64 (ms : Int)] 25))
  have b0 := Hid.intro (heap_alloc_new w (.cells #[.int .i64 (K : Int), .int .i64 (N : Int), .int .i64 (S : Int), .int .i64 (wt : Int), .int .i64 (ms : Int)] 25))
  have W0 := Hid.intro (hW.below B0.out)
  clear hW hmay htx h1 hq
  go_enter Tryd.func8, Tryd.ntmps8
  go_wp2_with fail
  refine (alive_any _ W0.out).mono ?_
  rintro e w1 ⟨rfl, B1⟩
  have b1 := (B1.block _ (lt_of_heap b0.out)).trans b0.out
  have B1H := Hid.intro (B0.out.trans (B1.mono B0.out.size))
  have W1 := Hid.intro (W0.out.below B1)
  have b1H := Hid.intro b1
  obtain ⟨c0, c1, c2, c3, c4⟩ := lk_cells b1
  clear b1 B1 B0 W0 b0
  go_wp2_with fail
  refine (NW.out w1 W1.out).mono ?_
  rintro e w2 ⟨b, F, rfl, hS, hF, B2⟩
  have BA := (Below.refl _ w2).alloc (Nat.le_refl _) (.cells (madeCells #[.int .u8 0] q) 5 (0, 0))
  have L1 := ((sl_new hS hF B2).grow BA).less (G := fun k => k < w1.heap.size ∨ k = w2.heap.size) (fun k hk => by
    rcases hk with q | q
    · exact .inl q
    · subst q; exact .inr ⟨Nat.le_refl _, by simp⟩)
  have R1 := zeros_made q w2
  obtain ⟨d0, d1, d2, d3, d4⟩ := lk_cells ((B2.block _ (lt_of_heap b1H.out)).trans b1H.out)
  have BW := Hid.intro ((B2.trans (BA.mono B2.size)))
  have bL := Hid.intro (lt_of_heap b1H.out)
  have RH := Hid.intro R1
  have L1H : Hid (SL (fun k => k < w1.heap.size ∨ k = w2.heap.size) 0 (w2.alloc (.cells (madeCells #[.int .u8 0] q) 5 (0, 0))) (w2.alloc (.cells (madeCells #[.int .u8 0] q) 5 (0, 0))) b (sndP tx K N S wt ms (encL K N S (List.replicate q 0)) 0)) := L1
  have PF := Hid.intro (fun i (hi : i < 4) => push_few (tx := tx) (K := K) (N := N) (S := S) (wait := wt) (most := ms) (bs := List.replicate q 0) (i := i) hi (by rw [List.length_replicate]; exact HQ.out))
  generalize encL K N S (List.replicate q 0) = R at L1H PF
  clear hS hF B2 BA L1 R1 NW c0 c1 c2 c3 c4
  go_wp2_with fail
  clear mk d0 d1 d2 d3 d4 hq1
  generalize w2.alloc (.cells (madeCells #[.int .u8 0] q) 5 (0, 0)) = w3 at L1H RH BW ⊢
  go_loopw [9, 10] (fun v i wr => ∃ t : Nat, t ≤ 4 ∧ i = .int .i64 t ∧ v = .int .i64 (zeros m t : Int) ∧ SL (fun k => k < w1.heap.size ∨ k = w2.heap.size) 0 w3 wr b (sndP tx K N S wt ms R t)) (fun _ i _ => 4 - (intOf i).toNat)
  case atStart => exact ⟨0, by omega, rfl, rfl, L1H.out⟩
  case round =>
    clear L1H
    obtain ⟨t, ht4, rfl, rfl, LX⟩ := hrel
    have zl := zeros_le m t
    by_cases hlt : t < 4
    · have t1 : (t : Int) < 4 := by omega
      have PU := slpush (some ⟨w2.heap.size, 0, none⟩) q (List.replicate q 0) (byt_zeros q) ⟨(fun q => by cases q), by simp⟩ (by decide) LX (LX.reads RH.out (fun ad ha => by cases ha; exact .inr rfl)) (fun _ ad ha => by cases ha; exact .inr rfl)
      have pe := PF.out t hlt
      rw [pe.1, pe.2, List.length_replicate] at PU
      have PUH := Hid.intro PU
      have ZS := Hid.intro (show zeros m (t + 1) = zeros m t + (if m / 2 ^ t % 2 = 0 then 1 else 0) from rfl)
      have hbt := bit_zero m hm t hlt
      obtain ⟨z1, hz1⟩ : ∃ z1, z1 = zeros m (t + 1) := ⟨_, rfl⟩
      rw [← hz1] at ZS
      have HZ1 := Hid.intro hz1
      generalize zeros m t = z0 at ZS zl ⊢
      clear PU pe LX hz1
      go_wp2_with fail
      refine PUH.out.mono ?_
      rintro e w4 ⟨rfl, L4⟩
      have L4H := Hid.intro L4
      clear L4 PUH
      by_cases hz : m / 2 ^ t % 2 = 0
      · rw [if_pos hz] at ZS
        rw [decide_eq_true hz] at hbt
        clear hz
        go_wp2
        go_roundw
        case rel => exact ⟨t + 1, by omega, by go_num, by rw [← HZ1.out, ZS.out]; go_num, L4H.out⟩
        case measure => simp [intOf]; omega
      · rw [if_neg hz] at ZS
        rw [decide_eq_false hz] at hbt
        clear hz
        go_wp2
        go_roundw
        case rel => exact ⟨t + 1, by omega, by go_num, by rw [← HZ1.out, ZS.out]; rfl, L4H.out⟩
        case measure => simp [intOf]; omega
    · obtain rfl : t = 4 := by omega
      have t1 : ¬ ((4 : Nat) : Int) < 4 := by decide
      have BH := (Below.refl _ wr).alloc (Nat.le_refl _) (.cells #[.int .u8 0, .int .u8 (m : Int)] 5 (0, 0))
      have WR : Wid wr := by
        obtain ⟨ty, fr, q0⟩ := W1.out
        have q1 := lt_of_heap q0
        exact ⟨ty, fr, (LX.block (.inl q1)).trans ((BW.out.block 0 q1).trans q0)⟩
      have L7 := LX.here.grow BH
      have R7 : Reads (wr.alloc (.cells #[.int .u8 0, .int .u8 (m : Int)] 5 (0, 0))) (some ⟨wr.heap.size, 0, none⟩) [0, m] := pair_made 0 m wr
      have HE := slhear ⟨tx, 0, 0, 0, 1, [0, m]⟩ (some ⟨wr.heap.size, 0, none⟩) 2 (byt_pair (by decide) (by omega)) (by decide) L7 (WR.below BH) R7 (fun _ ad ha => by cases ha; exact .inr ⟨Nat.le_refl _, by simp⟩)
      obtain ⟨ha, hc⟩ := hear_ack (x := sndP tx K N S wt ms R 4) (tx := tx) rfl (by omega) 0 m
      rw [ha, hc] at HE
      have HEH := Hid.intro HE
      have BZ := Hid.intro (BW.out.trans ((LX.out (B := w1.heap.size) BW.out.size (fun k hk => .inl hk)).trans (BH.mono (Nat.le_trans BW.out.size LX.chg.size))))
      have hz4 := Hid.intro (tick_there (tx := tx) (K := K) (N := N) (S := S) (wait := wt) (most := ms) (R := R) (by omega) m)
      have hz5 := Hid.intro (tick_again (tx := tx) (K := K) (N := N) (S := S) (wait := wt) (most := ms) (R := R) (by omega) (by omega) m)
      have hN : N ≤ 10 := by omega
      generalize zeros m 4 = z at zl hz4 hz5 ⊢
      obtain ⟨p1, hp1⟩ : ∃ p1, p1 = z * N := ⟨_, rfl⟩
      obtain ⟨y, hy⟩ : ∃ y, y = 4 - z := ⟨_, rfl⟩
      obtain ⟨p2, hp2⟩ : ∃ p2, p2 = y * N := ⟨_, rfl⟩
      rw [← hp1] at hz4
      rw [← hy, ← hp2] at hz5
      have e1 : (z : Int) * (N : Int) = (p1 : Int) := by rw [hp1]; simp
      have e2 : (y : Int) * (N : Int) = (p2 : Int) := by rw [hp2]; simp
      have e3 : (4 : Int) - (z : Int) = (y : Int) := by omega
      have b1 : p1 ≤ 40 := by rw [hp1]; exact Nat.mul_le_mul zl hN
      have b2 : p2 ≤ 40 := by rw [hp2]; exact Nat.mul_le_mul (show y ≤ 4 by omega) hN
      clear HE ha hc LX BH L7 R7 WR hp1 hy hp2
      go_wp2_with fail
      refine HEH.out.mono ?_
      rintro e w8 ⟨rfl, L8⟩
      have BW8 := Hid.intro (BZ.out.trans (L8.out (B := w1.heap.size) BZ.out.size (fun k hk => .inl (.inl hk))))
      have L8' := (L8.less (G := fun k => k < w1.heap.size) (fun k hk => .inl (.inl hk))).here
      have TK := Hid.intro (sltick 0 (by decide) (by decide) L8')
      clear L8 L8' HEH
      go_wp2_with fail
      refine TK.out.mono ?_
      rintro e w9 ⟨v9, G9, rfl, _, f9, _, L9⟩
      obtain ⟨a9, c9, e9⟩ := f9.len
      rw [hz4.out] at e9
      subst e9
      have BW9 := Hid.intro (BW8.out.trans (L9.out (B := w1.heap.size) BW8.out.size (fun k hk => hk)))
      have BH2 := (Below.refl _ w9).alloc (Nat.le_refl _) (.cells #[.int .u8 0, .int .u8 0] 5 (0, 0))
      have W9 : Wid w9 := by
        obtain ⟨ty, fr, q0⟩ := W1.out
        exact ⟨ty, fr, (BW9.out.block 0 (lt_of_heap q0)).trans q0⟩
      have L10 := L9.here.grow BH2
      have R10 : Reads (w9.alloc (.cells #[.int .u8 0, .int .u8 0] 5 (0, 0))) (some ⟨w9.heap.size, 0, none⟩) [0, 0] := pair_made 0 0 w9
      have HE2 := slhear ⟨tx, 0, 0, 0, 1, [0, 0]⟩ (some ⟨w9.heap.size, 0, none⟩) 2 (byt_pair (by decide) (by decide)) (by decide) L10 (W9.below BH2) R10 (fun _ ad ha => by cases ha; exact .inr ⟨Nat.le_refl _, by simp⟩)
      obtain ⟨ha, hc⟩ := hear_ack (x := tickC (ackC (sndP tx K N S wt ms R 4) 0 m) 0) (tx := tx) rfl (by omega) 0 0
      rw [ha, hc] at HE2
      have HE2H := Hid.intro HE2
      have BZ2 := Hid.intro (BW9.out.trans (BH2.mono BW9.out.size))
      clear HE2 ha hc L9 BH2 L10 R10 W9 f9 TK
      go_wp2_with fail
      refine HE2H.out.mono ?_
      rintro e w11 ⟨rfl, L11⟩
      have BW11 := Hid.intro (BZ2.out.trans (L11.out (B := w1.heap.size) BZ2.out.size (fun k hk => .inl hk)))
      have TK2 := Hid.intro (sltick 0 (by decide) (by decide) L11.here)
      clear L11 HE2H
      go_wp2_with fail
      refine TK2.out.mono ?_
      rintro e w12 ⟨v12, G12, rfl, _, f12, _, L12⟩
      obtain ⟨a12, c12, e12⟩ := f12.len
      rw [hz5.out] at e12
      subst e12
      have BW12 := Hid.intro (BW11.out.trans (L12.out (B := w1.heap.size) BW11.out.size (fun k hk => .inl hk)))
      have x1 := (BW12.out.block _ (lt_of_heap b1H.out)).trans b1H.out
      obtain ⟨_, c1, _, _, _⟩ := lk_cells x1
      clear f12 L12 TK2 x1
      go_wp2
      go_ret
      exact ⟨rfl, B1H.out.trans (BW12.out.mono B1H.out.size)⟩

theorem walk (tx k n s wt ms m : Int) (w : World) (_ : (Lit.int .i64 tx).wf = true) (_ : (Lit.int .i64 k).wf = true ∧ (Lit.int .i64 n).wf = true ∧ (Lit.int .i64 s).wf = true ∧ (Lit.int .i64 wt).wf = true ∧ (Lit.int .i64 ms).wf = true) (hm : (Lit.int .u8 m).wf = true) (hW : Wid w) :
    Calls Tryd.prog 8 #[.int .i64 tx, Lk k n s wt ms, .int .u8 m] w fun e w' => e = .returned (.bool true) ∧ Below w.heap.size w w' := by
  rcases hn : (mayL k n s wt ms && isTx tx) with _ | _
  · exact walk_nil tx k n s wt ms m w hW hn
  · have h' := hn
    rw [Bool.and_eq_true] at h'
    obtain ⟨h1, h2, h3, h4, h5⟩ := mayL_true h'.1
    have h6 := mayC_true h1
    have h7 := isTx_true h'.2
    have h8 := bounds_u8 hm
    obtain ⟨T, rfl⟩ := Int.eq_ofNat_of_zero_le h7.1
    obtain ⟨K, rfl⟩ := Int.eq_ofNat_of_zero_le (show 0 ≤ k by omega)
    obtain ⟨N, rfl⟩ := Int.eq_ofNat_of_zero_le (show 0 ≤ n by omega)
    obtain ⟨S, rfl⟩ := Int.eq_ofNat_of_zero_le (show 0 ≤ s by omega)
    obtain ⟨A, rfl⟩ := Int.eq_ofNat_of_zero_le (show 0 ≤ wt by omega)
    obtain ⟨B, rfl⟩ := Int.eq_ofNat_of_zero_le (show 0 ≤ ms by omega)
    obtain ⟨C, rfl⟩ := Int.eq_ofNat_of_zero_le h8.1
    exact walk_near T K N S A B C (by omega) w hW hn

set_option maxRecDepth 100000 in
theorem lifted (os : Os) (started : os.Started) (H : Type) (enc : TypeId × Value → H) :
    ReturnsInHanded {} Tryd.checked os 8 .any (fun w args => (Rows.senderThereSpec.pre enc Tryd.prog Tryd.f8 [] false w args ∧ laidMetH Tryd.prog LW w) ∧ sizedMet enc Tryd.prog Tryd.f8 (OpenSpec.ofChange Rows.senderThereSpec) false w args) (Rows.senderThereSpec.post enc Tryd.prog Tryd.f8 false true false false) := by
  refine returnsInHanded_of_change_and (C := Tryd.checked) (X := fun w _ => laidMetH Tryd.prog LW w) (fun _ _ _ hh h => h.of_heap hh) own started (by kernel_rfl) Tryd.func8
    (ChangeSpec.witness_shaped (enc := enc) (C := Tryd.checked) (os := os) (X := fun w _ => laidMetH Tryd.prog LW w) false (World.doorLaid Tryd.prog 400 os) #[.int .i64 0, .agg #[.int .i64 0, .int .i64 0, .int .i64 0, .int .i64 0, .int .i64 0], .int .u8 0] 8 rfl (World.shaped_of_RefB (by kernel_rfl) (by kernel_rfl)) (by kernel_rfl) (by kernel_rfl) (by kernel_rfl) (door_met os _)) ?_
  intro W base args ds gs before hval0 hW _ _ hL _
  have hval : ∀ (j : Nat) t v, Tryd.f8.params[j]? = some t → args[j]? = some v → Value.okWide Tryd.prog W .any base t v := hval0
  have hW' := hW
  obtain ⟨p, q, hA0, hV, rfl, hfz, hnd⟩ := hW
  have hA : DataW.TrodAll enc Tryd.prog W 0 (fun _ => true) true Tryd.f8.params.toList args.toList ds p := hA0
  rw [Tryd.params8] at hA hval
  obtain ⟨v0, vs0, d0, ds0, p0, q0, hargs, rfl, rfl, h0, r0⟩ := trodAll_cons hA
  obtain ⟨v1, vs1, d1, ds1, p1, q1, rfl, rfl, rfl, h1, r1⟩ := trodAll_cons r0
  obtain ⟨v2, vs2, d2, ds2, p2, q2, rfl, rfl, rfl, h2, r2⟩ := trodAll_cons r1
  obtain ⟨rfl, rfl, rfl⟩ := trodAll_nil r2
  obtain rfl : args = #[v0, v1, v2] := by cases args; simp_all
  obtain ⟨rfl, rfl⟩ := trodVars_none hV
  obtain ⟨a0, rfl, rfl, rfl, w0⟩ := open_int Tryd.underlying3 (hval 0 3 v0 rfl rfl) h0
  have k1 := h1
  have lt1 : ∀ x ∈ p1, x.block < W.heap.size := by obtain ⟨m, hm⟩ := k1; exact DataW.trod_lt m _ _ _ hm
  obtain ⟨kc1, nc1, sc1, wc1, mc1, rfl, w1⟩ := open_link (hval 1 25 v1 rfl rfl) h1
  obtain ⟨a2, rfl, rfl, rfl, w2⟩ := open_int Tryd.underlying5 (hval 2 5 v2 rfl rfl) h2
  clear hA0 hval0
  refine (walk a0 kc1 nc1 sc1 wc1 mc1 a2 W w0 w1 w2 (laid_fact hL)).mono fun e W' ⟨he, bel⟩ => ?_
  subst he
  exact ⟨_, rfl, _, _, _, [], _, [], hW', trodAll_mk1 (shut_bool Tryd.underlying4 _), (trodAll_cons_mk (shut_int Tryd.underlying3 w0) (trodAll_cons_mk (Below.trod laidOut (by kernel_rfl) (of_decide_eq_true (by kernel_rfl)) k1 bel lt1) (trodAll_cons_mk (shut_int Tryd.underlying5 w2) trodAll_mk0))), rfl, bel.frame _, fun h => by cases h⟩

theorem over : Rows.senderThereRow.holds Tryd.pinned (OpenSpec.ofChange Rows.senderThereSpec) :=
  OpenClaim.holds_of_wide 8 Tryd.f8 rfl rfl rfl rfl rfl rfl rfl ⟨rfl, rfl, rfl, rfl, rfl⟩ rfl rfl rfl rfl rfl (by kernel_rfl) Tryd.func8 (by kernel_rfl)
    (of_decide_eq_true (by kernel_rfl)) (by unfold Func.isWrapper; first | (rw [if_pos (by decide +kernel)]; kernel_rfl) | (rw [if_neg (by decide +kernel)]; exact ⟨rfl, rfl⟩))
    (fun os started H enc _ => lifted os started H enc)

end Go.Proofs.YteacdckfnmjojaaDoor.LSenderThere

namespace Go.Proofs.YteacdckfnmjojaaDoor
theorem senderThere_holds : Rows.SenderThereCardSaid :=
  Claim7.holds_tied_plain_at .later [] [.data] true (true, "9b5cfb4e48c1552a5b4377346394cfbd12191835c5e1507131bd829a00487da3") false
    LSenderThere.over (fun _ h => by cases h) (by kernel_rfl) (fun _ h => by cases h) senderThere_row_tie rfl ⟨rfl, rfl⟩ (by kernel_rfl) rfl
    (fun f fn hf hfn => by
      obtain rfl : f = 8 := Option.some.inj ((show Tryd.prog.funcNamed "gurney/gurneylaw08.SenderThere" = some 8 by kernel_rfl).symm.trans hf) |>.symm
      obtain rfl : fn = Tryd.f8 := (Option.some.inj (Tryd.func8.symm.trans hfn)).symm
      exact ⟨by kernel_rfl, fun j t ht => by
        rw [Tryd.params8] at ht
        have hm : t ∈ [3, 25, 5] := by simpa using Array.mem_of_getElem? ht
        have hall : ([3, 25, 5].all fun u => !Tryd.prog.wantsStandIn u) = true := by kernel_rfl
        exact (show Tryd.prog.wantsStandIn t = false by simpa using List.all_eq_true.1 hall t hm)⟩)
    (by kernel_rfl)
#print axioms senderThere_holds
end Go.Proofs.YteacdckfnmjojaaDoor
