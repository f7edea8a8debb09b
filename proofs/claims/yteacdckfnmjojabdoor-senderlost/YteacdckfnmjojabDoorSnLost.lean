/- The statement SenderLost: only what was given up is lost: what is behind an ack ahead of that isn't. -/
import Derived.Test.YteacdckfnmjojabDoorSnAlive
import Derived.Test.YteacdckfnmjojabDoorLinkArg
import Derived.Test.YteacdckfnmjojabDoorFrmLaid
namespace Go.Proofs.YteacdckfnmjojabDoor
open Go.ChangeShapes Go.WideShapes Go.ChangeAt Go.RowKit Go.Joins
open Bt

namespace LSenderLost

theorem walk_nil (tx k n s wt ms : Int) (m : Int) (w : World) (hW : Wid w) (h : (mayL k n s wt ms && isTx tx) = false) :
    Calls Tryd.prog 3 #[.int .i64 tx, Lk k n s wt ms, .int .u8 m] w fun e w' => e = .returned (.bool true) ∧ Below w.heap.size w w' := by
  have NO := Hid.intro (fun w hw => nnew_no tx k n s wt ms h w hw)
  have B0 := Hid.intro ((Below.refl _ w).alloc (Nat.le_refl _) (.cells #[.int .i64 k, .int .i64 n, .int .i64 s, .int .i64 wt, .int .i64 ms] 25))
  have b0 := Hid.intro (heap_alloc_new w (.cells #[.int .i64 k, .int .i64 n, .int .i64 s, .int .i64 wt, .int .i64 ms] 25))
  have W0 := Hid.intro (hW.below B0.out)
  clear h hW
  go_enter Tryd.func3, Tryd.ntmps3
  go_wp2_with fail
  refine (alive_any _ W0.out).mono ?_
  rintro e w1 ⟨rfl, B1⟩
  have W1 := Hid.intro (W0.out.below B1)
  have b1 := (B1.block _ (lt_of_heap b0.out)).trans b0.out
  have B1H := Hid.intro (B0.out.trans (B1.mono B0.out.size))
  obtain ⟨c0, c1, c2, c3, c4⟩ := lk_cells b1
  clear b1 B1 B0 W0 b0
  go_wp2_with fail
  refine (NO.out w1 W1.out).mono ?_
  rintro e w2 ⟨rfl, B2⟩
  have B2H := Hid.intro (B1H.out.trans (B2.mono B1H.out.size))
  clear B2 B1H NO c0 c1 c2 c3 c4
  go_wp2
  go_ret
  exact ⟨rfl, B2H.out⟩

set_option maxRecDepth 100000 in
set_option maxHeartbeats 2000000 in
theorem walk_near (tx K N S wt ms m : Nat) (hm : m ≤ 255) (w : World) (hW : Wid w) (h : (mayL K N S wt ms && isTx tx) = true) :
    Calls Tryd.prog 3 #[.int .i64 (tx : Int), Lk K N S wt ms, .int .u8 (m : Int)] w fun e w' => e = .returned (.bool true) ∧ Below w.heap.size w w' := by
  have NW := Hid.intro (fun w hw => nnew_yes tx K N S wt ms h w hw)
  rw [Bool.and_eq_true] at h
  obtain ⟨hmay, htx⟩ := h
  have ht := isTx_true htx
  obtain ⟨h1, h2, h3, h4, h5⟩ := mayL_true hmay
  have h6 := mayC_true h1
  obtain ⟨q, hq⟩ : ∃ q, q = K * S := ⟨_, rfl⟩
  have hq1 : (K : Int) * (S : Int) = (q : Int) := by rw [hq]; simp
  have hq2 : q ≤ 144 := by rw [hq]; exact Nat.mul_le_mul (show K ≤ 6 by omega) (show S ≤ 24 by omega)
  have HQ := Hid.intro hq
  have mk := make_bytes q (by omega)
  have B0 := Hid.intro ((Below.refl _ w).alloc (Nat.le_refl _) (.cells #[.int .i64 (K : Int), .int .i64 (N : Int), .int .i64 (S : Int), .int .i64 (wt : Int), .int .i64 (ms : Int)] 25))
  have b0 := Hid.intro (heap_alloc_new w (.cells #[.int .i64 (K : Int), .int .i64 (N : Int), .int .i64 (S : Int), .int .i64 (wt : Int), .int .i64 (ms : Int)] 25))
  have W0 := Hid.intro (hW.below B0.out)
  clear hW hmay htx h1 hq
  go_enter Tryd.func3, Tryd.ntmps3
  go_wp2_with fail
  refine (alive_any _ W0.out).mono ?_
  rintro e w1 ⟨rfl, B1⟩
  have b1 := (B1.block _ (lt_of_heap b0.out)).trans b0.out
  have B1H := Hid.intro (B0.out.trans (B1.mono B0.out.size))
  have W1 := Hid.intro (W0.out.below B1)
  have b1H := Hid.intro b1
  obtain ⟨c0, c1, c2, c3, c4⟩ := lk_cells b1
  clear b1 B1 B0 W0 b0
  go_wp2_with fail
  refine (NW.out w1 W1.out).mono ?_
  rintro e w2 ⟨b, F, rfl, hS, hF, B2⟩
  have BA := (Below.refl _ w2).alloc (Nat.le_refl _) (.cells (madeCells #[.int .u8 0] q) 5 (0, 0))
  have L1 := (sl_new hS hF B2).grow BA
  have R1 := zeros_made q w2
  have PU := slpush (some ⟨w2.heap.size, 0, none⟩) q (List.replicate q 0) (byt_zeros q) ⟨(fun q => by cases q), by simp⟩ (by decide) L1 R1 (fun _ ad ha => by cases ha; exact .inr ⟨Nat.le_refl _, by simp⟩)
  have pe := push_few (tx := tx) (K := K) (N := N) (S := S) (wait := wt) (most := ms) (bs := List.replicate q 0) (i := 0) (by decide) (by rw [List.length_replicate]; exact HQ.out)
  rw [sndP_zero] at pe
  rw [pe.1, pe.2, List.length_replicate] at PU
  have PUH := Hid.intro PU
  obtain ⟨d0, d1, d2, d3, d4⟩ := lk_cells ((B2.block _ (lt_of_heap b1H.out)).trans b1H.out)
  have BW := Hid.intro ((B2.trans (BA.mono B2.size)))
  clear hS hF B2 BA L1 R1 PU pe NW c0 c1 c2 c3 c4
  go_wp2_with fail
  refine PUH.out.mono ?_
  rintro e w4 ⟨rfl, L4⟩
  have BW4 := Hid.intro (BW.out.trans (L4.out (B := w1.heap.size) BW.out.size (fun k hk => .inl hk)))
  have L4' := (L4.less (G := fun k => k < w1.heap.size) (fun k hk => .inl hk)).here
  generalize encL K N S (List.replicate q 0) = R at L4'
  have L4H : Hid (SL (fun k => k < w1.heap.size) 0 w4 w4 b (sndL tx K N S wt ms R 0)) := L4'
  obtain ⟨e0, e1, e2, e3, e4⟩ := lk_cells ((BW4.out.block _ (lt_of_heap b1H.out)).trans b1H.out)
  obtain ⟨mm, hmm⟩ : ∃ mm, mm = ms + 2 := ⟨_, rfl⟩
  have hms : (ms : Int) + 2 = (mm : Int) := by omega
  have hmm1 : 3 ≤ mm := by omega
  have hmm2 : mm ≤ 11 := by omega
  obtain ⟨kk, hkk⟩ : ∃ kk, kk = m % mm := ⟨_, rfl⟩
  have hk2 : kk ≤ 10 := by have := Nat.mod_lt m (show 0 < mm by omega); omega
  have hmod : (m : Int).tmod (mm : Int) = (kk : Int) := by rw [hkk, Int.tmod_eq_emod_of_nonneg (by omega)]; omega
  have hmod2 : (m : Int) % (mm : Int) = (kk : Int) := by rw [hkk]; omega
  clear L4 L4' PUH BW mk d0 d1 d2 d3 d4 hkk hmm
  go_wp2_with fail
  clear hmod hmod2 hms hq1 e0 e1 e2
  have bL := Hid.intro (lt_of_heap b1H.out)
  go_loopw [10] (fun i wr => ∃ t : Nat, t ≤ kk ∧ i = .int .i64 t ∧ SL (fun k => k < w1.heap.size) t w4 wr b (sndL tx K N S wt ms R t)) (fun i _ => kk - (intOf i).toNat)
  case atStart => exact ⟨0, by omega, rfl, L4H.out⟩
  case round =>
    clear L4H
    obtain ⟨t, htk, rfl, LX⟩ := hrel
    have x3 := LX.cell e3 bL.out
    have x4 := LX.cell e4 bL.out
    have LXH := Hid.intro LX
    by_cases hlt : t < kk
    · have t1 : (t : Int) < (kk : Int) := by omega
      obtain ⟨u, hu⟩ : ∃ u, u = t * wt := ⟨_, rfl⟩
      have hu1 : (t : Int) * (wt : Int) = (u : Int) := by rw [hu]; simp
      have hu2 : u ≤ 1000 := by rw [hu]; exact Nat.mul_le_mul (show t ≤ 10 by omega) (show wt ≤ 100 by omega)
      have TK := sltick (u : Int) (by omega) (by omega) LX
      have tl := tick_L (tx := tx) (K := K) (N := N) (S := S) (wait := wt) (most := ms) (R := R) t
      rw [hu1] at tl
      rw [tl.1] at TK
      have TKH := Hid.intro TK
      clear LX TK tl hu
      go_wp2_with fail
      refine TKH.out.mono ?_
      rintro e w6 ⟨v6, G6, rfl, _, _, _, L6⟩
      have L6H := Hid.intro L6
      clear L6 TKH x3 x4 LXH
      go_wp2
      go_roundw
      case rel => exact ⟨t + 1, by omega, by go_num, L6H.out⟩
      case measure => simp [intOf]; omega
    · obtain rfl : t = kk := by omega
      have t1 : ¬ (t : Int) < (t : Int) := by omega
      have BH := (Below.refl _ wr).alloc (Nat.le_refl _) (.cells #[.int .u8 1, .int .u8 0] 5 (0, 0))
      have WR : Wid wr := by
        obtain ⟨ty, fr, q0⟩ := W1.out
        have q1 := lt_of_heap q0
        exact ⟨ty, fr, (LX.block q1).trans ((BW4.out.block 0 q1).trans q0)⟩
      have L7 := LX.here.grow BH
      have R7 : Reads (wr.alloc (.cells #[.int .u8 1, .int .u8 0] 5 (0, 0))) (some ⟨wr.heap.size, 0, none⟩) [1, 0] := pair_made 1 0 wr
      have HE := slhear ⟨tx, 0, 0, 0, 1, [1, 0]⟩ (some ⟨wr.heap.size, 0, none⟩) 2 (byt_pair (by decide) (by decide)) (by omega) L7 (WR.below BH) R7 (fun _ ad ha => by cases ha; exact .inr ⟨Nat.le_refl _, by simp⟩)
      obtain ⟨ha, hc⟩ := hear_ack (x := sndL tx K N S wt ms R t) (tx := tx) rfl (by omega) 1 0
      rw [ha, hc] at HE
      have HEH := Hid.intro HE
      have BZ := Hid.intro ((LX.out (B := w1.heap.size) BW4.out.size (fun k hk => hk)).trans (BH.mono (Nat.le_trans BW4.out.size LX.chg.size)))
      have y4 := cellKn BH x4
      have y4H := Hid.intro y4
      clear HE ha hc LX BH L7 R7 WR y4 x3
      go_wp2_with fail
      refine HEH.out.mono ?_
      rintro e w8 ⟨rfl, L8⟩
      have z4 := L8.cell y4H.out (.inl bL.out)
      obtain ⟨q1, q2⟩ := ack_L (tx := tx) (K := K) (N := N) (S := S) (wait := wt) (most := ms) (R := R) t
      have BW8 := Hid.intro (BW4.out.trans (BZ.out.trans (L8.out (B := w1.heap.size) (Nat.le_trans BW4.out.size BZ.out.size) (fun k hk => .inl hk))))
      have FL := sllost L8
      have FR := fun W hb => slroom (L8.below (w' := W) hb)
      rw [q1] at FR
      rw [q2] at FL
      have FLH := Hid.intro FL
      have FRH := Hid.intro FR
      clear FL FR L8 HEH q1 q2 x4
      by_cases hg : ms < t
      · rw [if_pos hg] at FLH
        have g1 : (ms : Int) < (t : Int) := by omega
        go_wp2_with fail
        refine FLH.out.mono ?_
        rintro e w9 ⟨rfl, B9⟩
        have BW9 := Hid.intro (BW8.out.trans (B9.mono BW8.out.size))
        have B9H := Hid.intro B9
        clear B9
        go_wp2_with fail
        refine (FRH.out w9 B9H.out).mono ?_
        rintro e w10 ⟨rfl, B10⟩
        have BW10 := Hid.intro (BW9.out.trans (B10.mono BW9.out.size))
        clear B10
        go_wp2
        go_ret
        exact ⟨rfl, B1H.out.trans (BW10.out.mono B1H.out.size)⟩
      · rw [if_neg hg] at FLH
        have g1 : ¬ (ms : Int) < (t : Int) := by omega
        go_wp2_with fail
        refine FLH.out.mono ?_
        rintro e w9 ⟨rfl, B9⟩
        have BW9 := Hid.intro (BW8.out.trans (B9.mono BW8.out.size))
        have B9H := Hid.intro B9
        clear B9
        go_wp2_with fail
        refine (FRH.out w9 B9H.out).mono ?_
        rintro e w10 ⟨rfl, B10⟩
        have BW10 := Hid.intro (BW9.out.trans (B10.mono BW9.out.size))
        clear B10
        go_wp2
        go_ret
        exact ⟨rfl, B1H.out.trans (BW10.out.mono B1H.out.size)⟩

theorem walk (tx k n s wt ms m : Int) (w : World) (_ : (Lit.int .i64 tx).wf = true) (_ : (Lit.int .i64 k).wf = true ∧ (Lit.int .i64 n).wf = true ∧ (Lit.int .i64 s).wf = true ∧ (Lit.int .i64 wt).wf = true ∧ (Lit.int .i64 ms).wf = true) (hm : (Lit.int .u8 m).wf = true) (hW : Wid w) :
    Calls Tryd.prog 3 #[.int .i64 tx, Lk k n s wt ms, .int .u8 m] w fun e w' => e = .returned (.bool true) ∧ Below w.heap.size w w' := by
  rcases hn : (mayL k n s wt ms && isTx tx) with _ | _
  · exact walk_nil tx k n s wt ms m w hW hn
  · have h' := hn
    rw [Bool.and_eq_true] at h'
    obtain ⟨h1, h2, h3, h4, h5⟩ := mayL_true h'.1
    have h6 := mayC_true h1
    have h7 := isTx_true h'.2
    have h8 := bounds_u8 hm
    obtain ⟨T, rfl⟩ := Int.eq_ofNat_of_zero_le h7.1
    obtain ⟨K, rfl⟩ := Int.eq_ofNat_of_zero_le (show 0 ≤ k by omega)
    obtain ⟨N, rfl⟩ := Int.eq_ofNat_of_zero_le (show 0 ≤ n by omega)
    obtain ⟨S, rfl⟩ := Int.eq_ofNat_of_zero_le (show 0 ≤ s by omega)
    obtain ⟨A, rfl⟩ := Int.eq_ofNat_of_zero_le (show 0 ≤ wt by omega)
    obtain ⟨B, rfl⟩ := Int.eq_ofNat_of_zero_le (show 0 ≤ ms by omega)
    obtain ⟨C, rfl⟩ := Int.eq_ofNat_of_zero_le h8.1
    exact walk_near T K N S A B C (by omega) w hW hn

set_option maxRecDepth 100000 in
theorem lifted (os : Os) (started : os.Started) (H : Type) (enc : TypeId × Value → H) :
    ReturnsInHanded {} Tryd.checked os 3 .any (fun w args => (Rows.senderLostSpec.pre enc Tryd.prog Tryd.f3 [] false w args ∧ laidMetH Tryd.prog LW w) ∧ sizedMet enc Tryd.prog Tryd.f3 (OpenSpec.ofChange Rows.senderLostSpec) false w args) (Rows.senderLostSpec.post enc Tryd.prog Tryd.f3 false true false false) := by
  refine returnsInHanded_of_change_and (C := Tryd.checked) (X := fun w _ => laidMetH Tryd.prog LW w) (fun _ _ _ hh h => h.of_heap hh) own started (by kernel_rfl) Tryd.func3
    (ChangeSpec.witness_shaped (enc := enc) (C := Tryd.checked) (os := os) (X := fun w _ => laidMetH Tryd.prog LW w) false (World.doorLaid Tryd.prog 400 os) #[.int .i64 0, .agg #[.int .i64 0, .int .i64 0, .int .i64 0, .int .i64 0, .int .i64 0], .int .u8 0] 8 rfl (World.shaped_of_RefB (by kernel_rfl) (by kernel_rfl)) (by kernel_rfl) (by kernel_rfl) (by kernel_rfl) (door_met os _)) ?_
  intro W base args ds gs before hval0 hW _ _ hL _
  have hval : ∀ (j : Nat) t v, Tryd.f3.params[j]? = some t → args[j]? = some v → Value.okWide Tryd.prog W .any base t v := hval0
  have hW' := hW
  obtain ⟨p, q, hA0, hV, rfl, hfz, hnd⟩ := hW
  have hA : DataW.TrodAll enc Tryd.prog W 0 (fun _ => true) true Tryd.f3.params.toList args.toList ds p := hA0
  rw [Tryd.params3] at hA hval
  obtain ⟨v0, vs0, d0, ds0, p0, q0, hargs, rfl, rfl, h0, r0⟩ := trodAll_cons hA
  obtain ⟨v1, vs1, d1, ds1, p1, q1, rfl, rfl, rfl, h1, r1⟩ := trodAll_cons r0
  obtain ⟨v2, vs2, d2, ds2, p2, q2, rfl, rfl, rfl, h2, r2⟩ := trodAll_cons r1
  obtain ⟨rfl, rfl, rfl⟩ := trodAll_nil r2
  obtain rfl : args = #[v0, v1, v2] := by cases args; simp_all
  obtain ⟨rfl, rfl⟩ := trodVars_none hV
  obtain ⟨a0, rfl, rfl, rfl, w0⟩ := open_int Tryd.underlying3 (hval 0 3 v0 rfl rfl) h0
  have k1 := h1
  have lt1 : ∀ x ∈ p1, x.block < W.heap.size := by obtain ⟨m, hm⟩ := k1; exact DataW.trod_lt m _ _ _ hm
  obtain ⟨kc1, nc1, sc1, wc1, mc1, rfl, w1⟩ := open_link (hval 1 25 v1 rfl rfl) h1
  obtain ⟨a2, rfl, rfl, rfl, w2⟩ := open_int Tryd.underlying5 (hval 2 5 v2 rfl rfl) h2
  clear hA0 hval0
  refine (walk a0 kc1 nc1 sc1 wc1 mc1 a2 W w0 w1 w2 (laid_fact hL)).mono fun e W' ⟨he, bel⟩ => ?_
  subst he
  exact ⟨_, rfl, _, _, _, [], _, [], hW', trodAll_mk1 (shut_bool Tryd.underlying4 _), (trodAll_cons_mk (shut_int Tryd.underlying3 w0) (trodAll_cons_mk (Below.trod laidOut (by kernel_rfl) (of_decide_eq_true (by kernel_rfl)) k1 bel lt1) (trodAll_cons_mk (shut_int Tryd.underlying5 w2) trodAll_mk0))), rfl, bel.frame _, fun h => by cases h⟩

theorem over : Rows.senderLostRow.holds Tryd.pinned (OpenSpec.ofChange Rows.senderLostSpec) :=
  OpenClaim.holds_of_wide 3 Tryd.f3 rfl rfl rfl rfl rfl rfl rfl ⟨rfl, rfl, rfl, rfl, rfl⟩ rfl rfl rfl rfl rfl (by kernel_rfl) Tryd.func3 (by kernel_rfl)
    (of_decide_eq_true (by kernel_rfl)) (by unfold Func.isWrapper; first | (rw [if_pos (by decide +kernel)]; kernel_rfl) | (rw [if_neg (by decide +kernel)]; exact ⟨rfl, rfl⟩))
    (fun os started H enc _ => lifted os started H enc)

end Go.Proofs.YteacdckfnmjojabDoor.LSenderLost

namespace Go.Proofs.YteacdckfnmjojabDoor
theorem senderLost_holds : Rows.SenderLostCardSaid :=
  Claim7.holds_tied_plain_at .later [] [.data] true (true, "d9292534e13c473cddc1c13f6e435d01530fcec4a866b5f93d0c520fa61b4331") false
    LSenderLost.over (fun _ h => by cases h) (by kernel_rfl) (fun _ h => by cases h) senderLost_row_tie rfl ⟨rfl, rfl⟩ (by kernel_rfl) rfl
    (fun f fn hf hfn => by
      obtain rfl : f = 3 := Option.some.inj ((show Tryd.prog.funcNamed "gurney/gurneylaw08.SenderLost" = some 3 by kernel_rfl).symm.trans hf) |>.symm
      obtain rfl : fn = Tryd.f3 := (Option.some.inj (Tryd.func3.symm.trans hfn)).symm
      exact ⟨by kernel_rfl, fun j t ht => by
        rw [Tryd.params3] at ht
        have hm : t ∈ [3, 25, 5] := by simpa using Array.mem_of_getElem? ht
        have hall : ([3, 25, 5].all fun u => !Tryd.prog.wantsStandIn u) = true := by kernel_rfl
        exact (show Tryd.prog.wantsStandIn t = false by simpa using List.all_eq_true.1 hall t hm)⟩)
    (by kernel_rfl)
#print axioms senderLost_holds
end Go.Proofs.YteacdckfnmjojabDoor
