/- The statement SenderRoom: a sender takes as many texts as groups may be open, and as many more as are acked. -/
import Derived.Test.YteacdckfnmjojaaDoorSnAlive
import Derived.Test.YteacdckfnmjojaaDoorLinkArg
import Derived.Test.YteacdckfnmjojaaDoorFrmLaid
namespace Go.Proofs.YteacdckfnmjojaaDoor
open Go.ChangeShapes Go.WideShapes Go.ChangeAt Go.RowKit Go.Joins
open Bt

namespace LSenderRoom

theorem walk_nil (tx k n s wt ms : Int) (m : Int) (w : World) (hW : Wid w) (h : (mayL k n s wt ms && isTx tx) = false) :
    Calls Tryd.prog 6 #[.int .i64 tx, Lk k n s wt ms, .int .u8 m] w fun e w' => e = .returned (.bool true) ∧ Below w.heap.size w w' := by
  have NO := Hid.intro (fun w hw => nnew_no tx k n s wt ms h w hw)
  have B0 := Hid.intro ((Below.refl _ w).alloc (Nat.le_refl _) (.cells #[.int .i64 k, .int .i64 n, .int .i64 s, .int .i64 wt, .int .i64 ms] 25))
  have b0 := Hid.intro (heap_alloc_new w (.cells #[.int .i64 k, .int .i64 n, .int .i64 s, .int .i64 wt, .int .i64 ms] 25))
  have W0 := Hid.intro (hW.below B0.out)
  clear h hW
  go_enter Tryd.func6, Tryd.ntmps6
  go_wp2_with fail
  refine (alive_any _ W0.out).mono ?_
  rintro e w1 ⟨rfl, B1⟩
  have W1 := Hid.intro (W0.out.below B1)
  have b1 := (B1.block _ (lt_of_heap b0.out)).trans b0.out
  have B1H := Hid.intro (B0.out.trans (B1.mono B0.out.size))
  obtain ⟨c0, c1, c2, c3, c4⟩ := lk_cells b1
  clear b1 B1 B0 W0 b0
  go_wp2_with fail
  refine (NO.out w1 W1.out).mono ?_
  rintro e w2 ⟨rfl, B2⟩
  have B2H := Hid.intro (B1H.out.trans (B2.mono B1H.out.size))
  clear B2 B1H NO c0 c1 c2 c3 c4
  go_wp2
  go_ret
  exact ⟨rfl, B2H.out⟩

set_option maxRecDepth 100000 in
set_option maxHeartbeats 2000000 in
theorem walk_near (tx K N S wt ms m : Nat) (hm : m ≤ 255) (w : World) (hW : Wid w) (h : (mayL K N S wt ms && isTx tx) = true) :
    Calls Tryd.prog 6 #[.int .i64 (tx : Int), Lk K N S wt ms, .int .u8 (m : Int)] w fun e w' => e = .returned (.bool true) ∧ Below w.heap.size w w' := by
  have NW := Hid.intro (fun w hw => nnew_yes tx K N S wt ms h w hw)
  rw [Bool.and_eq_true] at h
  obtain ⟨hmay, htx⟩ := h
  have ht := isTx_true htx
  obtain ⟨h1, h2, h3, h4, h5⟩ := mayL_true hmay
  have h6 := mayC_true h1
  obtain ⟨q, hq⟩ : ∃ q, q = K * S := ⟨_, rfl⟩
  have hq1 : (K : Int) * (S : Int) = (q : Int) := by rw [hq]; simp
  have hq2 : q ≤ 144 := by rw [hq]; exact Nat.mul_le_mul (show K ≤ 6 by omega) (show S ≤ 24 by omega)
  have HQ := Hid.intro hq
  have mk := make_bytes q (by omega)
  have B0 := Hid.intro ((Below.refl _ w).alloc (Nat.le_refl _) (.cells #[.int .i64 (K : Int), .int .i64 (N : Int), .int .i64 (S : Int), .int .i64 (wt : Int), .int .i64 (ms : Int)] 25))
  have b0 := Hid.intro (heap_alloc_new w (.cells #[.int .i64 (K : Int), .int .i64 (N : Int), .int .i64 (S : Int), .int .i64 (wt : Int), .int .i64 (ms : Int)] 25))
  have W0 := Hid.intro (hW.below B0.out)
  clear hW hmay htx h1 hq
  go_enter Tryd.func6, Tryd.ntmps6
  go_wp2_with fail
  refine (alive_any _ W0.out).mono ?_
  rintro e w1 ⟨rfl, B1⟩
  have b1 := (B1.block _ (lt_of_heap b0.out)).trans b0.out
  have B1H := Hid.intro (B0.out.trans (B1.mono B0.out.size))
  have W1 := Hid.intro (W0.out.below B1)
  have b1H := Hid.intro b1
  obtain ⟨c0, c1, c2, c3, c4⟩ := lk_cells b1
  clear b1 B1 B0 W0 b0
  go_wp2_with fail
  refine (NW.out w1 W1.out).mono ?_
  rintro e w2 ⟨b, F, rfl, hS, hF, B2⟩
  have BA := (Below.refl _ w2).alloc (Nat.le_refl _) (.cells (madeCells #[.int .u8 0] q) 5 (0, 0))
  have L1 := ((sl_new hS hF B2).grow BA).less (G := fun k => k < w1.heap.size ∨ k = w2.heap.size) (fun k hk => by
    rcases hk with q | q
    · exact .inl q
    · subst q; exact .inr ⟨Nat.le_refl _, by simp⟩)
  have R1 := zeros_made q w2
  obtain ⟨d0, d1, d2, d3, d4⟩ := lk_cells ((B2.block _ (lt_of_heap b1H.out)).trans b1H.out)
  have BW := Hid.intro ((B2.trans (BA.mono B2.size)))
  have bL := Hid.intro (lt_of_heap b1H.out)
  have RH := Hid.intro R1
  have L1H : Hid (SL (fun k => k < w1.heap.size ∨ k = w2.heap.size) 0 (w2.alloc (.cells (madeCells #[.int .u8 0] q) 5 (0, 0))) (w2.alloc (.cells (madeCells #[.int .u8 0] q) 5 (0, 0))) b (sndP tx K N S wt ms (encL K N S (List.replicate q 0)) 0)) := L1
  have PF := Hid.intro (fun i (hi : i < 4) => push_few (tx := tx) (K := K) (N := N) (S := S) (wait := wt) (most := ms) (bs := List.replicate q 0) (i := i) hi (by rw [List.length_replicate]; exact HQ.out))
  have PL := Hid.intro (push_full (tx := tx) (K := K) (N := N) (S := S) (wait := wt) (most := ms) (bs := List.replicate q 0) (by rw [List.length_replicate]; exact HQ.out) (R := encL K N S (List.replicate q 0)))
  generalize encL K N S (List.replicate q 0) = R at L1H PF PL
  clear hS hF B2 BA L1 R1 NW c0 c1 c2 c3 c4
  go_wp2_with fail
  clear mk d0 d1 d2 d3 d4 hq1
  generalize w2.alloc (.cells (madeCells #[.int .u8 0] q) 5 (0, 0)) = w3 at L1H RH BW ⊢
  go_loopw [9] (fun i wr => ∃ t : Nat, t ≤ 6 ∧ i = .int .i64 t ∧ SL (fun k => k < w1.heap.size ∨ k = w2.heap.size) 0 w3 wr b (sndP tx K N S wt ms R (min t 4))) (fun i _ => 6 - (intOf i).toNat)
  case atStart => exact ⟨0, by omega, rfl, L1H.out⟩
  case round =>
    clear L1H
    obtain ⟨t, ht6, rfl, LX⟩ := hrel
    by_cases hlt : t < 6
    · have t1 : (t : Int) < 6 := by omega
      have PU := slpush (some ⟨w2.heap.size, 0, none⟩) q (List.replicate q 0) (byt_zeros q) ⟨(fun q => by cases q), by simp⟩ (by decide) LX (LX.reads RH.out (fun ad ha => by cases ha; exact .inr rfl)) (fun _ ad ha => by cases ha; exact .inr rfl)
      by_cases h4t : t < 4
      · have t2 : ¬ (4 : Int) ≤ (t : Int) := by omega
        have pe := PF.out t h4t
        rw [show min t 4 = t by omega] at PU
        rw [pe.1, pe.2, List.length_replicate] at PU
        have PUH := Hid.intro PU
        clear PU pe LX
        go_wp2_with fail
        refine PUH.out.mono ?_
        rintro e w4 ⟨rfl, L4⟩
        have L4H := Hid.intro L4
        clear L4 PUH
        go_wp2
        go_roundw
        case rel => exact ⟨t + 1, by omega, by go_num, by rw [show min (t + 1) 4 = t + 1 by omega]; exact L4H.out⟩
        case measure => simp [intOf]; omega
      · have t2 : (4 : Int) ≤ (t : Int) := by omega
        have pe := PL.out
        rw [show min t 4 = 4 by omega] at PU
        rw [pe.1, pe.2, List.length_replicate] at PU
        have PUH := Hid.intro PU
        clear PU pe LX
        go_wp2_with fail
        refine PUH.out.mono ?_
        rintro e w4 ⟨rfl, L4⟩
        have L4H := Hid.intro L4
        clear L4 PUH
        go_wp2
        go_roundw
        case rel => exact ⟨t + 1, by omega, by go_num, by rw [show min (t + 1) 4 = 4 by omega]; exact L4H.out⟩
        case measure => simp [intOf]; omega
    · obtain rfl : t = 6 := by omega
      have t1 : ¬ ((6 : Nat) : Int) < 6 := by decide
      obtain ⟨kk, hkk⟩ : ∃ kk, kk = m % 5 := ⟨_, rfl⟩
      have hk2 : kk ≤ 4 := by have := Nat.mod_lt m (show 0 < 5 by omega); omega
      have hmod : (m : Int).tmod 5 = (kk : Int) := by rw [hkk, Int.tmod_eq_emod_of_nonneg (by omega)]; omega
      have hmod2 : (m : Int) % 5 = (kk : Int) := by rw [hkk]; omega
      have LX' : SL (fun k => k < w1.heap.size ∨ k = w2.heap.size) 0 w3 wr b (sndP tx K N S wt ms R 4) := LX
      have BH := (Below.refl _ wr).alloc (Nat.le_refl _) (.cells #[.int .u8 (kk : Int), .int .u8 0] 5 (0, 0))
      have WR : Wid wr := by
        obtain ⟨ty, fr, q0⟩ := W1.out
        have q1 := lt_of_heap q0
        exact ⟨ty, fr, (LX'.block (.inl q1)).trans ((BW.out.block 0 q1).trans q0)⟩
      have L7 := LX'.here.grow BH
      have R7 : Reads (wr.alloc (.cells #[.int .u8 (kk : Int), .int .u8 0] 5 (0, 0))) (some ⟨wr.heap.size, 0, none⟩) [kk, 0] := pair_made kk 0 wr
      have HE := slhear ⟨tx, 0, 0, 0, 1, [kk, 0]⟩ (some ⟨wr.heap.size, 0, none⟩) 2 (byt_pair (by omega) (by decide)) (by decide) L7 (WR.below BH) R7 (fun _ ad ha => by cases ha; exact .inr ⟨Nat.le_refl _, by simp⟩)
      obtain ⟨ha, hc⟩ := hear_ack (x := sndP tx K N S wt ms R 4) (tx := tx) rfl (by omega) kk 0
      rw [ha, hc] at HE
      have HEH := Hid.intro HE
      have BZ := Hid.intro (BW.out.trans ((LX'.out (B := w1.heap.size) BW.out.size (fun k hk => .inl hk)).trans (BH.mono (Nat.le_trans BW.out.size LX'.chg.size))))
      clear HE ha hc LX LX' BH L7 R7 WR hkk
      go_wp2_with fail
      refine HEH.out.mono ?_
      rintro e w8 ⟨rfl, L8⟩
      obtain ⟨q1, q2, q3⟩ := ack_room (tx := tx) (K := K) (N := N) (S := S) (wait := wt) (most := ms) (R := R) hk2
      have BW8 := Hid.intro (BZ.out.trans (L8.out (B := w1.heap.size) BZ.out.size (fun k hk => .inl (.inl hk))))
      have FR := slroom L8
      have FHL := fun W hb => slhello (L8.below (w' := W) hb)
      have FL := fun W hb => sllost (L8.below (w' := W) hb)
      rw [q1, show 4 - (4 - kk) = kk by omega] at FR
      rw [q2] at FHL
      rw [q3] at FL
      have FLH := Hid.intro FL
      have FRH := Hid.intro FR
      have FHH := Hid.intro FHL
      obtain ⟨sq, hsq⟩ : ∃ sq, sq = 16 * kk := ⟨_, rfl⟩
      rw [← hsq] at FHH
      have hs1 : (16 : Int) * (kk : Int) = (sq : Int) := by omega
      have hs2 : sq ≤ 64 := by omega
      clear FL FR FHL L8 HEH q1 q2 q3 hsq
      go_wp2_with fail
      refine FRH.out.mono ?_
      rintro e w9 ⟨rfl, B9⟩
      have BW9 := Hid.intro (BW8.out.trans (B9.mono BW8.out.size))
      have B9H := Hid.intro B9
      clear B9
      go_wp2_with fail
      refine (FHH.out w9 B9H.out).mono ?_
      rintro e w10 ⟨ha, hc, rfl, B10⟩
      have BW10 := Hid.intro (BW9.out.trans (B10.mono BW9.out.size))
      have B10H := Hid.intro (B9H.out.trans (B10.mono B9H.out.size))
      have fs := fr_seq ((ackC (sndP tx K N S wt ms R 4) kk 0).tx : Int) (sq : Int) 0 0 3 ha 0 hc w10
      clear B10
      go_wp2_with fail
      refine (FLH.out w10 B10H.out).mono ?_
      rintro e w11 ⟨rfl, B11⟩
      have BW11 := Hid.intro (BW10.out.trans (B11.mono BW10.out.size))
      clear B11
      go_wp2
      go_ret
      exact ⟨rfl, B1H.out.trans (BW11.out.mono B1H.out.size)⟩

theorem walk (tx k n s wt ms m : Int) (w : World) (_ : (Lit.int .i64 tx).wf = true) (_ : (Lit.int .i64 k).wf = true ∧ (Lit.int .i64 n).wf = true ∧ (Lit.int .i64 s).wf = true ∧ (Lit.int .i64 wt).wf = true ∧ (Lit.int .i64 ms).wf = true) (hm : (Lit.int .u8 m).wf = true) (hW : Wid w) :
    Calls Tryd.prog 6 #[.int .i64 tx, Lk k n s wt ms, .int .u8 m] w fun e w' => e = .returned (.bool true) ∧ Below w.heap.size w w' := by
  rcases hn : (mayL k n s wt ms && isTx tx) with _ | _
  · exact walk_nil tx k n s wt ms m w hW hn
  · have h' := hn
    rw [Bool.and_eq_true] at h'
    obtain ⟨h1, h2, h3, h4, h5⟩ := mayL_true h'.1
    have h6 := mayC_true h1
    have h7 := isTx_true h'.2
    have h8 := bounds_u8 hm
    obtain ⟨T, rfl⟩ := Int.eq_ofNat_of_zero_le h7.1
    obtain ⟨K, rfl⟩ := Int.eq_ofNat_of_zero_le (show 0 ≤ k by omega)
    obtain ⟨N, rfl⟩ := Int.eq_ofNat_of_zero_le (show 0 ≤ n by omega)
    obtain ⟨S, rfl⟩ := Int.eq_ofNat_of_zero_le (show 0 ≤ s by omega)
    obtain ⟨A, rfl⟩ := Int.eq_ofNat_of_zero_le (show 0 ≤ wt by omega)
    obtain ⟨B, rfl⟩ := Int.eq_ofNat_of_zero_le (show 0 ≤ ms by omega)
    obtain ⟨C, rfl⟩ := Int.eq_ofNat_of_zero_le h8.1
    exact walk_near T K N S A B C (by omega) w hW hn

set_option maxRecDepth 100000 in
theorem lifted (os : Os) (started : os.Started) (H : Type) (enc : TypeId × Value → H) :
    ReturnsInHanded {} Tryd.checked os 6 .any (fun w args => (Rows.senderRoomSpec.pre enc Tryd.prog Tryd.f6 [] false w args ∧ laidMetH Tryd.prog LW w) ∧ sizedMet enc Tryd.prog Tryd.f6 (OpenSpec.ofChange Rows.senderRoomSpec) false w args) (Rows.senderRoomSpec.post enc Tryd.prog Tryd.f6 false true false false) := by
  refine returnsInHanded_of_change_and (C := Tryd.checked) (X := fun w _ => laidMetH Tryd.prog LW w) (fun _ _ _ hh h => h.of_heap hh) own started (by kernel_rfl) Tryd.func6
    (ChangeSpec.witness_shaped (enc := enc) (C := Tryd.checked) (os := os) (X := fun w _ => laidMetH Tryd.prog LW w) false (World.doorLaid Tryd.prog 400 os) #[.int .i64 0, .agg #[.int .i64 0, .int .i64 0, .int .i64 0, .int .i64 0, .int .i64 0], .int .u8 0] 8 rfl (World.shaped_of_RefB (by kernel_rfl) (by kernel_rfl)) (by kernel_rfl) (by kernel_rfl) (by kernel_rfl) (door_met os _)) ?_
  intro W base args ds gs before hval0 hW _ _ hL _
  have hval : ∀ (j : Nat) t v, Tryd.f6.params[j]? = some t → args[j]? = some v → Value.okWide Tryd.prog W .any base t v := hval0
  have hW' := hW
  obtain ⟨p, q, hA0, hV, rfl, hfz, hnd⟩ := hW
  have hA : DataW.TrodAll enc Tryd.prog W 0 (fun _ => true) true Tryd.f6.params.toList args.toList ds p := hA0
  rw [Tryd.params6] at hA hval
  obtain ⟨v0, vs0, d0, ds0, p0, q0, hargs, rfl, rfl, h0, r0⟩ := trodAll_cons hA
  obtain ⟨v1, vs1, d1, ds1, p1, q1, rfl, rfl, rfl, h1, r1⟩ := trodAll_cons r0
  obtain ⟨v2, vs2, d2, ds2, p2, q2, rfl, rfl, rfl, h2, r2⟩ := trodAll_cons r1
  obtain ⟨rfl, rfl, rfl⟩ := trodAll_nil r2
  obtain rfl : args = #[v0, v1, v2] := by cases args; simp_all
  obtain ⟨rfl, rfl⟩ := trodVars_none hV
  obtain ⟨a0, rfl, rfl, rfl, w0⟩ := open_int Tryd.underlying3 (hval 0 3 v0 rfl rfl) h0
  have k1 := h1
  have lt1 : ∀ x ∈ p1, x.block < W.heap.size := by obtain ⟨m, hm⟩ := k1; exact DataW.trod_lt m _ _ _ hm
  obtain ⟨kc1, nc1, sc1, wc1, mc1, rfl, w1⟩ := open_link (hval 1 25 v1 rfl rfl) h1
  obtain ⟨a2, rfl, rfl, rfl, w2⟩ := open_int Tryd.underlying5 (hval 2 5 v2 rfl rfl) h2
  clear hA0 hval0
  refine (walk a0 kc1 nc1 sc1 wc1 mc1 a2 W w0 w1 w2 (laid_fact hL)).mono fun e W' ⟨he, bel⟩ => ?_
  subst he
  exact ⟨_, rfl, _, _, _, [], _, [], hW', trodAll_mk1 (shut_bool Tryd.underlying4 _), (trodAll_cons_mk (shut_int Tryd.underlying3 w0) (trodAll_cons_mk (Below.trod laidOut (by kernel_rfl) (of_decide_eq_true (by kernel_rfl)) k1 bel lt1) (trodAll_cons_mk (shut_int Tryd.underlying5 w2) trodAll_mk0))), rfl, bel.frame _, fun h => by cases h⟩

theorem over : Rows.senderRoomRow.holds Tryd.pinned (OpenSpec.ofChange Rows.senderRoomSpec) :=
  OpenClaim.holds_of_wide 6 Tryd.f6 rfl rfl rfl rfl rfl rfl rfl ⟨rfl, rfl, rfl, rfl, rfl⟩ rfl rfl rfl rfl rfl (by kernel_rfl) Tryd.func6 (by kernel_rfl)
    (of_decide_eq_true (by kernel_rfl)) (by unfold Func.isWrapper; first | (rw [if_pos (by decide +kernel)]; kernel_rfl) | (rw [if_neg (by decide +kernel)]; exact ⟨rfl, rfl⟩))
    (fun os started H enc _ => lifted os started H enc)

end Go.Proofs.YteacdckfnmjojaaDoor.LSenderRoom

namespace Go.Proofs.YteacdckfnmjojaaDoor
theorem senderRoom_holds : Rows.SenderRoomCardSaid :=
  Claim7.holds_tied_plain_at .later [] [.data] true (true, "9b5cfb4e48c1552a5b4377346394cfbd12191835c5e1507131bd829a00487da3") false
    LSenderRoom.over (fun _ h => by cases h) (by kernel_rfl) (fun _ h => by cases h) senderRoom_row_tie rfl ⟨rfl, rfl⟩ (by kernel_rfl) rfl
    (fun f fn hf hfn => by
      obtain rfl : f = 6 := Option.some.inj ((show Tryd.prog.funcNamed "gurney/gurneylaw08.SenderRoom" = some 6 by kernel_rfl).symm.trans hf) |>.symm
      obtain rfl : fn = Tryd.f6 := (Option.some.inj (Tryd.func6.symm.trans hfn)).symm
      exact ⟨by kernel_rfl, fun j t ht => by
        rw [Tryd.params6] at ht
        have hm : t ∈ [3, 25, 5] := by simpa using Array.mem_of_getElem? ht
        have hall : ([3, 25, 5].all fun u => !Tryd.prog.wantsStandIn u) = true := by kernel_rfl
        exact (show Tryd.prog.wantsStandIn t = false by simpa using List.all_eq_true.1 hall t hm)⟩)
    (by kernel_rfl)
#print axioms senderRoom_holds
end Go.Proofs.YteacdckfnmjojaaDoor
