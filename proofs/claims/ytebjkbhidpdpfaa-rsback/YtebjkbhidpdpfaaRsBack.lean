/- RsBack: whatever code, bytes and number come in, it returns true: from whichever shards of a text of up to 200 bytes, if they are enough, it is decoded, and from fewer none; no condition. -/
import Derived.Test.YtebjkbhidpdpfaaRsArg
import Derived.Test.YtebjkbhidpdpfaaRsAlive
import Derived.Test.YtebjkbhidpdpfaaRsLostP
import Derived.Test.YtebjkbhidpdpfaaRefSame
namespace Go.Proofs.Ytebjkbhidpdpfaa.LRsBack
open Go.ChangeShapes Go.WideShapes Go.ChangeAt Go.RowKit Go.Deep
open Bt

theorem walk_far (k n s : Int) (a : Option Addr) (len cap : Nat) (q : Int) (w : World) (hlen : len ≤ maxLen) (h : 200 < len) :
    Calls Try.prog 6 #[Cd k n s, .slice a len cap, .int .u16 q] w fun e w' => e = .returned (.bool true) ∧ Below w.heap.size w w' := by
  unfold maxLen at hlen
  have j : decide ((200 : Int) < (len : Int)) = true := by simp; omega
  go_enter Try.func6, Try.ntmps6
  go_wp2_with fail
  refine (alive_any _).mono ?_
  rintro e w1 ⟨rfl, B1⟩
  go_wp2
  go_ret
  exact ⟨rfl, ((Below.refl _ _).alloc (Nat.le_refl _) _).trans ((below_chg B1).below (by simp) (fun _ f => f.elim))⟩

set_option maxRecDepth 100000 in
set_option maxHeartbeats 2000000 in
theorem walk_near (k n s : Int) (a : Option Addr) (cap : Nat) (bs : List Nat) (q : Nat) (hq : q < 65536) (w : World) (h2 : bs.length ≤ 200) (hn : Room a cap bs.length) (hY : Byt bs) (hr : Reads w a bs) :
    Calls Try.prog 6 #[Cd k n s, .slice a bs.length cap, .int .u16 (q : Int)] w fun e w' => e = .returned (.bool true) ∧ Below w.heap.size w w' := by
  have HR := Hid.intro hr
  have HY := Hid.intro hY
  have HN := Hid.intro hn
  clear hr hY hn
  have hdec : decide ((200 : Int) < (bs.length : Int)) = false := by simp; omega
  go_enter Try.func6, Try.ntmps6
  go_wp2_with fail
  refine (alive_any _).mono ?_
  rintro e w1 ⟨rfl, B1⟩
  have b1 : w1.heap[w.heap.size]? = some (.cells #[.int .i64 k, .int .i64 n, .int .i64 s] 23 (0, 0)) := by
    rw [B1.block _ (by simp)]; exact heap_alloc_new w _
  have B1w : Below w.heap.size w w1 := ((Below.refl _ _).alloc (Nat.le_refl _) _).trans ((below_chg B1).below (by simp) (fun _ f => f.elim))
  have r1 := HR.out.below B1w
  have c0 : w1.cell? ⟨w.heap.size, 0, none⟩ = some (.int .i64 k) := by rw [cell_of_row _ _ 0 _ _ _ b1]; rfl
  have c1 : w1.cell? ⟨w.heap.size, 1, none⟩ = some (.int .i64 n) := by rw [cell_of_row _ _ 1 _ _ _ b1]; rfl
  have c2 : w1.cell? ⟨w.heap.size, 2, none⟩ = some (.int .i64 s) := by rw [cell_of_row _ _ 2 _ _ _ b1]; rfl
  have b1H := Hid.intro b1
  have B1H := Hid.intro B1w
  have r1H := Hid.intro r1
  clear b1 B1w r1 B1 HR
  go_wp2_with fail
  refine (rencode_any k n s a cap bs HY.out (by omega) w1 r1H.out HN.out).mono ?_
  rintro e w2 ⟨v2, rfl, S2, B2⟩
  clear c0 c1 c2
  have b2 := (B2.block _ (lt_of_heap b1H.out)).trans b1H.out
  have B2w := B1H.out.trans (B2.mono B1H.out.size)
  have r2 := r1H.out.below B2
  by_cases hE : encE k n s bs.length = 0
  · rw [hE]
    have eA : encA k n s bs = encL k.toNat n.toNat s.toNat bs := by unfold encA; rw [if_pos hE]
    rw [eA] at S2
    obtain ⟨hm, hl⟩ := encE_ok hE
    clear hE eA
    obtain ⟨h1, h2', h3, h4, h5, h6⟩ := mayC_true hm
    obtain ⟨K, rfl⟩ := Int.eq_ofNat_of_zero_le (show 0 ≤ k by omega)
    obtain ⟨N, rfl⟩ := Int.eq_ofNat_of_zero_le (show 0 ≤ n by omega)
    obtain ⟨S, rfl⟩ := Int.eq_ofNat_of_zero_le (show 0 ≤ s by omega)
    simp only [Int.toNat_natCast] at S2
    have hl' : bs.length = K * S := by rw [← Int.natCast_mul] at hl; omega
    rcases S2 with ⟨h0, _⟩ | ⟨mb, off, mc, A, C, rfl, S2⟩
    · have := congrArg List.length h0
      rw [encL_length] at this
      exact absurd this (by simp; omega)
    rw [encL_length]
    have hne : w.heap.size ≠ mb := by
      have := S2.newTop
      have := lt_of_heap b1H.out
      omega
    have hwm : w.heap.size ≤ mb := by
      have := S2.newTop
      have := lt_of_heap b1H.out
      omega
    have r2n : ∀ ad, a = some ad → 0 < bs.length → ad.block ≠ mb := fun ad ha h0 e => by
      obtain ⟨ad', e', hc⟩ := r1H.out h0
      rw [ha] at e'
      cases e'
      have h0' := hc 0 (U bs[0]) (by simp [h0])
      have := cell_lt h0'
      rw [add_block] at this
      have := S2.newTop
      omega
    have HL := Hid.intro hl'
    have HMAY := Hid.intro hm
    have S2H := Hid.intro S2
    have b2H := Hid.intro b2
    have B2H := Hid.intro B2w
    have r2H := Hid.intro r2
    have r2N := Hid.intro r2n
    clear S2 b2 B2w r2 B2 b1H B1H r1H hl hl' hm r2n hdec
    go_wp2_with fail
    go_loopw [9, 10] (fun nv iv ws => ∃ (t : Nat) (A : Nat → Option Addr) (C : Nat → Nat), t ≤ N ∧ iv = .int .i64 t ∧ nv = .int .i64 (cntT q t : Nat) ∧ ShsAt w1.heap.size ws mb off A C (lostT q (encL K N S bs) t) ∧ Chg (fun k => k = mb) w2 ws) (fun _ iv _ => N - (intOf iv).toNat)
    case atStart => exact ⟨0, A, C, by omega, rfl, rfl, S2H.out, Chg.refl _ _⟩
    case round =>
      clear S2H
      obtain ⟨t, A, C, ht, rfl, rfl, SX, CX⟩ := hrel
      have hcl := cntT_le q t
      by_cases htl : t < N
      · have t0 : (0 : Int) ≤ (t : Int) := by omega
        have t1 : (t : Int) < (N : Int) := by omega
        have hlen : t < (lostT q (encL K N S bs) t).length := by rw [lostT_length, encL_length]; exact htl
        have f0 := SX.cell t hlen
        have f1 := SX.frozen t hlen
        have hbit := u16_bit q t hq
        by_cases hb : q / 2 ^ t % 2 = 1
        · rw [decide_eq_true hb] at hbit
          have SN := SX.lost hlen
          have eL : lostT q (encL K N S bs) (t + 1) = (lostT q (encL K N S bs) t).set t [] := by rw [lostT, if_pos hb]
          have eC : cntT q (t + 1) = cntT q t := by rw [cntT, if_pos hb]
          rw [← eL] at SN
          have CN : Chg (fun k => k = mb) w2 (wr.setCell ⟨mb, off + t, none⟩ (.slice none 0 0)) := CX.setCell (p := ⟨mb, off + t, none⟩) (fun _ => rfl) _
          have SNH := Hid.intro SN
          have CNH := Hid.intro CN
          have ECH := Hid.intro eC
          clear SX CX SN CN eL eC hlen
          generalize ((lostT q (encL K N S bs) t).getD t []).length = m at f0
          generalize cntT q t = ct at hcl ECH ⊢
          go_wp2
          go_roundw
          case rel => exact ⟨t + 1, _, _, by omega, by go_num, by rw [ECH.out], SNH.out, CNH.out⟩
          case measure => simp [intOf]; omega
        · rw [decide_eq_false hb] at hbit
          have eL : lostT q (encL K N S bs) (t + 1) = lostT q (encL K N S bs) t := by rw [lostT, if_neg hb]
          have eC : cntT q (t + 1) = cntT q t + 1 := by rw [cntT, if_neg hb]
          rw [← eL] at SX
          have SNH := Hid.intro SX
          have CNH := Hid.intro CX
          have ECH := Hid.intro eC
          clear SX CX eL eC hlen f0 f1
          generalize cntT q t = ct at hcl ECH ⊢
          go_wp2
          go_roundw
          case rel => exact ⟨t + 1, _, _, by omega, by go_num, by rw [ECH.out]; go_num, SNH.out, CNH.out⟩
          case measure => simp [intOf]; omega
      · have hte : t = N := by omega
        subst hte
        have n1 : ¬ (t : Int) < (t : Int) := by omega
        have bX := (CX.block _ (lt_of_heap b2H.out) hne).trans b2H.out
        have BX := B2H.out.trans (CX.below B2H.out.size (fun k e => by rw [e]; exact hwm))
        have c0 : wr.cell? ⟨w.heap.size, 0, none⟩ = some (.int .i64 (K : Int)) := by rw [cell_of_row _ _ 0 _ _ _ bX]; rfl
        have c1 : wr.cell? ⟨w.heap.size, 1, none⟩ = some (.int .i64 (t : Int)) := by rw [cell_of_row _ _ 1 _ _ _ bX]; rfl
        have c2 : wr.cell? ⟨w.heap.size, 2, none⟩ = some (.int .i64 (S : Int)) := by rw [cell_of_row _ _ 2 _ _ _ bX]; rfl
        have hM : ∀ r, ((lostT q (encL K t S bs) t).getD r []).length ≤ 300 := fun r => by
          rw [lostT_getD]
          split
          · exact Nat.zero_le _
          · by_cases hr : r < t
            · rw [encL_row hr]; omega
            · rw [List.getD_eq_getElem?_getD, List.getElem?_eq_none (by rw [encL_length]; omega)]; exact Nat.zero_le _
        have hLL : (lostT q (encL K t S bs) t).length = t := by rw [lostT_length, encL_length]
        have D := rdecode_any K t S (some ⟨mb, off, none⟩) mc (lostT q (encL K t S bs) t) (lost_bytL (encL_bytL (by omega) (by omega) HY.out) t) (by rw [hLL]; omega) hM wr SX.reads
        rw [hLL, lost_E HMAY.out q] at D
        have rX : Reads wr a bs := fun h0 => by
          obtain ⟨ad, ha, hc⟩ := r2H.out h0
          exact ⟨ad, ha, fun j u hu => cell_chg CX (hc j u hu) (by rw [add_block]; exact r2N.out ad ha h0)⟩
        have hT := lost_T HMAY.out HY.out HL.out q
        have bXH := Hid.intro bX
        have BXH := Hid.intro BX
        have rXH := Hid.intro rX
        have DH := Hid.intro D
        have HT := Hid.intro hT
        clear bX BX rX D hT hM hLL SX CX b2H B2H r2H r2N
        generalize cntT q t = ct at hcl DH HT ⊢
        go_wp2_with fail
        refine DH.out.mono ?_
        rintro e w3 ⟨v3, rfl, R3, B3⟩
        have b3 := (B3.block _ (lt_of_heap bXH.out)).trans bXH.out
        have B3w := BXH.out.trans (B3.mono BXH.out.size)
        have r3 := rXH.out.below B3
        clear c0 c1 c2 DH bXH BXH rXH B3
        have c0 : w3.cell? ⟨w.heap.size, 0, none⟩ = some (.int .i64 (K : Int)) := by rw [cell_of_row _ _ 0 _ _ _ b3]; rfl
        by_cases hck : K ≤ ct
        · have j1 : decide ((ct : Int) < (K : Int)) = false := by simp; omega
          rw [if_pos hck]
          rw [HT.out hck] at R3
          obtain ⟨a3, p3, rfl, R3, _, _⟩ := R3
          have S4 := Hid.intro (same_true a3 a p3 cap bs (by omega) w3 R3 r3)
          have B3H := Hid.intro B3w
          clear b3 B3w r3 R3
          go_wp2_with fail
          refine S4.out.mono ?_
          rintro e w5 ⟨rfl, q5, rfl⟩
          go_wp2
          go_ret
          exact ⟨rfl, belowN B3H.out q5⟩
        · have j1 : decide ((ct : Int) < (K : Int)) = true := by simp; omega
          rw [if_neg hck]
          obtain ⟨a3, p3, rfl, R3, _, _⟩ := R3
          clear b3 r3 R3
          go_wp2
          go_ret
          exact ⟨rfl, B3w⟩
  · have hj : (encE k n s bs.length != 0) = true := by rw [bne_iff_ne]; exact hE
    have eA : encA k n s bs = [] := by unfold encA; rw [if_neg hE]
    rw [eA] at S2
    obtain ⟨a2, p2, rfl⟩ : ∃ a2 p2, v2 = .slice a2 0 p2 := by
      rcases S2 with ⟨_, ao, cp, e, _⟩ | ⟨mb, off, mc, A', C', e, h⟩
      · exact ⟨ao, cp, e⟩
      · exact ⟨_, _, e⟩
    generalize encE k n s bs.length = E at hj ⊢
    clear S2 eA hE b2 r2
    go_wp2
    go_ret
    exact ⟨rfl, B2w⟩

theorem walk (k n s : Int) (a : Option Addr) (len cap : Nat) (zs : List Int) (q : Int) (w : World) (_ : (Lit.int .i64 k).wf = true ∧ (Lit.int .i64 n).wf = true ∧ (Lit.int .i64 s).wf = true) (hz : IsRow .u8 w a len cap zs) (hq : (Lit.int .u16 q).wf = true) :
    Calls Try.prog 6 #[.agg #[.int .i64 k, .int .i64 n, .int .i64 s], .slice a len cap, .int .u16 q] w fun e w' => e = .returned (.bool true) ∧ Below w.heap.size w w' := by
  by_cases h : 200 < len
  · exact walk_far k n s a len cap q w hz.len h
  · obtain ⟨bs, rfl, h1, h2⟩ := hz.bytes
    have hb := bounds_u16 hq
    obtain ⟨Q, rfl⟩ := Int.eq_ofNat_of_zero_le hb.1
    exact walk_near k n s a cap bs Q (by omega) w (by omega) hz.room h1 h2

set_option maxRecDepth 100000 in
theorem lifted (os : Os) (started : os.Started) (H : Type) (enc : TypeId × Value → H) :
    ReturnsInHanded {} Try.checked os 6 .any (Rows.rsBackSpec.pre6 enc Try.prog Try.f6 Rows.rsBackRow.domain false) (Rows.rsBackSpec.post enc Try.prog Try.f6 false true false false) := by
  refine returnsInHanded_of_change (C := Try.checked) own started (by kernel_rfl) Try.func6
    (ChangeSpec.witness6 (enc := enc) (C := Try.checked) false ⟨#[], #[.agg #[.int .i64 0, .int .i64 0, .int .i64 0], .slice none 0 0, .int .u16 0], []⟩ 8 (by kernel_rfl) (by kernel_rfl) (by kernel_rfl) (by kernel_rfl)) ?_
  intro W base args ds gs before hval0 hW hcnd _
  have hval : ∀ (j : Nat) t v, Try.f6.params[j]? = some t → args[j]? = some v → Value.okWide Try.prog W .any base t v := hval0
  have hW' := hW
  obtain ⟨p, q, hA0, hV, rfl, hfz, hnd⟩ := hW
  have hA : DataW.TrodAll enc Try.prog W 0 (fun _ => true) true Try.f6.params.toList args.toList ds p := hA0
  rw [Try.params6] at hA hval
  obtain ⟨v0, vs0, d0, ds0, p0, q0, hargs, rfl, rfl, h0, r0⟩ := trodAll_cons hA
  obtain ⟨v1, vs1, d1, ds1, p1, q1, rfl, rfl, rfl, h1, r1⟩ := trodAll_cons r0
  obtain ⟨v2, vs2, d2, ds2, p2, q2, rfl, rfl, rfl, h2, r2⟩ := trodAll_cons r1
  obtain ⟨rfl, rfl, rfl⟩ := trodAll_nil r2
  obtain rfl : args = #[v0, v1, v2] := by cases args; simp_all
  obtain ⟨rfl, rfl⟩ := trodVars_none hV
  have k0 := h0
  have lt0 : ∀ x ∈ p0, x.block < W.heap.size := by obtain ⟨m, hm⟩ := k0; exact DataW.trod_lt m _ _ _ hm
  obtain ⟨kc0, nc0, sc0, rfl, w0⟩ := open_code (hval 0 23 v0 rfl rfl) h0
  obtain ⟨a1, len1, cap1, rfl⟩ := okWide_slice Try.underlying24 (hval 1 24 v1 rfl rfl)
  have k1 := h1
  have lt1 : ∀ x ∈ p1, x.block < W.heap.size := by obtain ⟨m, hm⟩ := k1; exact DataW.trod_lt m _ _ _ hm
  obtain ⟨z1, w1⟩ : ∃ zs, IsRow .u8 W a1 len1 cap1 zs := by
    obtain ⟨fuel, hf⟩ := h1
    rcases open_ints Try.underlying24 Try.underlying5 (by kernel_rfl) hf with ⟨hcs, _⟩ | ⟨x, l, c, zs, hcs, _, hl, hm, hz, _, hcell, hwz⟩
    · simp [Value.cells] at hcs
      obtain ⟨rfl, rfl, rfl⟩ := hcs
      exact ⟨[], .inl ⟨rfl, rfl, rfl, rfl⟩⟩
    · simp [Value.cells] at hcs
      obtain ⟨rfl, rfl, rfl⟩ := hcs
      exact ⟨zs, .inr ⟨_, rfl, hl, hm, by simpa using hz, hcell, hwz⟩⟩
  obtain ⟨a2, rfl, rfl, rfl, w2⟩ := open_int Try.underlying48 (hval 2 48 v2 rfl rfl) h2
  clear hA0 hval0
  refine (walk kc0 nc0 sc0 a1 len1 cap1 z1 a2 W w0 w1 w2).mono fun e W' ⟨he, bel⟩ => ?_
  subst he
  exact ⟨_, rfl, _, _, _, [], _, [], hW', trodAll_mk1 (shut_bool Try.underlying4 _), (trodAll_cons_mk (Below.trod laidOut (by kernel_rfl) (of_decide_eq_true (by kernel_rfl)) k0 bel lt0) (trodAll_cons_mk (Below.trod laidOut (by kernel_rfl) (of_decide_eq_true (by kernel_rfl)) k1 bel lt1) (trodAll_cons_mk (shut_int Try.underlying48 w2) trodAll_mk0))), rfl, bel.frame _, fun h => by cases h⟩

theorem over : Rows.rsBackRow.holds Try.pinned (OpenSpec.ofChange Rows.rsBackSpec) :=
  OpenClaim.holds_of_wide 6 Try.f6 rfl rfl rfl rfl rfl rfl rfl ⟨rfl, rfl, rfl, rfl, rfl⟩ rfl rfl rfl rfl rfl (by kernel_rfl) Try.func6 (by kernel_rfl)
    (of_decide_eq_true (by kernel_rfl)) (by unfold Func.isWrapper; first | (rw [if_pos (by decide +kernel)]; kernel_rfl) | (rw [if_neg (by decide +kernel)]; exact ⟨rfl, rfl⟩))
    (fun os started H enc _ => lifted os started H enc)

end Go.Proofs.Ytebjkbhidpdpfaa.LRsBack

namespace Go.Proofs.Ytebjkbhidpdpfaa
theorem rsBack_holds : Rows.RsBackSaid := LRsBack.over
#print axioms rsBack_holds
end Go.Proofs.Ytebjkbhidpdpfaa
