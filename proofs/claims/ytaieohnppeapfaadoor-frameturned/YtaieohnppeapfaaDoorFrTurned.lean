/- FrameTurned (layer 3): of every frame, every bit of its bytes and every cut, in whatever memory: a frame with one bit turned is none, nor one that is cut off, or has a byte more; the table of widths as the program's text lays it. -/
import Derived.Test.YtaieohnppeapfaaDoorFrmAlive
import Derived.Test.YtaieohnppeapfaaDoorFrmLaid
import Derived.Test.YtaieohnppeapfaaDoorFrameArg
import Derived.Test.YtaieohnppeapfaaDoorFrmPut
import Derived.ArgAppend
namespace Go.Proofs.YtaieohnppeapfaaDoor.LFrameTurned
open Go.ChangeShapes Go.WideShapes Go.ChangeAt Go.RowKit
open Bt

theorem reads_cell {w : World} {bb off : Nat} {bs : List Nat} (h : Reads w (some ⟨bb, off, none⟩) bs) (h0 : 0 < bs.length) : w.cell? ⟨bb, off, none⟩ = some (U bs[0]) := by
  obtain ⟨b, o, e, hc⟩ := reads_at h h0
  cases e
  exact hc 0 h0

theorem owns_zero {w : World} {B : Nat} {e : TypeId} {s : Nat} {v : Value} {n : Nat} {xs : List Value} (h : w.ownsRow B e s v n xs) : w.ownsRow 0 e s v n xs := by
  refine ⟨h.1, ?_⟩
  rcases h.2 with h | ⟨g, cap, cur, a, _, r⟩
  · exact .inl h
  · exact .inr ⟨g, cap, cur, a, Nat.zero_le _, r⟩

theorem xor_turn (x k : Nat) (hx : x < 256) : ∃ y : Nat, bits .xor .u8 (x : Int) ((2 : Int) ^ (k % 8) % 256) = (y : Int) ∧ y < 256 ∧ y ≠ x := by
  have hk : k % 8 < 8 := Nat.mod_lt _ (by decide)
  have hm : 2 ^ (k % 8) < 256 := Nat.lt_of_lt_of_le (Nat.pow_lt_pow_right (by decide) hk) (by decide)
  have hp : 0 < 2 ^ (k % 8) := Nat.pow_pos (by decide)
  have e : ((2 : Int) ^ (k % 8) % 256) = ((2 ^ (k % 8) : Nat) : Int) := by
    have : ((2 ^ (k % 8) : Nat) : Int) = (2 : Int) ^ (k % 8) := by simp
    rw [← this]; omega
  refine ⟨x ^^^ 2 ^ (k % 8), ?_, Nat.xor_lt_two_pow (n := 8) hx hm, ?_⟩
  · rw [e]; exact u8_xor_nat x _ hx hm
  · intro h
    have : x ^^^ (x ^^^ 2 ^ (k % 8)) = x ^^^ x := by rw [h]
    rw [← Nat.xor_assoc, Nat.xor_self, Nat.zero_xor] at this
    omega

set_option maxRecDepth 100000 in
set_option maxHeartbeats 4000000 in
theorem walk (tx sq an rs kd : Int) (a : Option Addr) (len cap : Nat) (zs : List Int) (bit cut : Int) (W : World)
    (w0 : (Lit.int .i64 tx).wf = true ∧ (Lit.int .i64 sq).wf = true ∧ (Lit.int .i64 an).wf = true ∧ (Lit.int .i64 rs).wf = true ∧ (Lit.int .i64 kd).wf = true ∧ IsRow .u8 W a len cap zs) (w1 : (Lit.int .u16 bit).wf = true) (w2 : (Lit.int .u8 cut).wf = true) (hw : Wid W) :
    Calls Tryd.prog 6 #[Fr tx sq an rs kd a len cap, .int .u16 bit, .int .u8 cut] W fun e W' => e = .returned (.bool true) ∧ Below W.heap.size W W' := by
  obtain ⟨_, _, _, _, _, h⟩ := w0
  obtain ⟨ds, rfl, h256, hr⟩ := h.bytes
  have hn := Hid.intro h.none_cap
  clear h
  have hbit := bounds_u16 w1
  have hcut := bounds_u8 w2
  obtain ⟨BT, rfl⟩ := Int.eq_ofNat_of_zero_le hbit.1
  obtain ⟨CT, rfl⟩ := Int.eq_ofNat_of_zero_le hcut.1
  clear w1 w2
  have HR := Hid.intro hr
  have H256 := Hid.intro h256
  have BX := (Below.refl _ W).alloc (Nat.le_refl _) (.cells #[.int .i64 tx, .int .i64 sq, .int .i64 an, .int .i64 rs, .int .i64 kd, .slice a ds.length cap] 24)
  have hX := heap_alloc_new W (.cells #[.int .i64 tx, .int .i64 sq, .int .i64 an, .int .i64 rs, .int .i64 kd, .slice a ds.length cap] 24)
  have HW := Hid.intro hw
  clear hr h256 hw
  go_enter Tryd.func6, Tryd.ntmps6
  go_wp2_with fail
  generalize W.alloc (.cells #[.int .i64 tx, .int .i64 sq, .int .i64 an, .int .i64 rs, .int .i64 kd, .slice a ds.length cap] 24) = X at BX hX ⊢
  generalize W.heap.size = bx at hX ⊢
  refine (alive_any X (HW.out.below BX)).mono ?_
  rintro e w1 ⟨rfl, B1⟩
  have D1 := BX.trans (B1.mono BX.size)
  have x1 := (B1.block bx (lt_of_heap hX)).trans hX
  have HX1 := Hid.intro x1
  have HD1 := Hid.intro D1
  clear BX hX B1 D1 x1
  have SP := Hid.intro (put_frame tx sq an rs kd a cap ds hn.out H256.out w1 (HW.out.below HD1.out) (HR.out.below HD1.out))
  go_wp2_with (refine wpList_load_row rfl 24 (.tmp 3) rfl bx rfl 24 #[.int .i64 tx, .int .i64 sq, .int .i64 an, .int .i64 rs, .int .i64 kd, .slice a ds.length cap] (0, 0) _ HX1.out Tryd.underlying24 rfl (by kernel_rfl) ?_)
  refine SP.out.mono ?_
  rintro e w2 ⟨ao, c, rfl, r2, n2, hc2, _, B2⟩
  have D2 := HD1.out.trans (B2.mono HD1.out.size)
  have x2 := (B2.block bx (lt_of_heap HX1.out)).trans HX1.out
  have k5 : w2.cell? ⟨bx, 5, none⟩ = some (.slice a ds.length cap) := by rw [cell_of_row _ _ _ _ _ _ x2]; rfl
  have HD2 := Hid.intro D2
  have HR2 := Hid.intro r2
  clear SP B2 D2 x2 HX1 HD1 r2 n2
  cases hb : isFrm tx sq an rs kd ds.length with
  | false =>
    have e0 : (putF tx sq an rs kd ds).length = 0 := by rw [putF_no hb]; rfl
    rw [e0]
    clear e0 hb HR2 hc2
    go_wp2
    go_ret
    exact ⟨rfl, HD2.out⟩
  | true =>
    have hl := putF_len hb
    have p0 := (put_fields hb).1
    have hFb : ∀ x ∈ putF tx sq an rs kd ds, x < 256 := putF_byte H256.out
    have h60 := (isFrm_iff.1 hb).2.2.2.2.2
    have j60 : decide ((60 : Int) < (ds.length : Int)) = false := by simp; omega
    clear hb
    generalize putF tx sq an rs kd ds = F at hl p0 hFb HR2 hc2 ⊢
    obtain ⟨bb, off, rfl, _⟩ := reads_at HR2.out (by omega)
    generalize hL : F.length = L at hl hc2 ⊢
    have HL := Hid.intro hL
    have HP0 := Hid.intro p0
    have HFB := Hid.intro hFb
    clear hL p0 hFb
    have j0 : ((L : Int) == 0) = false := by simp; omega
    obtain ⟨K, hK⟩ : ∃ K : Nat, K = BT % (8 * L) := ⟨_, rfl⟩
    have hKl : K < 8 * L := by rw [hK]; exact Nat.mod_lt _ (by omega)
    have hKm : (BT : Int) % (8 * (L : Int)) = (K : Int) := by rw [hK]; simp
    clear hK
    have E1 := Hid.intro (empty_row w2)
    have B3 := HD2.out.alloc HD2.out.size (.cells #[] 5)
    have hR3 := Hid.intro (HR2.out.below ((Below.refl _ w2).alloc (Nat.le_refl _) (.cells #[] 5)))
    go_wp2_with (at_builtin; refine append_bytes rfl _ _ rfl _ [] rfl E1.out (some ⟨bb, off, none⟩) L c F HL.out.symm rfl hR3.out (fun e => by cases e) (by simp; rw [HL.out]; omega) ?_)
    intro v3 w3 hown hgrow hat
    clear hKm
    replace hown : w3.ownsRow 0 5 1 v3 F.length (F.map U) := hown
    rw [HL.out] at hown
    obtain ⟨Bw3, N3⟩ := grown_step hgrow (by rw [World.size_alloc]; exact hat) ((Below.refl _ w2).alloc (Nat.le_refl _) (.cells #[] 5)) (Nat.le_refl _) (fun k hk => by
      have e : w2.heap.size = k := by simpa [Value.ownBlock] using hk
      omega)
    have D3 := HD2.out.trans (Bw3.mono HD2.out.size)
    have HF3 := Hid.intro (HR2.out.below Bw3)
    obtain ⟨gc, cc, rfl, _, _⟩ := hown.form (by omega)
    have hgc := N3 gc rfl
    have hcap3 := ownsRow_cap hown
    have RC3 := Hid.intro hown
    have HD3 := Hid.intro D3
    have hgw : W.heap.size ≤ gc := Nat.le_trans HD2.out.size hgc
    have hq : K / 8 < L := by omega
    obtain ⟨x, hx⟩ : ∃ x, x = F.getD (K / 8) 0 := ⟨_, rfl⟩
    have hxb : x < 256 := by rw [hx]; exact getD_byte HFB.out (K / 8)
    have cC : w3.cell? ⟨gc, K / 8, none⟩ = some (U x) := by
      rw [hx, hown.cellAt _ (by omega)]; simp [List.getD_eq_getElem?_getD, HL.out, hq]
    have fC : w3.frozen? ⟨gc, K / 8, none⟩ = false := hown.frozenAt _
    obtain ⟨y, hxor, hy, hne⟩ := xor_turn x K hxb
    have RC4 : Hid ((w3.setCell ⟨gc, K / 8, none⟩ (U y)).ownsRow 0 5 1 (.slice (some ⟨gc, 0, none⟩) L cc) L ((F.set (K / 8) y).map U)) := by
      have q := (hown.stored (K / 8) (U y)).1
      show World.ownsRow _ _ _ _ _ _ _
      rw [List.map_set]; exact q
    have D4 := HD3.out.setCell (p := ⟨gc, K / 8, none⟩) hgw (U y)
    have HF4 := Hid.intro (HF3.out.kept ((Chg.refl (fun k => k = gc) w3).setCell (p := ⟨gc, K / 8, none⟩) (fun _ => rfl) (U y)) (fun ad ha e => by
      cases ha
      have l := cell_lt (reads_cell HR2.out (by rw [HL.out]; omega))
      exact absurd (show bb = gc from e) (by have : bb < w2.heap.size := l; omega)))
    have HE1 := Hid.intro (frm_turned F HFB.out HP0.out (K / 8) y (by rw [HL.out]; exact hq) hy (by rw [← hx]; exact hne))
    have lset : (F.set (K / 8) y).length = L := by rw [List.length_set]; exact HL.out
    have hset : ∀ b ∈ F.set (K / 8) y, b < 256 := mem_set_byte HFB.out (K / 8) y hy
    have S4 := parse_any (some ⟨gc, 0, none⟩) cc (F.set (K / 8) y) (by omega) (by omega) hcap3.2 hset (w3.setCell ⟨gc, K / 8, none⟩ (U y)) (HW.out.below D4) (owns_reads RC4.out lset.symm)
    rw [lset] at S4
    have HS4 := Hid.intro S4
    have HD4 := Hid.intro D4
    clear hgrow hat E1 hR3 hown Bw3 N3 D3 B3 HD2 HR2 hgc hx S4 D4 hset RC4 RC3 HD3 HF3
    generalize F.set (K / 8) y = F1 at HE1 HS4 lset
    clear lset
    go_wp2_with fail
    clear hxor cC fC
    generalize w3.setCell ⟨gc, K / 8, none⟩ (U y) = W4 at HS4 HD4 HF4 ⊢
    refine HS4.out.mono ?_
    rintro e w5 ⟨B5, h⟩
    rcases h with ⟨hE, rfl⟩ | ⟨hE, _⟩
    case inr => exact absurd hE HE1.out
    generalize parseE F1 = E1 at hE
    have j1 : ((E1 : Int) != 0) = true := by rw [bne_iff_ne]; omega
    clear hE HE1 HS4
    have Bx := B5.alloc B5.size (.cells ZC 24)
    have HF5 := Hid.intro (HF4.out.below Bx)
    have HD5 := Hid.intro (HD4.out.trans (Bx.mono HD4.out.size))
    clear Bx B5 HF4 HD4
    obtain ⟨J, hJ⟩ : ∃ J : Nat, J = CT % L := ⟨_, rfl⟩
    have hJl : J < L := by rw [hJ]; exact Nat.mod_lt _ (by omega)
    have hJm : (CT : Int) % (L : Int) = (J : Int) := by rw [hJ]; simp
    have hJ0 : (0 : Int) ≤ (J : Int) := by omega
    have hJc : (J : Int) ≤ (c : Int) := by omega
    clear hJ
    have ltk : (F.take J).length = J := by rw [List.length_take, HL.out]; omega
    have rtk : Hid (∀ w', Below (w5.alloc (.cells ZC 24)).heap.size (w5.alloc (.cells ZC 24)) w' → Reads w' (some ⟨bb, off, none⟩) (F.take J)) := fun w' hB => by
      have r := reads_part (HF5.out.below hB) 0 J (by rw [HL.out]; omega)
      rwa [List.drop_zero, Nat.add_zero] at r
    have S6 := parse_any (some ⟨bb, off, none⟩) c (F.take J) (by omega) (by omega) hc2.2 (mem_take' HFB.out J) (w5.alloc (.cells ZC 24)) (HW.out.below HD5.out) (rtk.out _ (Below.refl _ _))
    rw [ltk] at S6
    have HE2 := Hid.intro (frm_cut F HP0.out J (by rw [HL.out]; exact hJl))
    have HS6 := Hid.intro S6
    clear S6 rtk ltk
    generalize F.take J = F2 at HE2 HS6
    go_wp2_with fail
    clear hJm
    generalize w5.alloc (.cells ZC 24) = W5 at HS6 HF5 HD5 ⊢
    refine HS6.out.mono ?_
    rintro e w6 ⟨B6, h⟩
    rcases h with ⟨hE, rfl⟩ | ⟨hE, _⟩
    case inr => rcases HE2.out with h | h <;> rw [hE] at h <;> cases h
    have hE2 := HE2.out
    generalize parseE F2 = E2 at hE2
    clear hE HE2 HS6
    have Bx := B6.alloc B6.size (.cells ZC 24)
    have HF6 := Hid.intro (HF5.out.below Bx)
    have HD6 := Hid.intro (HD5.out.trans (Bx.mono HD5.out.size))
    clear Bx B6 HF5 HD5
    have Bz := (Below.refl _ (w6.alloc (.cells ZC 24))).alloc (Nat.le_refl _) (.cells #[U CT] 5)
    have HF7 := Hid.intro (HF6.out.below Bz)
    have HC7 : Hid (((w6.alloc (.cells ZC 24)).alloc (.cells #[U CT] 5)).heap[w6.heap.size + 1]? = some (.cells #[U CT] 5 (0, 0))) := heap_alloc2_new w6 _ _
    have HD7 := Hid.intro (HD6.out.trans (Bz.mono HD6.out.size))
    clear Bz HF6 HD6
    obtain ⟨i, hi, hz0, hz1, hz2⟩ := info_parts info_u8
    have hLc : (L : Int) ≤ (c : Int) := by omega
    go_wp2_with (at_builtin; refine wpList_append_grows _ rfl _ _ 22 rfl 5 i (.int .u8 0) 1 1 Tryd.underlying22 hi hz0 hz1 hz2 rfl (by decide) (some ⟨bb, off, none⟩) L L (F.map U) rfl (fun e => by cases e) (by simp [HL.out]) (fun b e => by cases e; exact news_reads HF7.out) ⟨w6.heap.size + 1, 0, none⟩ 1 1 [U CT] rfl rfl (World.news_of_block (cs := #[U CT]) HC7.out) (by simp [Value.oneCell']) (by omega) (by unfold maxLen; omega) (by omega) ?_)
    intro v8 w8 hown hgrow
    have hown8 : w8.ownsRow 0 5 1 v8 (F ++ [CT]).length ((F ++ [CT]).map U) := by
      rw [List.length_append, HL.out, List.map_append]; exact owns_zero hown
    have D8 := HD7.out.grown hgrow HD7.out.size (fun k hk => by cases hk)
    obtain ⟨a8, c8, rfl, r8, _, hc8, hm8, _⟩ := owned_slice (B := 0) hown8 (fun k _ => Nat.zero_le k)
    have hcb : ∀ b ∈ F ++ [CT], b < 256 := by
      intro b hb
      rcases List.mem_append.1 hb with h | h
      · exact HFB.out b h
      · simp at h; omega
    have lF : (F ++ [CT]).length = L + 1 := by rw [List.length_append, HL.out]; rfl
    have S9 := parse_any a8 c8 (F ++ [CT]) (by omega) hc8 hm8 hcb w8 (HW.out.below D8) r8
    have E9 := frm_more F HP0.out CT
    rw [lF] at S9 ⊢
    have HS9 := Hid.intro S9
    have HE9 := Hid.intro E9
    have HD8 := Hid.intro D8
    clear hown hgrow hown8 D8 r8 hc8 hm8 hcb lF S9 E9 HF7 HC7 HD7
    generalize F ++ [CT] = F3 at HS9 HE9
    go_wp2_with fail
    refine HS9.out.mono ?_
    rintro e w9 ⟨B9, h⟩
    rcases h with ⟨_, rfl⟩ | ⟨hE, _⟩
    case inr => rw [HE9.out] at hE; cases hE
    rw [HE9.out]
    have D9 := HD8.out.trans (B9.mono HD8.out.size)
    have HDA := Hid.intro (D9.alloc D9.size (.cells ZC 24))
    clear HS9 HE9 B9 D9 HD8
    rcases hE2 with rfl | rfl
    · go_wp2
      go_ret
      exact ⟨rfl, HDA.out⟩
    · go_wp2
      go_ret
      exact ⟨rfl, HDA.out⟩

set_option maxRecDepth 100000 in
theorem lifted (os : Os) (started : os.Started) (H : Type) (enc : TypeId × Value → H) :
    ReturnsInHanded {} Tryd.checked os 6 .any (fun w args => (Rows.frameTurnedSpec.pre enc Tryd.prog Tryd.f6 [] false w args ∧ laidMetH Tryd.prog LW w) ∧ sizedMet enc Tryd.prog Tryd.f6 (OpenSpec.ofChange Rows.frameTurnedSpec) false w args) (Rows.frameTurnedSpec.post enc Tryd.prog Tryd.f6 false true false false) := by
  refine returnsInHanded_of_change_and (C := Tryd.checked) (X := fun w _ => laidMetH Tryd.prog LW w) (fun _ _ _ hh h => h.of_heap hh) own started (by kernel_rfl) Tryd.func6
    (ChangeSpec.witness_shaped (enc := enc) (C := Tryd.checked) (os := os) (X := fun w _ => laidMetH Tryd.prog LW w) false (World.doorLaid Tryd.prog 400 os) #[.agg #[.int .i64 0, .int .i64 0, .int .i64 0, .int .i64 0, .int .i64 0, .slice none 0 0], .int .u16 0, .int .u8 0] 8 rfl (World.shaped_of_RefB (by kernel_rfl) (by kernel_rfl)) (by kernel_rfl) (by kernel_rfl) (by kernel_rfl) (door_met os _)) ?_
  intro W base args ds gs before hval0 hW _ _ hL _
  have hval : ∀ (j : Nat) t v, Tryd.f6.params[j]? = some t → args[j]? = some v → Value.okWide Tryd.prog W .any base t v := hval0
  have hW' := hW
  obtain ⟨p, q, hA0, hV, rfl, hfz, hnd⟩ := hW
  have hA : DataW.TrodAll enc Tryd.prog W 0 (fun _ => true) true Tryd.f6.params.toList args.toList ds p := hA0
  rw [Tryd.params6] at hA hval
  obtain ⟨v0, vs0, d0, ds0, p0, q0, hargs, rfl, rfl, h0, r0⟩ := trodAll_cons hA
  obtain ⟨v1, vs1, d1, ds1, p1, q1, rfl, rfl, rfl, h1, r1⟩ := trodAll_cons r0
  obtain ⟨v2, vs2, d2, ds2, p2, q2, rfl, rfl, rfl, h2, r2⟩ := trodAll_cons r1
  obtain ⟨rfl, rfl, rfl⟩ := trodAll_nil r2
  obtain rfl : args = #[v0, v1, v2] := by cases args; simp_all
  obtain ⟨rfl, rfl⟩ := trodVars_none hV
  have k0 := h0
  have lt0 : ∀ x ∈ p0, x.block < W.heap.size := by obtain ⟨m, hm⟩ := k0; exact DataW.trod_lt m _ _ _ hm
  obtain ⟨tx0, sq0, an0, rs0, kd0, a0, len0, cap0, z0, rfl, w0⟩ := open_frame (hval 0 24 v0 rfl rfl) h0
  obtain ⟨a1, rfl, rfl, rfl, w1⟩ := open_int Tryd.underlying38 (hval 1 38 v1 rfl rfl) h1
  obtain ⟨a2, rfl, rfl, rfl, w2⟩ := open_int Tryd.underlying5 (hval 2 5 v2 rfl rfl) h2
  clear hA0 hval0
  refine (walk tx0 sq0 an0 rs0 kd0 a0 len0 cap0 z0 a1 a2 W w0 w1 w2 (laid_fact hL)).mono fun e W' ⟨he, bel⟩ => ?_
  subst he
  exact ⟨_, rfl, _, _, _, [], _, [], hW', trodAll_mk1 (shut_bool Tryd.underlying4 _), (trodAll_cons_mk (Below.trod laidOut (by kernel_rfl) (of_decide_eq_true (by kernel_rfl)) k0 bel lt0) (trodAll_cons_mk (shut_int Tryd.underlying38 w1) (trodAll_cons_mk (shut_int Tryd.underlying5 w2) trodAll_mk0))), rfl, bel.frame _, fun h => by cases h⟩

theorem over : Rows.frameTurnedRow.holds Tryd.pinned (OpenSpec.ofChange Rows.frameTurnedSpec) :=
  OpenClaim.holds_of_wide 6 Tryd.f6 rfl rfl rfl rfl rfl rfl rfl ⟨rfl, rfl, rfl, rfl, rfl⟩ rfl rfl rfl rfl rfl (by kernel_rfl) Tryd.func6 (by kernel_rfl)
    (of_decide_eq_true (by kernel_rfl)) (by unfold Func.isWrapper; first | (rw [if_pos (by decide +kernel)]; kernel_rfl) | (rw [if_neg (by decide +kernel)]; exact ⟨rfl, rfl⟩))
    (fun os started H enc _ => lifted os started H enc)

end Go.Proofs.YtaieohnppeapfaaDoor.LFrameTurned

namespace Go.Proofs.YtaieohnppeapfaaDoor
theorem frameTurned_holds : Rows.FrameTurnedCardSaid :=
  Claim7.holds_tied_plain_at .later [] [.data] true (true, "6bd1dd96be7cf56c0ac1baf81702624cde209933069c32281b4d364c2e018b08") false
    LFrameTurned.over (fun _ h => by cases h) (by kernel_rfl) (fun _ h => by cases h) frameTurned_row_tie rfl ⟨rfl, rfl⟩ (by kernel_rfl) rfl
    (fun f fn hf hfn => by
      obtain rfl : f = 6 := Option.some.inj ((show Tryd.prog.funcNamed "gurney/gurneylaw03.FrameTurned" = some 6 by kernel_rfl).symm.trans hf) |>.symm
      obtain rfl : fn = Tryd.f6 := (Option.some.inj (Tryd.func6.symm.trans hfn)).symm
      exact ⟨by kernel_rfl, fun j t ht => by
        rw [Tryd.params6] at ht
        have hm : t ∈ [24, 38, 5] := by simpa using Array.mem_of_getElem? ht
        have hall : ([24, 38, 5].all fun u => !Tryd.prog.wantsStandIn u) = true := by kernel_rfl
        exact (show Tryd.prog.wantsStandIn t = false by simpa using List.all_eq_true.1 hall t hm)⟩)
    (by kernel_rfl)
#print axioms frameTurned_holds
end Go.Proofs.YtaieohnppeapfaaDoor
