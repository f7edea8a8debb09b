/- The statement RecordTurned: a text with one bit turned is none, or is other samples. -/
import Derived.Test.YthbfdfkkacmbhaaDoorRcAlive
import Derived.Test.YthbfdfkkacmbhaaDoorRcLaid
import Derived.Test.YthbfdfkkacmbhaaDoorRcArg
import Derived.Test.YthbfdfkkacmbhaaDoorCodeArg
import Derived.Test.YthbfdfkkacmbhaaDoorAppB
namespace Go.Proofs.YthbfdfkkacmbhaaDoor
open Go.ChangeShapes Go.WideShapes Go.ChangeAt Go.RowKit Go.Joins
open Bt

namespace LRecordTurned

theorem xor_turn (x k : Nat) (hx : x < 256) : ∃ y : Nat, bits .xor .u8 (x : Int) ((2 : Int) ^ (k % 8) % 256) = (y : Int) ∧ y < 256 ∧ y ≠ x := by
  have hk : k % 8 < 8 := Nat.mod_lt _ (by decide)
  have hm : 2 ^ (k % 8) < 256 := Nat.lt_of_lt_of_le (Nat.pow_lt_pow_right (by decide) hk) (by decide)
  have hp : 0 < 2 ^ (k % 8) := Nat.pow_pos (by decide)
  have e : ((2 : Int) ^ (k % 8) % 256) = ((2 ^ (k % 8) : Nat) : Int) := by
    have : ((2 ^ (k % 8) : Nat) : Int) = (2 : Int) ^ (k % 8) := by simp
    rw [← this]; omega
  refine ⟨x ^^^ 2 ^ (k % 8), ?_, Nat.xor_lt_two_pow (n := 8) hx hm, ?_⟩
  · rw [e]; exact u8_xor_nat x _ hx hm
  · intro h
    have : x ^^^ (x ^^^ 2 ^ (k % 8)) = x ^^^ x := by rw [h]
    rw [← Nat.xor_assoc, Nat.xor_self, Nat.zero_xor] at this
    omega

theorem grownT {w w1 w2 : World} {v v' : Value} {B : Nat} (hgrow : w1.grownBy w2 v.ownBlock) (hat : v'.ownBlock = v.ownBlock ∨ v'.ownBlock = some w1.heap.size) (hB : Below B w w1) (hBw : B ≤ w.heap.size) (hv : ∀ k, v.ownBlock = some k → B ≤ k) :
    Below B w w2 ∧ ∀ k, v'.ownBlock = some k → B ≤ k := by
  have hs := hB.size
  refine ⟨hB.grown hgrow (by omega) hv, fun k hk => ?_⟩
  rcases hat with h | h
  · exact hv k (by rw [← h]; exact hk)
  · rw [hk] at h
    have e : k = w1.heap.size := by simpa using h
    omega

theorem ownsT {w : World} {g n c : Nat} {bs : List Nat} (h : w.ownsRow 0 5 1 (.slice (some ⟨g, 0, none⟩) n c) n (bs.map U)) (hn : n = bs.length) : Reads w (some ⟨g, 0, none⟩) bs := by
  subst hn
  obtain ⟨ao, cap, e, hr, _⟩ := row_of_owns h
  simp only [Value.slice.injEq] at e
  rw [e.1]
  exact hr

set_option maxRecDepth 100000 in
set_option maxHeartbeats 4000000 in
theorem walk_main (k n s : Int) (ao : Option Addr) (cap : Nat) (l : List Smp) (hcap : cap ≤ maxLen) (hlc : l.length ≤ cap) (BT : Nat) (hBT : BT < 65536) (w : World) (hwd : WidR w) (h : SmsAt (fun _ => True) w (.slice ao l.length cap) l) :
    Calls Tryd.prog 8 #[Cd k n s, .slice ao l.length cap, .int .u16 (BT : Int)] w fun e w' => e = .returned (.bool true) ∧ Below w.heap.size w w' := by
  have BA := (Below.refl _ w).alloc (Nat.le_refl _) (.cells #[.int .i64 k, .int .i64 n, .int .i64 s] 23)
  have nA := heap_alloc_new w (.cells #[.int .i64 k, .int .i64 n, .int .i64 s] 23)
  have AL := Hid.intro (alive10_any (w.alloc (.cells #[.int .i64 k, .int .i64 n, .int .i64 s] 23)) (hwd.below BA))
  have HWD := Hid.intro hwd
  clear hwd
  have BAH := Hid.intro BA
  have NAH := Hid.intro nA
  have HS := Hid.intro h
  obtain ⟨L, hL⟩ : ∃ L, L = l.length := ⟨_, rfl⟩
  have HL := Hid.intro hL
  rw [← hL] at hlc ⊢
  have hml : L ≤ maxLen := Nat.le_trans hlc hcap
  clear BA nA h hL
  go_enter Tryd.func8, Tryd.ntmps8
  go_wp2_with fail
  refine AL.out.mono ?_
  rintro e w1 ⟨rfl, B1⟩
  have n1 := (B1.block _ (lt_of_heap NAH.out)).trans NAH.out
  have B1H := Hid.intro (BAH.out.trans (B1.mono BAH.out.size))
  have c0 : w1.cell? ⟨w.heap.size, 0, none⟩ = some (.int .i64 k) := by rw [cell_of_row _ _ 0 _ _ _ n1]; rfl
  have c1 : w1.cell? ⟨w.heap.size, 1, none⟩ = some (.int .i64 n) := by rw [cell_of_row _ _ 1 _ _ _ n1]; rfl
  have c2 : w1.cell? ⟨w.heap.size, 2, none⟩ = some (.int .i64 s) := by rw [cell_of_row _ _ 2 _ _ _ n1]; rfl
  clear AL B1 NAH BAH n1
  by_cases hbig : 80 < L
  · have hbig' : (80 : Int) < (L : Int) := by omega
    go_wp2
    go_ret
    exact ⟨rfl, B1H.out⟩
  have hbig' : ¬ (80 : Int) < (L : Int) := by omega
  have h80 : L ≤ 80 := by omega
  clear hbig
  have CP := cpack_any k n s _ ao cap l (by rw [← HL.out]; exact h80) w1 (HWD.out.below B1H.out) (HS.out.below B1H.out)
  rw [← HL.out] at CP
  have CPH := Hid.intro CP
  clear CP
  have PB := Hid.intro (packT_byt (k := k) (n := n) (s := s) (l := l))
  have PF := Hid.intro (packT_few (k := k) (n := n) (s := s) (l := l))
  have PE : Hid (packE k n s l = 0 → 1 ≤ (packT k n s l).length ∧ ∀ bs : List Nat, (∀ b ∈ bs, b < 256) → bs.length = (packT k n s l).length → bs ≠ packT k n s l → parseE bs = 6 ∨ parseL bs ≠ l) := fun h => by
    have q := packT_length h
    have r := (packE_zero h).2.2
    exact ⟨by omega, fun bs h1 h2 h3 => pack_other h h1 h2 h3⟩
  obtain ⟨pe, hpe⟩ : ∃ pe, pe = packE k n s l := ⟨_, rfl⟩
  rw [← hpe] at CPH PE
  obtain ⟨F, hF⟩ : ∃ F, F = packT k n s l := ⟨_, rfl⟩
  rw [← hF] at CPH PB PF PE
  clear hpe hF
  go_wp2_with fail
  refine CPH.out.mono ?_
  rintro e w2 ⟨a2, cc2, rfl, r2, m2, N2, B2⟩
  have BW2 := Hid.intro (B1H.out.trans (B2.mono B1H.out.size))
  have R2 := Hid.intro r2
  have M2 := Hid.intro m2
  clear CPH B2 c0 c1 c2 r2 m2 N2
  obtain ⟨FL, hFL⟩ : ∃ FL, FL = F.length := ⟨_, rfl⟩
  have HFL := Hid.intro hFL
  rw [← hFL] at PF PE ⊢
  clear hFL
  by_cases h0 : pe = 0
  case neg =>
    have j0 : (pe != 0) = true := by rw [bne_iff_ne]; exact h0
    go_wp2
    go_ret
    exact ⟨rfl, BW2.out⟩
  subst h0
  obtain ⟨hF1, OTH⟩ := PE.out rfl
  have HOTH := Hid.intro OTH
  have hF2 : FL ≤ 144 := PF.out
  clear PE OTH
  obtain ⟨bb, off, rfl, hrc⟩ := reads_at R2.out (by rw [← HFL.out]; omega)
  have hcc2 := M2.out.2
  rw [← HFL.out] at hcc2
  obtain ⟨K, hK⟩ : ∃ K : Nat, K = BT % (8 * FL) := ⟨_, rfl⟩
  have hKl : K < 8 * FL := by rw [hK]; exact Nat.mod_lt _ (by omega)
  have hKm : (BT : Int) % (8 * (FL : Int)) = (K : Int) := by rw [hK]; simp
  have hKt : IntKind.i64.wrap ((BT : Int).tmod (8 * (FL : Int))) = (K : Int) := by rw [Int.tmod_eq_emod_of_nonneg (by omega), hKm]; exact IntWalk.i64_in _ (by omega)
  have j8 : ((8 : Int) * (FL : Int) == 0) = false := by simp; omega
  clear hK hrc
  have E1 := Hid.intro (empty_row w2)
  have R3 := Hid.intro (R2.out.below ((Below.refl _ w2).alloc (Nat.le_refl _) (.cells #[] 5)))
  go_wp2_with (at_builtin; refine append_bytes rfl _ _ rfl _ [] rfl E1.out (some ⟨bb, off, none⟩) FL cc2 F HFL.out rfl R3.out (fun e => by cases e) (by simp; rw [← HFL.out]; omega) ?_)
  intro v3 w3 hown hgrow hat
  rw [← HFL.out] at hown
  obtain ⟨Bw3, N3⟩ := grownT hgrow (by rw [World.size_alloc]; exact hat) ((Below.refl _ w2).alloc (Nat.le_refl _) (.cells #[] 5)) (Nat.le_refl _) (fun k hk => by
    have e : w2.heap.size = k := by simpa [Value.ownBlock] using hk
    omega)
  obtain ⟨ac, cc, ev, hfm⟩ := ownsRow_form hown
  obtain ⟨gc, rfl⟩ := hfm.resolve_left (by omega)
  subst ev
  have hgc := N3 gc rfl
  have hcap3 : FL ≤ cc := by
    rcases hown.2 with ⟨h', h0⟩ | ⟨g', cap', _, h', _, _, hn, _⟩
    · omega
    · cases h'; exact hn
  have hq : K / 8 < FL := by omega
  obtain ⟨x, hx⟩ : ∃ x, x = F.getD (K / 8) 0 := ⟨_, rfl⟩
  have hqF : K / 8 < F.length := by rw [← HFL.out]; exact hq
  have hxF : F.getD (K / 8) 0 = F[K / 8] := by simp [hqF]
  have hxb : x < 256 := by rw [hx, hxF]; exact PB.out _ (List.getElem_mem hqF)
  have cC : w3.cell? ⟨gc, K / 8, none⟩ = some (U x) := by
    rw [hx, hown.cellAt _ (by omega), hxF]; simp [hqF]
  have fC : w3.frozen? ⟨gc, K / 8, none⟩ = false := hown.frozenAt _
  obtain ⟨y, hxor, hy, hne⟩ := xor_turn x K hxb
  have RC4 : (w3.setCell ⟨gc, K / 8, none⟩ (U y)).ownsRow 0 5 1 (.slice (some ⟨gc, 0, none⟩) FL cc) FL ((F.set (K / 8) y).map U) := by
    have q := (hown.stored (K / 8) (U y)).1
    rw [List.map_set]; exact q
  have D3 := BW2.out.trans (Bw3.mono BW2.out.size)
  have hgw : w.heap.size ≤ gc := Nat.le_trans BW2.out.size hgc
  have D4 := D3.setCell (p := ⟨gc, K / 8, none⟩) hgw (U y)
  have lset : (F.set (K / 8) y).length = FL := by rw [List.length_set]; exact HFL.out.symm
  have hset : ∀ b ∈ F.set (K / 8) y, b < 256 := fun b hb => by
    rcases List.mem_or_eq_of_mem_set hb with q | q
    · exact PB.out b q
    · omega
  have hneF : F.set (K / 8) y ≠ F := fun q => by
    have : (F.set (K / 8) y)[K / 8]'(by rw [List.length_set]; exact hqF) = F[K / 8] := by congr 1
    rw [List.getElem_set_self] at this
    rw [hx, hxF] at hne
    exact hne this
  have OT := Hid.intro (HOTH.out _ hset lset hneF)
  have CPA := cparse_any (some ⟨gc, 0, none⟩) cc (F.set (K / 8) y) (by rw [lset]; omega) hset (w3.setCell ⟨gc, K / 8, none⟩ (U y)) (HWD.out.below D4) (ownsT RC4 lset.symm) ⟨(fun e => by cases e), by rw [lset]; exact hcap3⟩
  rw [lset] at CPA
  have CPAH := Hid.intro CPA
  have D4H := Hid.intro D4
  have SL := Hid.intro (HS.out.below D4)
  have PFW := Hid.intro (parseL_few (bs := F.set (K / 8) y) (by rw [lset]; omega))
  clear hgrow hat E1 R3 hown Bw3 N3 D3 hgc hx CPA D4 hset RC4 HOTH hneF lset hxF hqF R2
  generalize F.set (K / 8) y = F1 at OT CPAH PFW
  obtain ⟨XL, hXL⟩ : ∃ XL, XL = parseL F1 := ⟨_, rfl⟩
  rw [← hXL] at OT CPAH PFW
  obtain ⟨XE, hXE⟩ : ∃ XE, XE = parseE F1 := ⟨_, rfl⟩
  rw [← hXE] at OT CPAH
  clear hXL hXE
  go_wp2_with fail
  rw [hKm]
  clear hKm hKt
  go_wp2_with fail
  refine CPAH.out.mono ?_
  rintro e w5 ⟨a5, c5, rfl, s5, _, _, B5⟩
  have BW5 := Hid.intro (D4H.out.trans (B5.mono D4H.out.size))
  have S5 := Hid.intro s5
  have SL5 := Hid.intro (SL.out.below B5)
  clear CPAH D4H SL B5 s5 hxor cC fC
  obtain ⟨XN, hXN⟩ : ∃ XN, XN = XL.length := ⟨_, rfl⟩
  have HXN := Hid.intro hXN
  rw [← hXN] at PFW ⊢
  clear hXN
  by_cases h6 : XE = 6
  · subst h6
    clear OT
    go_wp2
    go_ret
    exact ⟨rfl, BW5.out⟩
  · have hne2 : XL ≠ l := OT.out.resolve_left h6
    have CS := csame_any _ _ (.slice a5 XL.length c5) (.slice ao l.length cap) XL l (by rw [← HXN.out]; have := PFW.out; omega) (by rw [← HL.out]; omega) w5 S5.out SL5.out
    rw [decide_eq_false hne2, ← HXN.out, ← HL.out] at CS
    have CSH := Hid.intro CS
    have j6 : (XE == 6) = false := by simpa using h6
    clear OT hne2 CS S5 SL5
    go_wp2_with fail
    refine CSH.out.mono ?_
    rintro e w6 ⟨rfl, B6⟩
    have BW6 := Hid.intro (BW5.out.trans (B6.mono BW5.out.size))
    clear CSH B6
    go_wp2
    go_ret
    exact ⟨rfl, BW6.out⟩

theorem walk (k n s : Int) (ao : Option Addr) (len cap : Nat) (l : List Smp) (bt : Int) (w : World) (_ : (Lit.int .i64 k).wf = true ∧ (Lit.int .i64 n).wf = true ∧ (Lit.int .i64 s).wf = true) (hz : l.length = len ∧ SmsAt (fun _ => True) w (.slice ao len cap) l ∧ len ≤ cap ∧ cap ≤ maxLen ∧ (ao = none → cap = 0)) (hb : (Lit.int .u16 bt).wf = true) (hwd : WidR w) :
    Calls Tryd.prog 8 #[Cd k n s, .slice ao len cap, .int .u16 bt] w fun e w' => e = .returned (.bool true) ∧ Below w.heap.size w w' := by
  obtain ⟨hl, hr, hlc, hmx, _⟩ := hz
  subst hl
  have hbit := bounds_u16 hb
  obtain ⟨BT, rfl⟩ := Int.eq_ofNat_of_zero_le hbit.1
  exact walk_main k n s ao cap l hmx hlc BT (by omega) w hwd hr

set_option maxRecDepth 100000 in
theorem lifted (os : Os) (started : os.Started) (H : Type) (enc : TypeId × Value → H) :
    ReturnsInHanded {} Tryd.checked os 8 .any (fun w args => (Rows.recordTurnedSpec.pre enc Tryd.prog Tryd.f8 [] false w args ∧ laidMetH Tryd.prog LW w) ∧ sizedMet enc Tryd.prog Tryd.f8 (OpenSpec.ofChange Rows.recordTurnedSpec) false w args) (Rows.recordTurnedSpec.post enc Tryd.prog Tryd.f8 false true false false) := by
  refine returnsInHanded_of_change_and (C := Tryd.checked) (X := fun w _ => laidMetH Tryd.prog LW w) (fun _ _ _ hh h => h.of_heap hh) own started (by kernel_rfl) Tryd.func8
    (ChangeSpec.witness_shaped (enc := enc) (C := Tryd.checked) (os := os) (X := fun w _ => laidMetH Tryd.prog LW w) false (World.doorLaid Tryd.prog 400 os) #[.agg #[.int .i64 0, .int .i64 0, .int .i64 0], .slice none 0 0, .int .u16 0] 8 rfl (World.shaped_of_RefB (by kernel_rfl) (by kernel_rfl)) (by kernel_rfl) (by kernel_rfl) (by kernel_rfl) (door_met os _)) ?_
  intro W base args ds gs before hval0 hW _ _ hL _
  have hval : ∀ (j : Nat) t v, Tryd.f8.params[j]? = some t → args[j]? = some v → Value.okWide Tryd.prog W .any base t v := hval0
  have hW' := hW
  obtain ⟨p, q, hA0, hV, rfl, hfz, hnd⟩ := hW
  have hA : DataW.TrodAll enc Tryd.prog W 0 (fun _ => true) true Tryd.f8.params.toList args.toList ds p := hA0
  rw [Tryd.params8] at hA hval
  obtain ⟨v0, vs0, d0, ds0, p0, q0, hargs, rfl, rfl, h0, r0⟩ := trodAll_cons hA
  obtain ⟨v1, vs1, d1, ds1, p1, q1, rfl, rfl, rfl, h1, r1⟩ := trodAll_cons r0
  obtain ⟨v2, vs2, d2, ds2, p2, q2, rfl, rfl, rfl, h2, r2⟩ := trodAll_cons r1
  obtain ⟨rfl, rfl, rfl⟩ := trodAll_nil r2
  obtain rfl : args = #[v0, v1, v2] := by cases args; simp_all
  obtain ⟨rfl, rfl⟩ := trodVars_none hV
  have k0 := h0
  have lt0 : ∀ x ∈ p0, x.block < W.heap.size := by obtain ⟨m, hm⟩ := k0; exact DataW.trod_lt m _ _ _ hm
  obtain ⟨kc0, nc0, sc0, rfl, w0⟩ := open_code (hval 0 23 v0 rfl rfl) h0
  have k1 := h1
  have lt1 : ∀ x ∈ p1, x.block < W.heap.size := by obtain ⟨m, hm⟩ := k1; exact DataW.trod_lt m _ _ _ hm
  obtain ⟨a1, len1, cap1, rfl⟩ := okWide_slice Tryd.underlying24 (hval 1 24 v1 rfl rfl)
  obtain ⟨z1, w1⟩ := open_samples h1
  obtain ⟨a2, rfl, rfl, rfl, w2⟩ := open_int Tryd.underlying48 (hval 2 48 v2 rfl rfl) h2
  clear hA0 hval0
  refine (walk kc0 nc0 sc0 a1 len1 cap1 z1 a2 W w0 w1 w2 (laid_fact hL)).mono fun e W' ⟨he, bel⟩ => ?_
  subst he
  exact ⟨_, rfl, _, _, _, [], _, [], hW', trodAll_mk1 (shut_bool Tryd.underlying4 _), (trodAll_cons_mk (Below.trod laidOut (by kernel_rfl) (of_decide_eq_true (by kernel_rfl)) k0 bel lt0) (trodAll_cons_mk (Below.trod laidOut (by kernel_rfl) (of_decide_eq_true (by kernel_rfl)) k1 bel lt1) (trodAll_cons_mk (shut_int Tryd.underlying48 w2) trodAll_mk0))), rfl, bel.frame _, fun h => by cases h⟩

theorem over : Rows.recordTurnedRow.holds Tryd.pinned (OpenSpec.ofChange Rows.recordTurnedSpec) :=
  OpenClaim.holds_of_wide 8 Tryd.f8 rfl rfl rfl rfl rfl rfl rfl ⟨rfl, rfl, rfl, rfl, rfl⟩ rfl rfl rfl rfl rfl (by kernel_rfl) Tryd.func8 (by kernel_rfl)
    (of_decide_eq_true (by kernel_rfl)) (by unfold Func.isWrapper; first | (rw [if_pos (by decide +kernel)]; kernel_rfl) | (rw [if_neg (by decide +kernel)]; exact ⟨rfl, rfl⟩))
    (fun os started H enc _ => lifted os started H enc)

end Go.Proofs.YthbfdfkkacmbhaaDoor.LRecordTurned

namespace Go.Proofs.YthbfdfkkacmbhaaDoor
theorem recordTurned_holds : Rows.RecordTurnedCardSaid :=
  Claim7.holds_tied_plain_at .later [] [.data] true (true, "48083bb0b2812a16015da9da29e02053fb694e0cc01e6d6a71d1c29f219818cd") false
    LRecordTurned.over (fun _ h => by cases h) (by kernel_rfl) (fun _ h => by cases h) recordTurned_row_tie rfl ⟨rfl, rfl⟩ (by kernel_rfl) rfl
    (fun f fn hf hfn => by
      obtain rfl : f = 8 := Option.some.inj ((show Tryd.prog.funcNamed "gurney/gurneylaw10.RecordTurned" = some 8 by kernel_rfl).symm.trans hf) |>.symm
      obtain rfl : fn = Tryd.f8 := (Option.some.inj (Tryd.func8.symm.trans hfn)).symm
      exact ⟨by kernel_rfl, fun j t ht => by
        rw [Tryd.params8] at ht
        have hm : t ∈ [23, 24, 48] := by simpa using Array.mem_of_getElem? ht
        have hall : ([23, 24, 48].all fun u => !Tryd.prog.wantsStandIn u) = true := by kernel_rfl
        exact (show Tryd.prog.wantsStandIn t = false by simpa using List.all_eq_true.1 hall t hm)⟩)
    (by kernel_rfl)
#print axioms recordTurned_holds
end Go.Proofs.YthbfdfkkacmbhaaDoor
