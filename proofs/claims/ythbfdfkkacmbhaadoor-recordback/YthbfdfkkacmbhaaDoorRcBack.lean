/- The statement RecordBack: what is packed is parsed again, and what is parsed is packed as what it was. -/
import Derived.Test.YthbfdfkkacmbhaaDoorRcAlive
import Derived.Test.YthbfdfkkacmbhaaDoorRcLaid
import Derived.Test.YthbfdfkkacmbhaaDoorRcArg
import Derived.Test.YthbfdfkkacmbhaaDoorCodeArg
import Derived.Test.YthbfdfkkacmbhaaDoorRefMay
import Derived.Test.YthbfdfkkacmbhaaDoorRefSame
namespace Go.Proofs.YthbfdfkkacmbhaaDoor
open Go.ChangeShapes Go.WideShapes Go.ChangeAt Go.RowKit Go.Joins
open Bt

namespace LRecordBack

theorem belowQ {B : Nat} {w w' : World} (h : Below B w w') (n : Nat) : Below B w (w'.drewN n) := ⟨h.os, h.tape, h.output, h.size, h.block⟩

set_option maxRecDepth 100000 in
set_option maxHeartbeats 4000000 in
theorem walk_main (k n s : Int) (ao : Option Addr) (cap : Nat) (l : List Smp) (hcap : cap ≤ maxLen) (hlc : l.length ≤ cap) (bo : Option Addr) (bc : Nat) (bs : List Nat) (_hbm : bs.length ≤ maxLen) (hY : ∀ y ∈ bs, y < 256) (hro : Room bo bc bs.length) (w : World) (hwd : WidR w) (h : SmsAt (fun _ => True) w (.slice ao l.length cap) l) (hr : Reads w bo bs) :
    Calls Tryd.prog 5 #[Cd k n s, .slice ao l.length cap, .slice bo bs.length bc] w fun e w' => e = .returned (.bool true) ∧ Below w.heap.size w w' := by
  have BA := (Below.refl _ w).alloc (Nat.le_refl _) (.cells #[.int .i64 k, .int .i64 n, .int .i64 s] 23)
  have nA := heap_alloc_new w (.cells #[.int .i64 k, .int .i64 n, .int .i64 s] 23)
  have AL := Hid.intro (alive10_any (w.alloc (.cells #[.int .i64 k, .int .i64 n, .int .i64 s] 23)) (hwd.below BA))
  have HWD := Hid.intro hwd
  clear hwd
  have BAH := Hid.intro BA
  have NAH := Hid.intro nA
  have HS := Hid.intro h
  obtain ⟨L, hL⟩ : ∃ L, L = l.length := ⟨_, rfl⟩
  have HL := Hid.intro hL
  rw [← hL] at hlc ⊢
  obtain ⟨LB, hLB⟩ : ∃ LB, LB = bs.length := ⟨_, rfl⟩
  have HLB := Hid.intro hLB
  have HRD := Hid.intro hr
  have HY := Hid.intro hY
  have HRO := Hid.intro hro
  rw [← hLB] at _hbm ⊢
  have hml : L ≤ maxLen := Nat.le_trans hlc hcap
  clear BA nA h hL hLB hr hY hro
  go_enter Tryd.func5, Tryd.ntmps5
  go_wp2_with fail
  refine AL.out.mono ?_
  rintro e w1 ⟨rfl, B1⟩
  have n1 := (B1.block _ (lt_of_heap NAH.out)).trans NAH.out
  have B1H := Hid.intro (BAH.out.trans (B1.mono BAH.out.size))
  have c0 : w1.cell? ⟨w.heap.size, 0, none⟩ = some (.int .i64 k) := by rw [cell_of_row _ _ 0 _ _ _ n1]; rfl
  have c1 : w1.cell? ⟨w.heap.size, 1, none⟩ = some (.int .i64 n) := by rw [cell_of_row _ _ 1 _ _ _ n1]; rfl
  have c2 : w1.cell? ⟨w.heap.size, 2, none⟩ = some (.int .i64 s) := by rw [cell_of_row _ _ 2 _ _ _ n1]; rfl
  clear AL B1 NAH BAH n1
  by_cases hbig : 80 < L
  · have hbig' : (80 : Int) < (L : Int) := by omega
    go_wp2
    go_ret
    exact ⟨rfl, B1H.out⟩
  have hbig' : ¬ (80 : Int) < (L : Int) := by omega
  have h80 : L ≤ 80 := by omega
  by_cases hbig2 : 300 < LB
  · have hbig2' : (300 : Int) < (LB : Int) := by omega
    go_wp2
    go_ret
    exact ⟨rfl, B1H.out⟩
  have hbig2' : ¬ (300 : Int) < (LB : Int) := by omega
  have h300 : LB ≤ 300 := by omega
  clear hbig hbig2
  have CP := cpack_any k n s _ ao cap l (by rw [← HL.out]; exact h80) w1 (HWD.out.below B1H.out) (HS.out.below B1H.out)
  rw [← HL.out] at CP
  have CPH := Hid.intro CP
  clear CP
  have YES : Hid (packE k n s l = 0 → parseE (packT k n s l) = 0 ∧ parseL (packT k n s l) = l ∧ ((packT k n s l).length : Int) = k * s ∧ mayC k n s = true) := fun h => ⟨parseE_zero.2 (packT_parse h).1, (packT_parse h).2, packT_length h, (packE_zero h).1⟩
  obtain ⟨pe, hpe⟩ : ∃ pe, pe = packE k n s l := ⟨_, rfl⟩
  rw [← hpe] at CPH YES
  have PB := Hid.intro (packT_byt (k := k) (n := n) (s := s) (l := l))
  have PF := Hid.intro (packT_few (k := k) (n := n) (s := s) (l := l))
  obtain ⟨F, hF⟩ : ∃ F, F = packT k n s l := ⟨_, rfl⟩
  rw [← hF] at CPH YES PB PF
  obtain ⟨FL, hFL⟩ : ∃ FL, FL = F.length := ⟨_, rfl⟩
  have HFL := Hid.intro hFL
  rw [← hFL] at YES
  have PRB := Hid.intro (fun (W : World) (hB : Below w.heap.size w W) => cparse_any bo bc bs (by rw [← HLB.out]; exact h300) HY.out W (HWD.out.below hB) (HRD.out.below hB) HRO.out)
  rw [← HLB.out] at PRB
  have MA := Hid.intro (fun W => refMay_any k n s W)
  have AGAIN : Hid (parseE bs = 0 → mayC k n s = true → k * s = (LB : Int) → packE k n s (parseL bs) = 0 ∧ packT k n s (parseL bs) = bs) := fun h1 h2 h3 => parse_pack (parseE_zero.1 h1) HY.out h2 (by rw [h3, HLB.out])
  have XF := Hid.intro (parseL_few (bs := bs) (by rw [← HLB.out]; exact h300))
  obtain ⟨XE, hXE⟩ : ∃ XE, XE = parseE bs := ⟨_, rfl⟩
  obtain ⟨X, hX⟩ : ∃ X, X = parseL bs := ⟨_, rfl⟩
  rw [← hXE, ← hX] at PRB AGAIN
  rw [← hX] at XF
  clear hpe hF hXE hX
  go_wp2_with fail
  refine CPH.out.mono ?_
  rintro e w2 ⟨a2, cc2, rfl, r2, m2, _, B2⟩
  have BW2 := Hid.intro (B1H.out.trans (B2.mono B1H.out.size))
  have R2 := Hid.intro r2
  have M2 := Hid.intro m2
  have d0 := cellM B2 c0
  have d1 := cellM B2 c1
  have d2 := cellM B2 c2
  rw [← hFL]
  clear CPH B2 c0 c1 c2 r2 m2 hFL
  by_cases h0 : pe = 0
  · subst h0
    obtain ⟨y1, y2, y3, y4⟩ := YES.out rfl
    have hm := mayC_true y4
    have P4 := cparse_any a2 cc2 F (by have := PF.out; omega) PB.out w2 (HWD.out.below BW2.out) R2.out M2.out
    rw [y1, y2, ← HFL.out, ← HL.out] at P4
    have P4H := Hid.intro P4
    have Y3 := Hid.intro y3
    have Y4 := Hid.intro y4
    have PFL : Hid (FL ≤ 144) := by rw [Hid, HFL.out]; exact PF.out
    clear P4 YES PB PF R2 M2 y1 y2 y3 y4
    go_wp2_with fail
    refine P4H.out.mono ?_
    rintro e w3 ⟨a3, c3, rfl, s3, _, _, B3⟩
    have BW3 := Hid.intro (BW2.out.trans (B3.mono BW2.out.size))
    have e0 := cellM B3 d0
    have e1 := cellM B3 d1
    have e2 := cellM B3 d2
    have CS := csame_any _ _ (.slice ao l.length cap) (.slice a3 L c3) l l (by rw [← HL.out]; omega) (by rw [← HL.out]; omega) w3 (HS.out.below BW3.out) s3
    rw [decide_eq_true rfl, ← HL.out] at CS
    have CSH := Hid.intro CS
    clear P4H B3 d0 d1 d2 CS s3 BW2
    go_wp2_with fail
    refine CSH.out.mono ?_
    rintro e w4 ⟨rfl, B4⟩
    have BW4 := Hid.intro (BW3.out.trans (B4.mono BW3.out.size))
    have h0' := cellM B4 e0
    have h1' := cellM B4 e1
    have h2' := cellM B4 e2
    have hfw : IntKind.i64.wrap (k * s) = (FL : Int) := by rw [← Y3.out]; exact IntWalk.i64_in _ (by have := PFL.out; omega)
    clear CSH B4 e0 e1 e2 BW3
    go_wp2_with fail
    clear hfw
    refine (PRB.out _ BW4.out).mono ?_
    rintro e w5 ⟨a5, c5, rfl, s5, hc5, _, B5⟩
    have BW5 := Hid.intro (BW4.out.trans (B5.mono BW4.out.size))
    have f0 := cellM B5 h0'
    have f1 := cellM B5 h1'
    have f2 := cellM B5 h2'
    have S5 := Hid.intro s5
    obtain ⟨XN, hXN⟩ : ∃ XN, XN = X.length := ⟨_, rfl⟩
    have HXN := Hid.intro hXN
    rw [← hXN] at XF hc5 ⊢
    clear PRB B5 s5 h0' h1' h2' hXN
    by_cases hx : XE = 0
    case neg =>
      have j0 : (XE != 0) = true := by rw [bne_iff_ne]; exact hx
      go_wp2
      go_ret
      exact ⟨rfl, BW5.out⟩
    subst hx
    go_wp2_with fail
    refine (MA.out _).mono ?_
    rintro e w6 ⟨rfl, B6⟩
    have BW6 := Hid.intro (BW5.out.trans (B6.mono BW5.out.size))
    have g0 := cellM B6 f0
    have g1 := cellM B6 f1
    have g2 := cellM B6 f2
    have S6 := Hid.intro (S5.out.below B6)
    clear MA B6 f0 f1 f2 S5 BW5
    cases hmy : mayC k n s with
    | false =>
      go_wp2
      go_ret
      exact ⟨rfl, BW6.out⟩
    | true =>
      have hmm := mayC_true hmy
      have hks : 0 ≤ k * s ∧ k * s ≤ 144 := by
        have a1 : k * s ≤ 6 * s := Int.mul_le_mul_of_nonneg_right hmm.2.1 (by omega)
        have a2 : 0 ≤ k * s := Int.mul_nonneg (by omega) (by omega)
        omega
      have AG := Hid.intro (AGAIN.out trivial hmy)
      obtain ⟨p, hp⟩ : ∃ p, p = k * s := ⟨_, rfl⟩
      have hwq : IntKind.i64.wrap (k * s) = p := by rw [hp]; exact IntWalk.i64_in _ (by omega)
      have HP := Hid.intro hp
      rw [← hp] at AG hks
      clear hp hmy AGAIN hmm
      by_cases hpl : p = (LB : Int)
      case neg =>
        have j2 : (p != (LB : Int)) = true := by rw [bne_iff_ne]; exact hpl
        go_wp2
        go_ret
        exact ⟨rfl, BW6.out⟩
      obtain ⟨v1, v2⟩ := AG.out hpl
      have hX80 : X.length ≤ 80 := by
        have q := (packE_zero v1).2.2
        rw [← HP.out] at q
        omega
      have CP2 := cpack_any k n s _ a5 c5 X hX80 w6 (HWD.out.below BW6.out) S6.out
      rw [v1, v2, ← HXN.out, ← HLB.out] at CP2
      have CP2H := Hid.intro CP2
      clear AG v1 v2 CP2 S6
      go_wp2_with fail
      refine CP2H.out.mono ?_
      rintro e w7 ⟨a7, c7, rfl, r7, _, _, B7⟩
      have BW7 := Hid.intro (BW6.out.trans (B7.mono BW6.out.size))
      have SB := same_true a7 bo c7 bc bs (by rw [← HLB.out]; omega) w7 r7 (HRD.out.below BW7.out)
      rw [← HLB.out] at SB
      have SBH := Hid.intro SB
      clear CP2H B7 r7 SB
      go_wp2_with fail
      refine SBH.out.mono ?_
      rintro e w8 ⟨rfl, q8, rfl⟩
      have BW8 := Hid.intro (belowQ BW7.out q8)
      clear SBH
      go_wp2
      go_ret
      exact ⟨rfl, BW8.out⟩
  · have j0 : (pe == 0) = false := by simpa using h0
    clear YES PB PF R2 M2
    go_wp2_with fail
    refine (PRB.out _ BW2.out).mono ?_
    rintro e w5 ⟨a5, c5, rfl, s5, hc5, _, B5⟩
    have BW5 := Hid.intro (BW2.out.trans (B5.mono BW2.out.size))
    have f0 := cellM B5 d0
    have f1 := cellM B5 d1
    have f2 := cellM B5 d2
    have S5 := Hid.intro s5
    obtain ⟨XN, hXN⟩ : ∃ XN, XN = X.length := ⟨_, rfl⟩
    have HXN := Hid.intro hXN
    rw [← hXN] at XF hc5 ⊢
    clear PRB B5 s5 d0 d1 d2 hXN
    by_cases hx : XE = 0
    case neg =>
      have j0 : (XE != 0) = true := by rw [bne_iff_ne]; exact hx
      go_wp2
      go_ret
      exact ⟨rfl, BW5.out⟩
    subst hx
    go_wp2_with fail
    refine (MA.out _).mono ?_
    rintro e w6 ⟨rfl, B6⟩
    have BW6 := Hid.intro (BW5.out.trans (B6.mono BW5.out.size))
    have g0 := cellM B6 f0
    have g1 := cellM B6 f1
    have g2 := cellM B6 f2
    have S6 := Hid.intro (S5.out.below B6)
    clear MA B6 f0 f1 f2 S5 BW5
    cases hmy : mayC k n s with
    | false =>
      go_wp2
      go_ret
      exact ⟨rfl, BW6.out⟩
    | true =>
      have hmm := mayC_true hmy
      have hks : 0 ≤ k * s ∧ k * s ≤ 144 := by
        have a1 : k * s ≤ 6 * s := Int.mul_le_mul_of_nonneg_right hmm.2.1 (by omega)
        have a2 : 0 ≤ k * s := Int.mul_nonneg (by omega) (by omega)
        omega
      have AG := Hid.intro (AGAIN.out trivial hmy)
      obtain ⟨p, hp⟩ : ∃ p, p = k * s := ⟨_, rfl⟩
      have hwq : IntKind.i64.wrap (k * s) = p := by rw [hp]; exact IntWalk.i64_in _ (by omega)
      have HP := Hid.intro hp
      rw [← hp] at AG hks
      clear hp hmy AGAIN hmm
      by_cases hpl : p = (LB : Int)
      case neg =>
        have j2 : (p != (LB : Int)) = true := by rw [bne_iff_ne]; exact hpl
        go_wp2
        go_ret
        exact ⟨rfl, BW6.out⟩
      obtain ⟨v1, v2⟩ := AG.out hpl
      have hX80 : X.length ≤ 80 := by
        have q := (packE_zero v1).2.2
        rw [← HP.out] at q
        omega
      have CP2 := cpack_any k n s _ a5 c5 X hX80 w6 (HWD.out.below BW6.out) S6.out
      rw [v1, v2, ← HXN.out, ← HLB.out] at CP2
      have CP2H := Hid.intro CP2
      clear AG v1 v2 CP2 S6
      go_wp2_with fail
      refine CP2H.out.mono ?_
      rintro e w7 ⟨a7, c7, rfl, r7, _, _, B7⟩
      have BW7 := Hid.intro (BW6.out.trans (B7.mono BW6.out.size))
      have SB := same_true a7 bo c7 bc bs (by rw [← HLB.out]; omega) w7 r7 (HRD.out.below BW7.out)
      rw [← HLB.out] at SB
      have SBH := Hid.intro SB
      clear CP2H B7 r7 SB
      go_wp2_with fail
      refine SBH.out.mono ?_
      rintro e w8 ⟨rfl, q8, rfl⟩
      have BW8 := Hid.intro (belowQ BW7.out q8)
      clear SBH
      go_wp2
      go_ret
      exact ⟨rfl, BW8.out⟩

theorem walk (k n s : Int) (ao : Option Addr) (len cap : Nat) (l : List Smp) (bo : Option Addr) (bl bc : Nat) (zs : List Int) (w : World) (_ : (Lit.int .i64 k).wf = true ∧ (Lit.int .i64 n).wf = true ∧ (Lit.int .i64 s).wf = true) (hz : l.length = len ∧ SmsAt (fun _ => True) w (.slice ao len cap) l ∧ len ≤ cap ∧ cap ≤ maxLen ∧ (ao = none → cap = 0)) (hb : IsRow .u8 w bo bl bc zs) (hwd : WidR w) :
    Calls Tryd.prog 5 #[Cd k n s, .slice ao len cap, .slice bo bl bc] w fun e w' => e = .returned (.bool true) ∧ Below w.heap.size w w' := by
  obtain ⟨hl, hr, hlc, hmx, _⟩ := hz
  subst hl
  have hro := hb.room
  have _hbm := hb.len
  obtain ⟨bs, rfl, h1, h2⟩ := hb.bytes
  exact walk_main k n s ao cap l hmx hlc bo bc bs _hbm h1 hro w hwd hr h2

set_option maxRecDepth 100000 in
theorem lifted (os : Os) (started : os.Started) (H : Type) (enc : TypeId × Value → H) :
    ReturnsInHanded {} Tryd.checked os 5 .any (fun w args => (Rows.recordBackSpec.pre enc Tryd.prog Tryd.f5 [] false w args ∧ laidMetH Tryd.prog LW w) ∧ sizedMet enc Tryd.prog Tryd.f5 (OpenSpec.ofChange Rows.recordBackSpec) false w args) (Rows.recordBackSpec.post enc Tryd.prog Tryd.f5 false true false false) := by
  refine returnsInHanded_of_change_and (C := Tryd.checked) (X := fun w _ => laidMetH Tryd.prog LW w) (fun _ _ _ hh h => h.of_heap hh) own started (by kernel_rfl) Tryd.func5
    (ChangeSpec.witness_shaped (enc := enc) (C := Tryd.checked) (os := os) (X := fun w _ => laidMetH Tryd.prog LW w) false (World.doorLaid Tryd.prog 400 os) #[.agg #[.int .i64 0, .int .i64 0, .int .i64 0], .slice none 0 0, .slice none 0 0] 8 rfl (World.shaped_of_RefB (by kernel_rfl) (by kernel_rfl)) (by kernel_rfl) (by kernel_rfl) (by kernel_rfl) (door_met os _)) ?_
  intro W base args ds gs before hval0 hW _ _ hL _
  have hval : ∀ (j : Nat) t v, Tryd.f5.params[j]? = some t → args[j]? = some v → Value.okWide Tryd.prog W .any base t v := hval0
  have hW' := hW
  obtain ⟨p, q, hA0, hV, rfl, hfz, hnd⟩ := hW
  have hA : DataW.TrodAll enc Tryd.prog W 0 (fun _ => true) true Tryd.f5.params.toList args.toList ds p := hA0
  rw [Tryd.params5] at hA hval
  obtain ⟨v0, vs0, d0, ds0, p0, q0, hargs, rfl, rfl, h0, r0⟩ := trodAll_cons hA
  obtain ⟨v1, vs1, d1, ds1, p1, q1, rfl, rfl, rfl, h1, r1⟩ := trodAll_cons r0
  obtain ⟨v2, vs2, d2, ds2, p2, q2, rfl, rfl, rfl, h2, r2⟩ := trodAll_cons r1
  obtain ⟨rfl, rfl, rfl⟩ := trodAll_nil r2
  obtain rfl : args = #[v0, v1, v2] := by cases args; simp_all
  obtain ⟨rfl, rfl⟩ := trodVars_none hV
  have k0 := h0
  have lt0 : ∀ x ∈ p0, x.block < W.heap.size := by obtain ⟨m, hm⟩ := k0; exact DataW.trod_lt m _ _ _ hm
  obtain ⟨kc0, nc0, sc0, rfl, w0⟩ := open_code (hval 0 23 v0 rfl rfl) h0
  have k1 := h1
  have lt1 : ∀ x ∈ p1, x.block < W.heap.size := by obtain ⟨m, hm⟩ := k1; exact DataW.trod_lt m _ _ _ hm
  obtain ⟨a1, len1, cap1, rfl⟩ := okWide_slice Tryd.underlying24 (hval 1 24 v1 rfl rfl)
  obtain ⟨z1, w1⟩ := open_samples h1
  obtain ⟨a2, len2, cap2, rfl⟩ := okWide_slice Tryd.underlying30 (hval 2 30 v2 rfl rfl)
  have k2 := h2
  have lt2 : ∀ x ∈ p2, x.block < W.heap.size := by obtain ⟨m, hm⟩ := k2; exact DataW.trod_lt m _ _ _ hm
  obtain ⟨z2, w2⟩ : ∃ zs, IsRow .u8 W a2 len2 cap2 zs := by
    obtain ⟨fuel, hf⟩ := h2
    rcases open_ints Tryd.underlying30 Tryd.underlying5 (by kernel_rfl) hf with ⟨hcs, _⟩ | ⟨x, l, c, zs, hcs, _, hl, hm, hz, _, hcell, hwz⟩
    · simp [Value.cells] at hcs
      obtain ⟨rfl, rfl, rfl⟩ := hcs
      exact ⟨[], .inl ⟨rfl, rfl, rfl, rfl⟩⟩
    · simp [Value.cells] at hcs
      obtain ⟨rfl, rfl, rfl⟩ := hcs
      exact ⟨zs, .inr ⟨_, rfl, hl, hm, by simpa using hz, hcell, hwz⟩⟩
  clear hA0 hval0
  refine (walk kc0 nc0 sc0 a1 len1 cap1 z1 a2 len2 cap2 z2 W w0 w1 w2 (laid_fact hL)).mono fun e W' ⟨he, bel⟩ => ?_
  subst he
  exact ⟨_, rfl, _, _, _, [], _, [], hW', trodAll_mk1 (shut_bool Tryd.underlying4 _), (trodAll_cons_mk (Below.trod laidOut (by kernel_rfl) (of_decide_eq_true (by kernel_rfl)) k0 bel lt0) (trodAll_cons_mk (Below.trod laidOut (by kernel_rfl) (of_decide_eq_true (by kernel_rfl)) k1 bel lt1) (trodAll_cons_mk (Below.trod laidOut (by kernel_rfl) (of_decide_eq_true (by kernel_rfl)) k2 bel lt2) trodAll_mk0))), rfl, bel.frame _, fun h => by cases h⟩

theorem over : Rows.recordBackRow.holds Tryd.pinned (OpenSpec.ofChange Rows.recordBackSpec) :=
  OpenClaim.holds_of_wide 5 Tryd.f5 rfl rfl rfl rfl rfl rfl rfl ⟨rfl, rfl, rfl, rfl, rfl⟩ rfl rfl rfl rfl rfl (by kernel_rfl) Tryd.func5 (by kernel_rfl)
    (of_decide_eq_true (by kernel_rfl)) (by unfold Func.isWrapper; first | (rw [if_pos (by decide +kernel)]; kernel_rfl) | (rw [if_neg (by decide +kernel)]; exact ⟨rfl, rfl⟩))
    (fun os started H enc _ => lifted os started H enc)

end Go.Proofs.YthbfdfkkacmbhaaDoor.LRecordBack

namespace Go.Proofs.YthbfdfkkacmbhaaDoor
theorem recordBack_holds : Rows.RecordBackCardSaid :=
  Claim7.holds_tied_plain_at .later [] [.data] true (true, "48083bb0b2812a16015da9da29e02053fb694e0cc01e6d6a71d1c29f219818cd") false
    LRecordBack.over (fun _ h => by cases h) (by kernel_rfl) (fun _ h => by cases h) recordBack_row_tie rfl ⟨rfl, rfl⟩ (by kernel_rfl) rfl
    (fun f fn hf hfn => by
      obtain rfl : f = 5 := Option.some.inj ((show Tryd.prog.funcNamed "gurney/gurneylaw10.RecordBack" = some 5 by kernel_rfl).symm.trans hf) |>.symm
      obtain rfl : fn = Tryd.f5 := (Option.some.inj (Tryd.func5.symm.trans hfn)).symm
      exact ⟨by kernel_rfl, fun j t ht => by
        rw [Tryd.params5] at ht
        have hm : t ∈ [23, 24, 30] := by simpa using Array.mem_of_getElem? ht
        have hall : ([23, 24, 30].all fun u => !Tryd.prog.wantsStandIn u) = true := by kernel_rfl
        exact (show Tryd.prog.wantsStandIn t = false by simpa using List.all_eq_true.1 hall t hm)⟩)
    (by kernel_rfl)
#print axioms recordBack_holds
end Go.Proofs.YthbfdfkkacmbhaaDoor
