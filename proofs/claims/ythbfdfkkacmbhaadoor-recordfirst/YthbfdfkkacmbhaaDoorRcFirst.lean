/- The statement RecordFirst: the first of samples that fit fit, and are the first that are parsed. -/
import Derived.Test.YthbfdfkkacmbhaaDoorRcAlive
import Derived.Test.YthbfdfkkacmbhaaDoorRcLaid
import Derived.Test.YthbfdfkkacmbhaaDoorRcArg
import Derived.Test.YthbfdfkkacmbhaaDoorCodeArg
namespace Go.Proofs.YthbfdfkkacmbhaaDoor
open Go.ChangeShapes Go.WideShapes Go.ChangeAt Go.RowKit Go.Joins
open Bt

namespace LRecordFirst

set_option maxRecDepth 100000 in
set_option maxHeartbeats 4000000 in
theorem walk_main (k n s : Int) (ao : Option Addr) (cap : Nat) (l : List Smp) (hcap : cap ≤ maxLen) (hlc : l.length ≤ cap) (BT : Nat) (hBT : BT < 256) (w : World) (hwd : WidR w) (h : SmsAt (fun _ => True) w (.slice ao l.length cap) l) :
    Calls Tryd.prog 7 #[Cd k n s, .slice ao l.length cap, .int .u8 (BT : Int)] w fun e w' => e = .returned (.bool true) ∧ Below w.heap.size w w' := by
  have BA := (Below.refl _ w).alloc (Nat.le_refl _) (.cells #[.int .i64 k, .int .i64 n, .int .i64 s] 23)
  have nA := heap_alloc_new w (.cells #[.int .i64 k, .int .i64 n, .int .i64 s] 23)
  have AL := Hid.intro (alive10_any (w.alloc (.cells #[.int .i64 k, .int .i64 n, .int .i64 s] 23)) (hwd.below BA))
  have HWD := Hid.intro hwd
  clear hwd
  have BAH := Hid.intro BA
  have NAH := Hid.intro nA
  have HS := Hid.intro h
  obtain ⟨L, hL⟩ : ∃ L, L = l.length := ⟨_, rfl⟩
  have HL := Hid.intro hL
  rw [← hL] at hlc ⊢
  have hml : L ≤ maxLen := Nat.le_trans hlc hcap
  clear BA nA h hL
  go_enter Tryd.func7, Tryd.ntmps7
  go_wp2_with fail
  refine AL.out.mono ?_
  rintro e w1 ⟨rfl, B1⟩
  have n1 := (B1.block _ (lt_of_heap NAH.out)).trans NAH.out
  have B1H := Hid.intro (BAH.out.trans (B1.mono BAH.out.size))
  have c0 : w1.cell? ⟨w.heap.size, 0, none⟩ = some (.int .i64 k) := by rw [cell_of_row _ _ 0 _ _ _ n1]; rfl
  have c1 : w1.cell? ⟨w.heap.size, 1, none⟩ = some (.int .i64 n) := by rw [cell_of_row _ _ 1 _ _ _ n1]; rfl
  have c2 : w1.cell? ⟨w.heap.size, 2, none⟩ = some (.int .i64 s) := by rw [cell_of_row _ _ 2 _ _ _ n1]; rfl
  clear AL B1 NAH BAH n1
  by_cases hbig : 80 < L
  · have hbig' : (80 : Int) < (L : Int) := by omega
    go_wp2
    go_ret
    exact ⟨rfl, B1H.out⟩
  have hbig' : ¬ (80 : Int) < (L : Int) := by omega
  have h80 : L ≤ 80 := by omega
  clear hbig
  have CP := cpack_any k n s _ ao cap l (by rw [← HL.out]; exact h80) w1 (HWD.out.below B1H.out) (HS.out.below B1H.out)
  rw [← HL.out] at CP
  have CPH := Hid.intro CP
  clear CP
  have NOE : Hid (packE k n s l ≠ 0 → (packT k n s l).length = 0) := fun h => by unfold packT; rw [if_neg h]; rfl
  have ALL : Hid (packE k n s l = 0 → ∀ m, packE k n s (l.take m) = 0 ∧ parseE (packT k n s l) = 0 ∧ parseL (packT k n s l) = l ∧ parseE (packT k n s (l.take m)) = 0 ∧ parseL (packT k n s (l.take m)) = l.take m) := fun h m => by
    have h2 := pack_take h m
    exact ⟨h2, parseE_zero.2 (packT_parse h).1, (packT_parse h).2, parseE_zero.2 (packT_parse h2).1, (packT_parse h2).2⟩
  obtain ⟨pe, hpe⟩ : ∃ pe, pe = packE k n s l := ⟨_, rfl⟩
  rw [← hpe] at CPH NOE ALL
  have PB := Hid.intro (packT_byt (k := k) (n := n) (s := s) (l := l))
  have PF := Hid.intro (packT_few (k := k) (n := n) (s := s) (l := l))
  obtain ⟨F, hF⟩ : ∃ F, F = packT k n s l := ⟨_, rfl⟩
  rw [← hF] at CPH NOE ALL PB PF
  obtain ⟨FL, hFL⟩ : ∃ FL, FL = F.length := ⟨_, rfl⟩
  have HFL := Hid.intro hFL
  rw [← hFL] at NOE
  clear hpe hF
  go_wp2_with fail
  refine CPH.out.mono ?_
  rintro e w2 ⟨a2, cc2, rfl, r2, m2, N2, B2⟩
  have BW2 := Hid.intro (B1H.out.trans (B2.mono B1H.out.size))
  have R2 := Hid.intro r2
  have M2 := Hid.intro m2
  have d0 := cellM B2 c0
  have d1 := cellM B2 c1
  have d2 := cellM B2 c2
  rw [← hFL]
  clear CPH B2 c0 c1 c2 r2 m2 N2 hFL
  by_cases h0 : pe = 0
  case neg =>
    have j0 : (pe != 0) = true := by rw [bne_iff_ne]; exact h0
    have z := NOE.out h0
    subst z
    go_wp2
    go_ret
    exact ⟨rfl, BW2.out⟩
  subst h0
  obtain ⟨K, hK⟩ : ∃ K : Nat, K = BT % (L + 1) := ⟨_, rfl⟩
  have hKl : K ≤ L := by have := Nat.mod_lt BT (show 0 < L + 1 by omega); omega
  have hKm : (BT : Int) % ((L : Int) + 1) = (K : Int) := by rw [hK]; simp
  have j1 : ((L : Int) + 1 == 0) = false := by simp; omega
  have hKc : (K : Int) ≤ (cap : Int) := by omega
  have K0 : (0 : Int) ≤ (K : Int) := by omega
  have AK := ALL.out rfl K
  have htk : (l.take K).length = K := by rw [List.length_take, ← HL.out]; omega
  have CP2 := cpack_any k n s _ ao cap (l.take K) (by rw [htk]; omega) w2.drew (HWD.out.below BW2.out.drew) (by
    have q := (HS.out.below BW2.out.drew).take K cap (by rw [← HL.out]; exact hKl)
    rw [htk]; exact q)
  rw [htk, AK.1] at CP2
  have CP2H := Hid.intro CP2
  have AKH := Hid.intro AK
  have PB2 := Hid.intro (packT_byt (k := k) (n := n) (s := s) (l := l.take K))
  have PF2 := Hid.intro (packT_few (k := k) (n := n) (s := s) (l := l.take K))
  obtain ⟨G, hG⟩ : ∃ G, G = packT k n s (l.take K) := ⟨_, rfl⟩
  rw [← hG] at CP2H AKH PB2 PF2
  clear hK ALL AK CP2 hG NOE
  go_wp2_with fail
  first | rw [hKm] | skip
  clear hKm
  go_region_held3 (fun W => W.cell? ⟨w.heap.size, 0, none⟩ = some (.int .i64 k) ∧ W.cell? ⟨w.heap.size, 1, none⟩ = some (.int .i64 n) ∧ W.cell? ⟨w.heap.size, 2, none⟩ = some (.int .i64 s))
    (first | exact ⟨cellM E3 d0, cellM E3 d1, cellM E3 d2⟩ | go_keep)
    (first | (go_at_call 14; refine CP2H.out.mono ?_; rintro e w3 ⟨a3, cc3, rfl, r3, m3, _, B3⟩; have E3 : Below w2.heap.size w2 w3 := undrewM B3; clear B3) | fail)
  all_goals
    have BW3 := Hid.intro (BW2.out.trans (E3.mono BW2.out.size))
    have P4 := cparse_any a2 cc2 F (by have := PF.out; omega) PB.out w3 (HWD.out.below BW3.out) (R2.out.below E3) M2.out
    rw [AKH.out.2.1, AKH.out.2.2.1, ← HFL.out, ← HL.out] at P4
    have P4H := Hid.intro P4
    have R3 := Hid.intro r3
    have M3 := Hid.intro m3
    clear P4 CP2H E3 r3 m3 d0 d1 d2 R2 M2 PB PF
    go_wp2_with fail
    refine P4H.out.mono ?_
    rintro e w4 ⟨a4, c4, rfl, s4, hc4, _, B4⟩
    have BW4 := Hid.intro (BW3.out.trans (B4.mono BW3.out.size))
    have P5 := cparse_any a3 cc3 G (by have := PF2.out; omega) PB2.out w4 (HWD.out.below BW4.out) (R3.out.below B4) M3.out
    rw [AKH.out.2.2.2.1, AKH.out.2.2.2.2, htk] at P5
    have P5H := Hid.intro P5
    have S4 := Hid.intro s4
    clear P5 P4H B4 BW3 R3 M3 PB2 PF2 s4
    generalize G.length = GL at *
    go_wp2_with fail
    refine P5H.out.mono ?_
    rintro e w5 ⟨a5, c5, rfl, s5, _, _, B5⟩
    have BW5 := Hid.intro (BW4.out.trans (B5.mono BW4.out.size))
    have hK4 : (K : Int) ≤ (c4 : Int) := by omega
    have CS : Hid (∀ W, Below w5.heap.size w5 W → Calls Tryd.prog 18 #[.slice a4 K c4, .slice a5 K c5] W fun e w' => e = .returned (.bool true) ∧ Below W.heap.size W w') := fun W hW => by
      have q1 := ((S4.out.below B5).below hW).take K c4 (by rw [← HL.out]; exact hKl)
      have q2 := s5.below hW
      have q := csame_any _ _ (.slice a4 K c4) (.slice a5 K c5) (l.take K) (l.take K) (by rw [htk]; omega) (by rw [htk]; omega) W q1 q2
      rw [decide_eq_true rfl] at q
      exact q
    clear P5H B5 BW4 S4 s5
    go_wp2_with fail
    refine (CS.out w5 (Below.refl _ _)).mono ?_
    rintro e w6 ⟨rfl, B6⟩
    have BW6 := Hid.intro (BW5.out.trans (B6.mono BW5.out.size))
    clear CS B6
    go_wp2
    go_ret
    exact ⟨rfl, BW6.out⟩

theorem walk (k n s : Int) (ao : Option Addr) (len cap : Nat) (l : List Smp) (bt : Int) (w : World) (_ : (Lit.int .i64 k).wf = true ∧ (Lit.int .i64 n).wf = true ∧ (Lit.int .i64 s).wf = true) (hz : l.length = len ∧ SmsAt (fun _ => True) w (.slice ao len cap) l ∧ len ≤ cap ∧ cap ≤ maxLen ∧ (ao = none → cap = 0)) (hb : (Lit.int .u8 bt).wf = true) (hwd : WidR w) :
    Calls Tryd.prog 7 #[Cd k n s, .slice ao len cap, .int .u8 bt] w fun e w' => e = .returned (.bool true) ∧ Below w.heap.size w w' := by
  obtain ⟨hl, hr, hlc, hmx, _⟩ := hz
  subst hl
  have hbit := bounds_u8 hb
  obtain ⟨BT, rfl⟩ := Int.eq_ofNat_of_zero_le hbit.1
  exact walk_main k n s ao cap l hmx hlc BT (by omega) w hwd hr

set_option maxRecDepth 100000 in
theorem lifted (os : Os) (started : os.Started) (H : Type) (enc : TypeId × Value → H) :
    ReturnsInHanded {} Tryd.checked os 7 .any (fun w args => (Rows.recordFirstSpec.pre enc Tryd.prog Tryd.f7 [] false w args ∧ laidMetH Tryd.prog LW w) ∧ sizedMet enc Tryd.prog Tryd.f7 (OpenSpec.ofChange Rows.recordFirstSpec) false w args) (Rows.recordFirstSpec.post enc Tryd.prog Tryd.f7 false true false false) := by
  refine returnsInHanded_of_change_and (C := Tryd.checked) (X := fun w _ => laidMetH Tryd.prog LW w) (fun _ _ _ hh h => h.of_heap hh) own started (by kernel_rfl) Tryd.func7
    (ChangeSpec.witness_shaped (enc := enc) (C := Tryd.checked) (os := os) (X := fun w _ => laidMetH Tryd.prog LW w) false (World.doorLaid Tryd.prog 400 os) #[.agg #[.int .i64 0, .int .i64 0, .int .i64 0], .slice none 0 0, .int .u8 0] 8 rfl (World.shaped_of_RefB (by kernel_rfl) (by kernel_rfl)) (by kernel_rfl) (by kernel_rfl) (by kernel_rfl) (door_met os _)) ?_
  intro W base args ds gs before hval0 hW _ _ hL _
  have hval : ∀ (j : Nat) t v, Tryd.f7.params[j]? = some t → args[j]? = some v → Value.okWide Tryd.prog W .any base t v := hval0
  have hW' := hW
  obtain ⟨p, q, hA0, hV, rfl, hfz, hnd⟩ := hW
  have hA : DataW.TrodAll enc Tryd.prog W 0 (fun _ => true) true Tryd.f7.params.toList args.toList ds p := hA0
  rw [Tryd.params7] at hA hval
  obtain ⟨v0, vs0, d0, ds0, p0, q0, hargs, rfl, rfl, h0, r0⟩ := trodAll_cons hA
  obtain ⟨v1, vs1, d1, ds1, p1, q1, rfl, rfl, rfl, h1, r1⟩ := trodAll_cons r0
  obtain ⟨v2, vs2, d2, ds2, p2, q2, rfl, rfl, rfl, h2, r2⟩ := trodAll_cons r1
  obtain ⟨rfl, rfl, rfl⟩ := trodAll_nil r2
  obtain rfl : args = #[v0, v1, v2] := by cases args; simp_all
  obtain ⟨rfl, rfl⟩ := trodVars_none hV
  have k0 := h0
  have lt0 : ∀ x ∈ p0, x.block < W.heap.size := by obtain ⟨m, hm⟩ := k0; exact DataW.trod_lt m _ _ _ hm
  obtain ⟨kc0, nc0, sc0, rfl, w0⟩ := open_code (hval 0 23 v0 rfl rfl) h0
  have k1 := h1
  have lt1 : ∀ x ∈ p1, x.block < W.heap.size := by obtain ⟨m, hm⟩ := k1; exact DataW.trod_lt m _ _ _ hm
  obtain ⟨a1, len1, cap1, rfl⟩ := okWide_slice Tryd.underlying24 (hval 1 24 v1 rfl rfl)
  obtain ⟨z1, w1⟩ := open_samples h1
  obtain ⟨a2, rfl, rfl, rfl, w2⟩ := open_int Tryd.underlying5 (hval 2 5 v2 rfl rfl) h2
  clear hA0 hval0
  refine (walk kc0 nc0 sc0 a1 len1 cap1 z1 a2 W w0 w1 w2 (laid_fact hL)).mono fun e W' ⟨he, bel⟩ => ?_
  subst he
  exact ⟨_, rfl, _, _, _, [], _, [], hW', trodAll_mk1 (shut_bool Tryd.underlying4 _), (trodAll_cons_mk (Below.trod laidOut (by kernel_rfl) (of_decide_eq_true (by kernel_rfl)) k0 bel lt0) (trodAll_cons_mk (Below.trod laidOut (by kernel_rfl) (of_decide_eq_true (by kernel_rfl)) k1 bel lt1) (trodAll_cons_mk (shut_int Tryd.underlying5 w2) trodAll_mk0))), rfl, bel.frame _, fun h => by cases h⟩

theorem over : Rows.recordFirstRow.holds Tryd.pinned (OpenSpec.ofChange Rows.recordFirstSpec) :=
  OpenClaim.holds_of_wide 7 Tryd.f7 rfl rfl rfl rfl rfl rfl rfl ⟨rfl, rfl, rfl, rfl, rfl⟩ rfl rfl rfl rfl rfl (by kernel_rfl) Tryd.func7 (by kernel_rfl)
    (of_decide_eq_true (by kernel_rfl)) (by unfold Func.isWrapper; first | (rw [if_pos (by decide +kernel)]; kernel_rfl) | (rw [if_neg (by decide +kernel)]; exact ⟨rfl, rfl⟩))
    (fun os started H enc _ => lifted os started H enc)

end Go.Proofs.YthbfdfkkacmbhaaDoor.LRecordFirst

namespace Go.Proofs.YthbfdfkkacmbhaaDoor
theorem recordFirst_holds : Rows.RecordFirstCardSaid :=
  Claim7.holds_tied_plain_at .later [] [.data] true (true, "48083bb0b2812a16015da9da29e02053fb694e0cc01e6d6a71d1c29f219818cd") false
    LRecordFirst.over (fun _ h => by cases h) (by kernel_rfl) (fun _ h => by cases h) recordFirst_row_tie rfl ⟨rfl, rfl⟩ (by kernel_rfl) rfl
    (fun f fn hf hfn => by
      obtain rfl : f = 7 := Option.some.inj ((show Tryd.prog.funcNamed "gurney/gurneylaw10.RecordFirst" = some 7 by kernel_rfl).symm.trans hf) |>.symm
      obtain rfl : fn = Tryd.f7 := (Option.some.inj (Tryd.func7.symm.trans hfn)).symm
      exact ⟨by kernel_rfl, fun j t ht => by
        rw [Tryd.params7] at ht
        have hm : t ∈ [23, 24, 5] := by simpa using Array.mem_of_getElem? ht
        have hall : ([23, 24, 5].all fun u => !Tryd.prog.wantsStandIn u) = true := by kernel_rfl
        exact (show Tryd.prog.wantsStandIn t = false by simpa using List.all_eq_true.1 hall t hm)⟩)
    (by kernel_rfl)
#print axioms recordFirst_holds
end Go.Proofs.YthbfdfkkacmbhaaDoor
