/- FrameHears (layer 3): of every frame, antenna and strength, in whatever memory: an antenna turns a frame's antenna and strength, and nothing else, and hears of a frame what it is; the table of widths as the program's text lays it. -/
import Derived.Test.YtaieohnppeapfaaDoorFrmAlive
import Derived.Test.YtaieohnppeapfaaDoorFrmLaid
import Derived.Test.YtaieohnppeapfaaDoorFrameArg
import Derived.Test.YtaieohnppeapfaaDoorRefSameB
import Derived.Test.YtaieohnppeapfaaDoorFrmPut
namespace Go.Proofs.YtaieohnppeapfaaDoor.LFrameHears
open Go.ChangeShapes Go.WideShapes Go.ChangeAt Go.RowKit
open Bt

set_option maxRecDepth 100000 in
set_option maxHeartbeats 2000000 in
theorem walk (tx sq an rs kd : Int) (a : Option Addr) (len cap : Nat) (zs : List Int) (n s : Int) (W : World)
    (w0 : (Lit.int .i64 tx).wf = true ∧ (Lit.int .i64 sq).wf = true ∧ (Lit.int .i64 an).wf = true ∧ (Lit.int .i64 rs).wf = true ∧ (Lit.int .i64 kd).wf = true ∧ IsRow .u8 W a len cap zs)
    (_w1 : (Lit.int .i64 n).wf = true) (_w2 : (Lit.int .i64 s).wf = true) (hw : Wid W) :
    Calls Tryd.prog 8 #[Fr tx sq an rs kd a len cap, .int .i64 n, .int .i64 s] W fun e W' => e = .returned (.bool true) ∧ Below W.heap.size W W' := by
  obtain ⟨_, _, _, _, _, h⟩ := w0
  obtain ⟨ds, rfl, h256, hr⟩ := h.bytes
  have hn := Hid.intro h.none_cap
  clear h
  have HR := Hid.intro hr
  have H256 := Hid.intro h256
  have BX := (Below.refl _ W).alloc (Nat.le_refl _) (.cells #[.int .i64 tx, .int .i64 sq, .int .i64 an, .int .i64 rs, .int .i64 kd, .slice a ds.length cap] 24)
  have hX := heap_alloc_new W (.cells #[.int .i64 tx, .int .i64 sq, .int .i64 an, .int .i64 rs, .int .i64 kd, .slice a ds.length cap] 24)
  have HW := Hid.intro hw
  clear hr h256 hw
  go_enter Tryd.func8, Tryd.ntmps8
  go_wp2_with fail
  generalize W.alloc (.cells #[.int .i64 tx, .int .i64 sq, .int .i64 an, .int .i64 rs, .int .i64 kd, .slice a ds.length cap] 24) = X at BX hX ⊢
  generalize W.heap.size = bx at hX ⊢
  refine (alive_any X (HW.out.below BX)).mono ?_
  rintro e w1 ⟨rfl, B1⟩
  have D1 := BX.trans (B1.mono BX.size)
  have x1 := (B1.block bx (lt_of_heap hX)).trans hX
  have HX1 := Hid.intro x1
  have HD1 := Hid.intro D1
  clear BX hX B1 D1 x1
  have SP := Hid.intro (put_frame tx sq an rs kd a cap ds hn.out H256.out w1 (HW.out.below HD1.out) (HR.out.below HD1.out))
  go_wp2_with (refine wpList_load_row rfl 24 (.tmp 3) rfl bx rfl 24 #[.int .i64 tx, .int .i64 sq, .int .i64 an, .int .i64 rs, .int .i64 kd, .slice a ds.length cap] (0, 0) _ HX1.out Tryd.underlying24 rfl (by kernel_rfl) ?_)
  refine SP.out.mono ?_
  rintro e w2 ⟨ao, c, rfl, r2, n2, hc2, _, B2⟩
  have D2 := HD1.out.trans (B2.mono HD1.out.size)
  have x2 := (B2.block bx (lt_of_heap HX1.out)).trans HX1.out
  have HX2 := Hid.intro x2
  have HD2 := Hid.intro D2
  have HR2 := Hid.intro r2
  clear SP B2 D2 x2 HX1 HD1 r2 n2
  cases hb : isFrm tx sq an rs kd ds.length with
  | false =>
    have SR := Hid.intro (right_any tx sq an rs kd a ds.length cap w2 (HW.out.below HD2.out))
    rw [hb] at SR
    have e0 : (putF tx sq an rs kd ds).length = 0 := by rw [putF_no hb]; rfl
    rw [e0]
    clear e0 hb HR2 hc2
    go_wp2_with (refine wpList_load_row rfl 24 (.tmp 3) rfl bx rfl 24 #[.int .i64 tx, .int .i64 sq, .int .i64 an, .int .i64 rs, .int .i64 kd, .slice a ds.length cap] (0, 0) _ HX2.out Tryd.underlying24 rfl (by kernel_rfl) ?_)
    refine SR.out.mono ?_
    rintro e w3 ⟨rfl, B3⟩
    have D3 := HD2.out.trans (B3.mono HD2.out.size)
    clear B3 SR
    go_wp2
    go_ret
    exact ⟨rfl, D3⟩
  | true =>
    have hl := putF_len hb
    have SH := heard_any ao c (putF tx sq an rs kd ds) n s (by omega) hc2.1 hc2.2 (putF_byte H256.out) w2 (HW.out.below HD2.out) HR2.out
    rw [heard_put hb] at SH
    have HSH := Hid.intro SH
    have HSR := Hid.intro (fun (w : World) (h : Wid w) => right_any tx sq n s kd a ds.length cap w h)
    have HSP := Hid.intro (fun (w : World) (h1 : Wid w) (h2 : Reads w a ds) => put_frame tx sq n s kd a cap ds hn.out H256.out w h1 h2)
    have HBK : Hid (isFrm tx sq n s kd ds.length = true → heardF (putF tx sq n s kd ds) an rs = putF tx sq an rs kd ds) := fun h => heard_put h an rs
    have HLN : Hid (isFrm tx sq n s kd ds.length = true → 11 ≤ (putF tx sq n s kd ds).length ∧ (putF tx sq n s kd ds).length ≤ 71) := fun h => putF_len h
    have HNO : Hid (isFrm tx sq n s kd ds.length = false → putF tx sq n s kd ds = []) := fun h => putF_no h
    have HGB := Hid.intro (putF_byte (tx := tx) (sq := sq) (an := n) (rs := s) (kd := kd) H256.out)
    clear SH hb
    generalize putF tx sq an rs kd ds = F at hl HSH HR2 HBK hc2 ⊢
    generalize putF tx sq n s kd ds = G at HSH HSP HBK HLN HNO HGB
    generalize hL : F.length = L at HSH hl hc2 ⊢
    have HL := Hid.intro hL
    clear hL
    have j0 : ((L : Int) == 0) = false := by simp; omega
    go_wp2_with fail
    refine HSH.out.mono ?_
    rintro e w3 ⟨a3, c3, rfl, r3, _, hc3, _, B3⟩
    have D3 := HD2.out.trans (B3.mono HD2.out.size)
    have HX3 := Hid.intro ((B3.block bx (lt_of_heap HX2.out)).trans HX2.out)
    have HD3 := Hid.intro D3
    have HR3 := Hid.intro r3
    have HF3 := Hid.intro (HR2.out.below B3)
    clear HSH B3 D3 r3 HX2 HD2 HR2
    go_wp2_with (refine wpList_load_row rfl 24 (.tmp 3) rfl bx rfl 24 #[.int .i64 tx, .int .i64 sq, .int .i64 an, .int .i64 rs, .int .i64 kd, .slice a ds.length cap] (0, 0) _ HX3.out Tryd.underlying24 rfl (by kernel_rfl) ?_)
    have Bx := (Below.refl _ w3).alloc (Nat.le_refl _) (.cells #[.int .i64 tx, .int .i64 sq, .int .i64 n, .int .i64 s, .int .i64 kd, .slice a ds.length cap] 24)
    have HX4 := Hid.intro ((Bx.block bx (lt_of_heap HX3.out)).trans HX3.out)
    have HG4 := Hid.intro (heap_alloc_new w3 (.cells #[.int .i64 tx, .int .i64 sq, .int .i64 n, .int .i64 s, .int .i64 kd, .slice a ds.length cap] 24))
    have HR4 := Hid.intro (HR3.out.below Bx)
    have HF4 := Hid.intro (HF3.out.below Bx)
    have HD4 := Hid.intro (HD3.out.trans (Bx.mono HD3.out.size))
    clear Bx HX3 HR3 HF3 HD3
    generalize w3.alloc (.cells #[.int .i64 tx, .int .i64 sq, .int .i64 n, .int .i64 s, .int .i64 kd, .slice a ds.length cap] 24) = X4 at HX4 HG4 HR4 HF4 HD4 ⊢
    generalize w3.heap.size = bg at HG4 ⊢
    refine (HSR.out X4 (HW.out.below HD4.out)).mono ?_
    rintro e w5 ⟨rfl, B5⟩
    have HX5 := Hid.intro ((B5.block bx (lt_of_heap HX4.out)).trans HX4.out)
    have HG5 := Hid.intro ((B5.block bg (lt_of_heap HG4.out)).trans HG4.out)
    have HR5 := Hid.intro (HR4.out.below B5)
    have HF5 := Hid.intro (HF4.out.below B5)
    have HD5 := Hid.intro (HD4.out.trans (B5.mono HD4.out.size))
    clear B5 HX4 HG4 HR4 HF4 HD4 HSR
    cases hb : isFrm tx sq n s kd ds.length with
    | false =>
      have e0 := HNO.out hb
      subst e0
      clear hb HNO HLN HBK HSP HGB HR5
      go_wp2
      go_ret
      exact ⟨rfl, HD5.out⟩
    | true =>
      have e1 := HBK.out hb
      have l1 := HLN.out hb
      clear hb HNO HLN HBK
      have SP := Hid.intro (HSP.out w5 (HW.out.below HD5.out) (HR.out.below HD5.out))
      clear HSP
      go_wp2_with (refine wpList_load_row rfl 24 (.tmp 9) rfl bg rfl 24 #[.int .i64 tx, .int .i64 sq, .int .i64 n, .int .i64 s, .int .i64 kd, .slice a ds.length cap] (0, 0) _ HG5.out Tryd.underlying24 rfl (by kernel_rfl) ?_)
      refine SP.out.mono ?_
      rintro e w6 ⟨a6, c6, rfl, r6, _, hc6, _, B6⟩
      have HX6 := Hid.intro ((B6.block bx (lt_of_heap HX5.out)).trans HX5.out)
      have HR6 := Hid.intro (HR5.out.below B6)
      have HF6 := Hid.intro (HF5.out.below B6)
      have HD6 := Hid.intro (HD5.out.trans (B6.mono HD5.out.size))
      have SS := same_any a3 a6 c3 c6 G G (by omega) w6 HR6.out r6
      rw [show decide (G = G) = true from by simp] at SS
      have HSS := Hid.intro SS
      clear SS SP B6 r6 HX5 HG5 HR5 HF5 HD5
      go_wp2_with fail
      refine HSS.out.mono ?_
      rintro e w7 ⟨rfl, n7, rfl⟩
      have B7 := below_drewN (Below.refl w6.heap.size w6) n7
      have x7 := (B7.block bx (lt_of_heap HX6.out)).trans HX6.out
      have R7 := HR6.out.below B7
      have F7 := HF6.out.below B7
      have D7 := HD6.out.trans (B7.mono HD6.out.size)
      generalize w6.drewN n7 = W7 at x7 R7 F7 D7 ⊢
      have p2 : W7.cell? ⟨bx, 2, none⟩ = some (.int .i64 an) := by rw [cell_of_row _ _ _ _ _ _ x7]; rfl
      have p3 : W7.cell? ⟨bx, 3, none⟩ = some (.int .i64 rs) := by rw [cell_of_row _ _ _ _ _ _ x7]; rfl
      have SH := heard_any a3 c3 G an rs (by omega) hc3.1 hc3.2 HGB.out W7 (HW.out.below D7) R7
      rw [e1, HL.out] at SH
      have HSH := Hid.intro SH
      have HF7 := Hid.intro F7
      have HD7 := Hid.intro D7
      clear SH B7 x7 R7 F7 D7 HSS HX6 HR6 HF6 HD6 e1
      go_wp2_with fail
      refine HSH.out.mono ?_
      rintro e w8 ⟨a8, c8, rfl, r8, _, hc8, _, B8⟩
      have SS := same_any a8 ao c8 c F F (by rw [HL.out]; omega) w8 r8 (HF7.out.below B8)
      rw [show decide (F = F) = true from by simp, HL.out] at SS
      have HSS := Hid.intro SS
      have HD8 := Hid.intro (HD7.out.trans (B8.mono HD7.out.size))
      clear SS HSH B8 r8 p2 p3 HF7 HD7
      go_wp2_with fail
      refine HSS.out.mono ?_
      rintro e w9 ⟨rfl, n9, rfl⟩
      clear HSS
      go_wp2
      go_ret
      exact ⟨rfl, below_drewN HD8.out n9⟩

set_option maxRecDepth 100000 in
theorem lifted (os : Os) (started : os.Started) (H : Type) (enc : TypeId × Value → H) :
    ReturnsInHanded {} Tryd.checked os 8 .any (fun w args => (Rows.frameHearsSpec.pre enc Tryd.prog Tryd.f8 [] false w args ∧ laidMetH Tryd.prog LW w) ∧ sizedMet enc Tryd.prog Tryd.f8 (OpenSpec.ofChange Rows.frameHearsSpec) false w args) (Rows.frameHearsSpec.post enc Tryd.prog Tryd.f8 false true false false) := by
  refine returnsInHanded_of_change_and (C := Tryd.checked) (X := fun w _ => laidMetH Tryd.prog LW w) (fun _ _ _ hh h => h.of_heap hh) own started (by kernel_rfl) Tryd.func8
    (ChangeSpec.witness_shaped (enc := enc) (C := Tryd.checked) (os := os) (X := fun w _ => laidMetH Tryd.prog LW w) false (World.doorLaid Tryd.prog 400 os) #[.agg #[.int .i64 0, .int .i64 0, .int .i64 0, .int .i64 0, .int .i64 0, .slice none 0 0], .int .i64 0, .int .i64 0] 8 rfl (World.shaped_of_RefB (by kernel_rfl) (by kernel_rfl)) (by kernel_rfl) (by kernel_rfl) (by kernel_rfl) (door_met os _)) ?_
  intro W base args ds gs before hval0 hW _ _ hL _
  have hval : ∀ (j : Nat) t v, Tryd.f8.params[j]? = some t → args[j]? = some v → Value.okWide Tryd.prog W .any base t v := hval0
  have hW' := hW
  obtain ⟨p, q, hA0, hV, rfl, hfz, hnd⟩ := hW
  have hA : DataW.TrodAll enc Tryd.prog W 0 (fun _ => true) true Tryd.f8.params.toList args.toList ds p := hA0
  rw [Tryd.params8] at hA hval
  obtain ⟨v0, vs0, d0, ds0, p0, q0, hargs, rfl, rfl, h0, r0⟩ := trodAll_cons hA
  obtain ⟨v1, vs1, d1, ds1, p1, q1, rfl, rfl, rfl, h1, r1⟩ := trodAll_cons r0
  obtain ⟨v2, vs2, d2, ds2, p2, q2, rfl, rfl, rfl, h2, r2⟩ := trodAll_cons r1
  obtain ⟨rfl, rfl, rfl⟩ := trodAll_nil r2
  obtain rfl : args = #[v0, v1, v2] := by cases args; simp_all
  obtain ⟨rfl, rfl⟩ := trodVars_none hV
  have k0 := h0
  have lt0 : ∀ x ∈ p0, x.block < W.heap.size := by obtain ⟨m, hm⟩ := k0; exact DataW.trod_lt m _ _ _ hm
  obtain ⟨tx0, sq0, an0, rs0, kd0, a0, len0, cap0, z0, rfl, w0⟩ := open_frame (hval 0 24 v0 rfl rfl) h0
  obtain ⟨a1, rfl, rfl, rfl, w1⟩ := open_int Tryd.underlying3 (hval 1 3 v1 rfl rfl) h1
  obtain ⟨a2, rfl, rfl, rfl, w2⟩ := open_int Tryd.underlying3 (hval 2 3 v2 rfl rfl) h2
  clear hA0 hval0
  refine (walk tx0 sq0 an0 rs0 kd0 a0 len0 cap0 z0 a1 a2 W w0 w1 w2 (laid_fact hL)).mono fun e W' ⟨he, bel⟩ => ?_
  subst he
  exact ⟨_, rfl, _, _, _, [], _, [], hW', trodAll_mk1 (shut_bool Tryd.underlying4 _), (trodAll_cons_mk (Below.trod laidOut (by kernel_rfl) (of_decide_eq_true (by kernel_rfl)) k0 bel lt0) (trodAll_cons_mk (shut_int Tryd.underlying3 w1) (trodAll_cons_mk (shut_int Tryd.underlying3 w2) trodAll_mk0))), rfl, bel.frame _, fun h => by cases h⟩

theorem over : Rows.frameHearsRow.holds Tryd.pinned (OpenSpec.ofChange Rows.frameHearsSpec) :=
  OpenClaim.holds_of_wide 8 Tryd.f8 rfl rfl rfl rfl rfl rfl rfl ⟨rfl, rfl, rfl, rfl, rfl⟩ rfl rfl rfl rfl rfl (by kernel_rfl) Tryd.func8 (by kernel_rfl)
    (of_decide_eq_true (by kernel_rfl)) (by unfold Func.isWrapper; first | (rw [if_pos (by decide +kernel)]; kernel_rfl) | (rw [if_neg (by decide +kernel)]; exact ⟨rfl, rfl⟩))
    (fun os started H enc _ => lifted os started H enc)

end Go.Proofs.YtaieohnppeapfaaDoor.LFrameHears

namespace Go.Proofs.YtaieohnppeapfaaDoor
theorem frameHears_holds : Rows.FrameHearsCardSaid :=
  Claim7.holds_tied_plain_at .later [] [.data] true (true, "6bd1dd96be7cf56c0ac1baf81702624cde209933069c32281b4d364c2e018b08") false
    LFrameHears.over (fun _ h => by cases h) (by kernel_rfl) (fun _ h => by cases h) frameHears_row_tie rfl ⟨rfl, rfl⟩ (by kernel_rfl) rfl
    (fun f fn hf hfn => by
      obtain rfl : f = 8 := Option.some.inj ((show Tryd.prog.funcNamed "gurney/gurneylaw03.FrameHears" = some 8 by kernel_rfl).symm.trans hf) |>.symm
      obtain rfl : fn = Tryd.f8 := (Option.some.inj (Tryd.func8.symm.trans hfn)).symm
      exact ⟨by kernel_rfl, fun j t ht => by
        rw [Tryd.params8] at ht
        have hm : t ∈ [24, 3, 3] := by simpa using Array.mem_of_getElem? ht
        have hall : ([24, 3, 3].all fun u => !Tryd.prog.wantsStandIn u) = true := by kernel_rfl
        exact (show Tryd.prog.wantsStandIn t = false by simpa using List.all_eq_true.1 hall t hm)⟩)
    (by kernel_rfl)
#print axioms frameHears_holds
end Go.Proofs.YtaieohnppeapfaaDoor
