/- FrameLong (layer 3): of every frame, whatever its fields and its bytes, and in whatever memory: a frame is right just if it has bytes, from 11 to 71; the table of widths as the program's text lays it. -/
import Derived.Test.YtaieohnppeapfabDoorFrmAlive
import Derived.Test.YtaieohnppeapfabDoorFrmLaid
import Derived.Test.YtaieohnppeapfabDoorFrameArg
namespace Go.Proofs.YtaieohnppeapfabDoor.LFrameLong
open Go.ChangeShapes Go.WideShapes Go.ChangeAt Go.RowKit
open Bt

set_option maxRecDepth 100000 in
set_option maxHeartbeats 1000000 in
theorem walk (tx sq an rs kd : Int) (a : Option Addr) (len cap : Nat) (zs : List Int) (W : World)
    (w0 : (Lit.int .i64 tx).wf = true ∧ (Lit.int .i64 sq).wf = true ∧ (Lit.int .i64 an).wf = true ∧ (Lit.int .i64 rs).wf = true ∧ (Lit.int .i64 kd).wf = true ∧ IsRow .u8 W a len cap zs) (hw : Wid W) :
    Calls Tryd.prog 4 #[Fr tx sq an rs kd a len cap] W fun e W' => e = .returned (.bool true) ∧ Below W.heap.size W W' := by
  obtain ⟨_, _, _, _, _, h⟩ := w0
  obtain ⟨ds, rfl, h256, hr⟩ := h.bytes
  have hn := Hid.intro h.none_cap
  clear h
  have HR := Hid.intro hr
  have H256 := Hid.intro h256
  have BX := (Below.refl _ W).alloc (Nat.le_refl _) (.cells #[.int .i64 tx, .int .i64 sq, .int .i64 an, .int .i64 rs, .int .i64 kd, .slice a ds.length cap] 24)
  have hX := heap_alloc_new W (.cells #[.int .i64 tx, .int .i64 sq, .int .i64 an, .int .i64 rs, .int .i64 kd, .slice a ds.length cap] 24)
  have HW := Hid.intro hw
  clear hr h256 hw
  go_enter Tryd.func4, Tryd.ntmps4
  go_wp2_with fail
  generalize W.alloc (.cells #[.int .i64 tx, .int .i64 sq, .int .i64 an, .int .i64 rs, .int .i64 kd, .slice a ds.length cap] 24) = X at BX hX ⊢
  generalize W.heap.size = bx at hX ⊢
  refine (alive_any X (HW.out.below BX)).mono ?_
  rintro e w1 ⟨rfl, B1⟩
  have D1 := BX.trans (B1.mono BX.size)
  have x1 := (B1.block bx (lt_of_heap hX)).trans hX
  have c5 : w1.cell? ⟨bx, 5, none⟩ = some (.slice a ds.length cap) := by rw [cell_of_row _ _ _ _ _ _ x1]; rfl
  have HX1 := Hid.intro x1
  have HD1 := Hid.intro D1
  clear BX hX B1 D1 x1
  by_cases h300 : 300 < ds.length
  · have j : (300 : Int) < (ds.length : Int) := by omega
    go_wp2
    go_ret
    exact ⟨rfl, HD1.out⟩
  · have j : decide ((300 : Int) < (ds.length : Int)) = false := by simp; omega
    have SP := Hid.intro (put_frame tx sq an rs kd a cap ds hn.out H256.out w1 (HW.out.below HD1.out) (HR.out.below HD1.out))
    have hlen : (putF tx sq an rs kd ds).length = if isFrm tx sq an rs kd ds.length = true then 11 + ds.length else 0 := by
      unfold putF; split
      · rw [frmB_length]
      · rfl
    have h60 : isFrm tx sq an rs kd ds.length = true → ds.length ≤ 60 := fun h => (isFrm_iff.1 h).2.2.2.2.2
    have HRT := Hid.intro (fun (w : World) (h : Wid w) => right_any tx sq an rs kd a ds.length cap w h)
    generalize isFrm tx sq an rs kd ds.length = b at hlen h60 HRT
    generalize putF tx sq an rs kd ds = F at SP hlen
    generalize F.length = L at SP hlen
    go_wp2_with (refine wpList_load_row rfl 24 (.tmp 1) rfl bx rfl 24 #[.int .i64 tx, .int .i64 sq, .int .i64 an, .int .i64 rs, .int .i64 kd, .slice a ds.length cap] (0, 0) _ HX1.out Tryd.underlying24 rfl (by kernel_rfl) ?_)
    refine SP.out.mono ?_
    rintro e w2 ⟨ao, c, rfl, _, _, _, _, B2⟩
    have D2 := HD1.out.trans (B2.mono HD1.out.size)
    have x2 := (B2.block bx (lt_of_heap HX1.out)).trans HX1.out
    have HX2 := Hid.intro x2
    have HD2 := Hid.intro D2
    clear SP B2 D2 x2 HX1 HD1 c5
    cases b with
    | true =>
      have hL : L = 11 + ds.length := by simpa using hlen
      have hd := h60 rfl
      clear h60 hlen
      have j1 : (0 : Int) < (L : Int) := by omega
      have j2 : (11 : Int) ≤ (L : Int) := by omega
      have j3 : (L : Int) ≤ 71 := by omega
      have j4 : ((L : Int) == 0) = false := by simp; omega
      clear hL hd
      go_wp2_with (refine wpList_load_row rfl 24 (.tmp 1) rfl bx rfl 24 #[.int .i64 tx, .int .i64 sq, .int .i64 an, .int .i64 rs, .int .i64 kd, .slice a ds.length cap] (0, 0) _ HX2.out Tryd.underlying24 rfl (by kernel_rfl) ?_)
      refine (HRT.out w2 (HW.out.below HD2.out)).mono ?_
      rintro e w3 ⟨rfl, B3⟩
      have D3 := HD2.out.trans (B3.mono HD2.out.size)
      clear B3
      go_wp2
      go_ret
      exact ⟨rfl, D3⟩
    | false =>
      have hL : L = 0 := by simpa using hlen
      subst hL
      clear h60 hlen
      go_wp2_with (refine wpList_load_row rfl 24 (.tmp 1) rfl bx rfl 24 #[.int .i64 tx, .int .i64 sq, .int .i64 an, .int .i64 rs, .int .i64 kd, .slice a ds.length cap] (0, 0) _ HX2.out Tryd.underlying24 rfl (by kernel_rfl) ?_)
      refine (HRT.out w2 (HW.out.below HD2.out)).mono ?_
      rintro e w3 ⟨rfl, B3⟩
      have D3 := HD2.out.trans (B3.mono HD2.out.size)
      clear B3
      go_wp2
      go_ret
      exact ⟨rfl, D3⟩

set_option maxRecDepth 100000 in
theorem lifted (os : Os) (started : os.Started) (H : Type) (enc : TypeId × Value → H) :
    ReturnsInHanded {} Tryd.checked os 4 .any (fun w args => (Rows.frameLongSpec.pre enc Tryd.prog Tryd.f4 [] false w args ∧ laidMetH Tryd.prog LW w) ∧ sizedMet enc Tryd.prog Tryd.f4 (OpenSpec.ofChange Rows.frameLongSpec) false w args) (Rows.frameLongSpec.post enc Tryd.prog Tryd.f4 false true false false) := by
  refine returnsInHanded_of_change_and (C := Tryd.checked) (X := fun w _ => laidMetH Tryd.prog LW w) (fun _ _ _ hh h => h.of_heap hh) own started (by kernel_rfl) Tryd.func4
    (ChangeSpec.witness_shaped (enc := enc) (C := Tryd.checked) (os := os) (X := fun w _ => laidMetH Tryd.prog LW w) false (World.doorLaid Tryd.prog 400 os) #[.agg #[.int .i64 0, .int .i64 0, .int .i64 0, .int .i64 0, .int .i64 0, .slice none 0 0]] 8 rfl (World.shaped_of_RefB (by kernel_rfl) (by kernel_rfl)) (by kernel_rfl) (by kernel_rfl) (by kernel_rfl) (door_met os _)) ?_
  intro W base args ds gs before hval0 hW _ _ hL _
  have hval : ∀ (j : Nat) t v, Tryd.f4.params[j]? = some t → args[j]? = some v → Value.okWide Tryd.prog W .any base t v := hval0
  have hW' := hW
  obtain ⟨p, q, hA0, hV, rfl, hfz, hnd⟩ := hW
  have hA : DataW.TrodAll enc Tryd.prog W 0 (fun _ => true) true Tryd.f4.params.toList args.toList ds p := hA0
  rw [Tryd.params4] at hA hval
  obtain ⟨v0, vs0, d0, ds0, p0, q0, hargs, rfl, rfl, h0, r0⟩ := trodAll_cons hA
  obtain ⟨rfl, rfl, rfl⟩ := trodAll_nil r0
  obtain rfl : args = #[v0] := by cases args; simp_all
  obtain ⟨rfl, rfl⟩ := trodVars_none hV
  have k0 := h0
  have lt0 : ∀ x ∈ p0, x.block < W.heap.size := by obtain ⟨m, hm⟩ := k0; exact DataW.trod_lt m _ _ _ hm
  obtain ⟨tx0, sq0, an0, rs0, kd0, a0, len0, cap0, z0, rfl, w0⟩ := open_frame (hval 0 24 v0 rfl rfl) h0
  clear hA0 hval0
  refine (walk tx0 sq0 an0 rs0 kd0 a0 len0 cap0 z0 W w0 (laid_fact hL)).mono fun e W' ⟨he, bel⟩ => ?_
  subst he
  exact ⟨_, rfl, _, _, _, [], _, [], hW', trodAll_mk1 (shut_bool Tryd.underlying4 _), (trodAll_cons_mk (Below.trod laidOut (by kernel_rfl) (of_decide_eq_true (by kernel_rfl)) k0 bel lt0) trodAll_mk0), rfl, bel.frame _, fun h => by cases h⟩

theorem over : Rows.frameLongRow.holds Tryd.pinned (OpenSpec.ofChange Rows.frameLongSpec) :=
  OpenClaim.holds_of_wide 4 Tryd.f4 rfl rfl rfl rfl rfl rfl rfl ⟨rfl, rfl, rfl, rfl, rfl⟩ rfl rfl rfl rfl rfl (by kernel_rfl) Tryd.func4 (by kernel_rfl)
    (of_decide_eq_true (by kernel_rfl)) (by unfold Func.isWrapper; first | (rw [if_pos (by decide +kernel)]; kernel_rfl) | (rw [if_neg (by decide +kernel)]; exact ⟨rfl, rfl⟩))
    (fun os started H enc _ => lifted os started H enc)

end Go.Proofs.YtaieohnppeapfabDoor.LFrameLong

namespace Go.Proofs.YtaieohnppeapfabDoor
theorem frameLong_holds : Rows.FrameLongCardSaid :=
  Claim7.holds_tied_plain_at .later [] [.data] true (true, "65dfb3539dee852fdd8afe3b658941b2b7cace5b0a5c1b92a043ec3804d5e070") false
    LFrameLong.over (fun _ h => by cases h) (by kernel_rfl) (fun _ h => by cases h) frameLong_row_tie rfl ⟨rfl, rfl⟩ (by kernel_rfl) rfl
    (fun f fn hf hfn => by
      obtain rfl : f = 4 := Option.some.inj ((show Tryd.prog.funcNamed "gurney/gurneylaw03.FrameLong" = some 4 by kernel_rfl).symm.trans hf) |>.symm
      obtain rfl : fn = Tryd.f4 := (Option.some.inj (Tryd.func4.symm.trans hfn)).symm
      exact ⟨by kernel_rfl, fun j t ht => by
        rw [Tryd.params4] at ht
        have hm : t ∈ [24] := by simpa using Array.mem_of_getElem? ht
        have hall : ([24].all fun u => !Tryd.prog.wantsStandIn u) = true := by kernel_rfl
        exact (show Tryd.prog.wantsStandIn t = false by simpa using List.all_eq_true.1 hall t hm)⟩)
    (by kernel_rfl)
#print axioms frameLong_holds
end Go.Proofs.YtaieohnppeapfabDoor
