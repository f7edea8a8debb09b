/- FrameApart (layer 3): of every two frames, in whatever memory: two right frames have the same bytes just if they are the same; the table of widths as the program's text lays it. -/
import Derived.Test.YtaieohnppeapfabDoorFrmAlive
import Derived.Test.YtaieohnppeapfabDoorFrmLaid
import Derived.Test.YtaieohnppeapfabDoorFrameArg
import Derived.Test.YtaieohnppeapfabDoorRefSameB
namespace Go.Proofs.YtaieohnppeapfabDoor.LFrameApart
open Go.ChangeShapes Go.WideShapes Go.ChangeAt Go.RowKit
open Bt

theorem apart {tx sq an rs kd tx' sq' an' rs' kd' : Int} {ds es : List Nat} (hf : isFrm tx sq an rs kd ds.length = true) (hg : isFrm tx' sq' an' rs' kd' es.length = true) :
    decide (putF tx sq an rs kd ds = putF tx' sq' an' rs' kd' es) = sameFrm tx sq an rs kd ds tx' sq' an' rs' kd' es := by
  have e1 : putF tx sq an rs kd ds = frmB (headN tx.toNat sq.toNat an.toNat rs.toNat kd.toNat) ds := by unfold putF; rw [if_pos hf]
  have e2 : putF tx' sq' an' rs' kd' es = frmB (headN tx'.toNat sq'.toNat an'.toNat rs'.toNat kd'.toNat) es := by unfold putF; rw [if_pos hg]
  have bf := isFrm_iff.1 hf
  have bg := isFrm_iff.1 hg
  rw [e1, e2]
  unfold sameFrm
  rw [Bool.eq_iff_iff, decide_eq_true_eq, decide_eq_true_eq]
  constructor
  · intro h
    obtain ⟨h1, h2⟩ := frmB_inj _ _ _ _ (headN_lt _ _ _ _ _ (by omega) (by omega) (by omega) (by omega) (by omega)) (headN_lt _ _ _ _ _ (by omega) (by omega) (by omega) (by omega) (by omega)) h
    have f1 := headN_fields tx.toNat sq.toNat an.toNat rs.toNat kd.toNat (by omega) (by omega) (by omega) (by omega)
    have f2 := headN_fields tx'.toNat sq'.toNat an'.toNat rs'.toNat kd'.toNat (by omega) (by omega) (by omega) (by omega)
    rw [h1] at f1
    refine ⟨by omega, by omega, by omega, by omega, by omega, h2⟩
  · rintro ⟨rfl, rfl, rfl, rfl, rfl, rfl⟩; rfl

set_option maxRecDepth 100000 in
set_option maxHeartbeats 2000000 in
theorem walk (tx sq an rs kd : Int) (a : Option Addr) (len cap : Nat) (zs : List Int) (tx' sq' an' rs' kd' : Int) (a' : Option Addr) (len' cap' : Nat) (zs' : List Int) (W : World)
    (w0 : (Lit.int .i64 tx).wf = true ∧ (Lit.int .i64 sq).wf = true ∧ (Lit.int .i64 an).wf = true ∧ (Lit.int .i64 rs).wf = true ∧ (Lit.int .i64 kd).wf = true ∧ IsRow .u8 W a len cap zs) (w1 : (Lit.int .i64 tx').wf = true ∧ (Lit.int .i64 sq').wf = true ∧ (Lit.int .i64 an').wf = true ∧ (Lit.int .i64 rs').wf = true ∧ (Lit.int .i64 kd').wf = true ∧ IsRow .u8 W a' len' cap' zs') (hw : Wid W) :
    Calls Tryd.prog 3 #[Fr tx sq an rs kd a len cap, Fr tx' sq' an' rs' kd' a' len' cap'] W fun e W' => e = .returned (.bool true) ∧ Below W.heap.size W W' := by
  obtain ⟨_, _, _, _, _, h⟩ := w0
  obtain ⟨ds, rfl, h256, hr⟩ := h.bytes
  have hn := Hid.intro h.none_cap
  clear h
  obtain ⟨_, _, _, _, _, h⟩ := w1
  obtain ⟨es, rfl, h256', hr'⟩ := h.bytes
  have hn' := Hid.intro h.none_cap
  clear h
  have HR := Hid.intro hr
  have H256 := Hid.intro h256
  have HR' := Hid.intro hr'
  have H256' := Hid.intro h256'
  have BX := ((Below.refl _ W).alloc (Nat.le_refl _) (.cells #[.int .i64 tx, .int .i64 sq, .int .i64 an, .int .i64 rs, .int .i64 kd, .slice a ds.length cap] 24)).alloc (World.size_alloc W _ ▸ Nat.le_succ _) (.cells #[.int .i64 tx', .int .i64 sq', .int .i64 an', .int .i64 rs', .int .i64 kd', .slice a' es.length cap'] 24)
  have hX0 := heap_alloc2_old W (.cells #[.int .i64 tx, .int .i64 sq, .int .i64 an, .int .i64 rs, .int .i64 kd, .slice a ds.length cap] 24) (.cells #[.int .i64 tx', .int .i64 sq', .int .i64 an', .int .i64 rs', .int .i64 kd', .slice a' es.length cap'] 24)
  have hX1 := heap_alloc2_new W (.cells #[.int .i64 tx, .int .i64 sq, .int .i64 an, .int .i64 rs, .int .i64 kd, .slice a ds.length cap] 24) (.cells #[.int .i64 tx', .int .i64 sq', .int .i64 an', .int .i64 rs', .int .i64 kd', .slice a' es.length cap'] 24)
  have HW := Hid.intro hw
  clear hr h256 hr' h256' hw
  go_enter Tryd.func3, Tryd.ntmps3
  go_wp2_with fail
  generalize (W.alloc (.cells #[.int .i64 tx, .int .i64 sq, .int .i64 an, .int .i64 rs, .int .i64 kd, .slice a ds.length cap] 24)).alloc (.cells #[.int .i64 tx', .int .i64 sq', .int .i64 an', .int .i64 rs', .int .i64 kd', .slice a' es.length cap'] 24) = X at BX hX0 hX1 ⊢
  generalize W.heap.size + 1 = b1 at hX1 ⊢
  generalize W.heap.size = b0 at hX0 ⊢
  refine (alive_any X (HW.out.below BX)).mono ?_
  rintro e w1 ⟨rfl, B1⟩
  have D1 := BX.trans (B1.mono BX.size)
  have x0 := (B1.block b0 (lt_of_heap hX0)).trans hX0
  have x1 := (B1.block b1 (lt_of_heap hX1)).trans hX1
  have HX0 := Hid.intro x0
  have HX1 := Hid.intro x1
  have HD1 := Hid.intro D1
  clear BX hX0 hX1 B1 D1 x0 x1
  have HRT := Hid.intro (right_any tx sq an rs kd a ds.length cap w1 (HW.out.below HD1.out))
  have HRT' := Hid.intro (fun (w : World) (h : Wid w) => right_any tx' sq' an' rs' kd' a' es.length cap' w h)
  have HAP : Hid (isFrm tx sq an rs kd ds.length = true → isFrm tx' sq' an' rs' kd' es.length = true → decide (putF tx sq an rs kd ds = putF tx' sq' an' rs' kd' es) = sameFrm tx sq an rs kd ds tx' sq' an' rs' kd' es) := fun h1 h2 => apart h1 h2
  have HLF : Hid (isFrm tx sq an rs kd ds.length = true → (putF tx sq an rs kd ds).length < 2 ^ 40) := fun h => by
    have := (isFrm_iff.1 h).2.2.2.2.2
    unfold putF; rw [if_pos h, frmB_length]; omega
  generalize isFrm tx sq an rs kd ds.length = bf at HRT HAP HLF
  generalize isFrm tx' sq' an' rs' kd' es.length = bg at HRT' HAP
  go_wp2_with (refine wpList_load_row rfl 24 (.tmp 2) rfl b0 rfl 24 #[.int .i64 tx, .int .i64 sq, .int .i64 an, .int .i64 rs, .int .i64 kd, .slice a ds.length cap] (0, 0) _ HX0.out Tryd.underlying24 rfl (by kernel_rfl) ?_)
  refine HRT.out.mono ?_
  rintro e w2 ⟨rfl, B2⟩
  have D2 := HD1.out.trans (B2.mono HD1.out.size)
  have x0 := (B2.block b0 (lt_of_heap HX0.out)).trans HX0.out
  have x1 := (B2.block b1 (lt_of_heap HX1.out)).trans HX1.out
  have HY0 := Hid.intro x0
  have HY1 := Hid.intro x1
  have HD2 := Hid.intro D2
  have m0 : w2.cell? ⟨b1, 0, none⟩ = some (.int .i64 tx') := by rw [cell_of_row _ _ _ _ _ _ HY1.out]; rfl
  have m1 : w2.cell? ⟨b1, 1, none⟩ = some (.int .i64 sq') := by rw [cell_of_row _ _ _ _ _ _ HY1.out]; rfl
  have m2 : w2.cell? ⟨b1, 2, none⟩ = some (.int .i64 an') := by rw [cell_of_row _ _ _ _ _ _ HY1.out]; rfl
  have m3 : w2.cell? ⟨b1, 3, none⟩ = some (.int .i64 rs') := by rw [cell_of_row _ _ _ _ _ _ HY1.out]; rfl
  have m4 : w2.cell? ⟨b1, 4, none⟩ = some (.int .i64 kd') := by rw [cell_of_row _ _ _ _ _ _ HY1.out]; rfl
  have m5 : w2.cell? ⟨b1, 5, none⟩ = some (.slice a' es.length cap') := by rw [cell_of_row _ _ _ _ _ _ HY1.out]; rfl
  clear HRT B2 D2 x0 x1 HX0 HX1 HD1
  cases bf with
  | false =>
    clear m0 m1 m2 m3 m4 m5
    go_wp2
    go_ret
    exact ⟨rfl, HD2.out⟩
  | true =>
    go_wp2_with fail
    clear m0 m1 m2 m3 m4 m5
    refine (HRT'.out w2 (HW.out.below HD2.out)).mono ?_
    rintro e w3 ⟨rfl, B3⟩
    have D3 := HD2.out.trans (B3.mono HD2.out.size)
    have x0 := (B3.block b0 (lt_of_heap HY0.out)).trans HY0.out
    have x1 := (B3.block b1 (lt_of_heap HY1.out)).trans HY1.out
    have HZ0 := Hid.intro x0
    have HZ1 := Hid.intro x1
    have HD3 := Hid.intro D3
    clear HRT' B3 D3 x0 x1 HY0 HY1 HD2
    cases bg with
    | false =>
      go_wp2
      go_ret
      exact ⟨rfl, HD3.out⟩
    | true =>
      have hAP : Hid (decide (putF tx sq an rs kd ds = putF tx' sq' an' rs' kd' es) = sameFrm tx sq an rs kd ds tx' sq' an' rs' kd' es) := by first | exact HAP.out rfl rfl | exact HAP.out trivial rfl | exact HAP.out trivial trivial
      have hLF : (putF tx sq an rs kd ds).length < 2 ^ 40 := by first | exact HLF.out rfl | exact HLF.out trivial
      clear HAP HLF
      have HP := Hid.intro (fun (w : World) (h1 : Wid w) (h2 : Reads w a ds) => put_frame tx sq an rs kd a cap ds hn.out H256.out w h1 h2)
      have HP' := Hid.intro (fun (w : World) (h1 : Wid w) (h2 : Reads w a' es) => put_frame tx' sq' an' rs' kd' a' cap' es hn'.out H256'.out w h1 h2)
      have HS := Hid.intro (fun (w : World) (h1 : Reads w a ds) (h2 : Reads w a' es) => fsame_any tx sq an rs kd tx' sq' an' rs' kd' a a' cap cap' ds es H256.out H256'.out w h1 h2)
      generalize putF tx sq an rs kd ds = F at HP hAP hLF
      generalize putF tx' sq' an' rs' kd' es = G at HP' hAP
      generalize sameFrm tx sq an rs kd ds tx' sq' an' rs' kd' es = Q at HS hAP
      have k0 : w3.cell? ⟨b0, 0, none⟩ = some (.int .i64 tx) := by rw [cell_of_row _ _ _ _ _ _ HZ0.out]; rfl
      have k1 : w3.cell? ⟨b0, 1, none⟩ = some (.int .i64 sq) := by rw [cell_of_row _ _ _ _ _ _ HZ0.out]; rfl
      have k2 : w3.cell? ⟨b0, 2, none⟩ = some (.int .i64 an) := by rw [cell_of_row _ _ _ _ _ _ HZ0.out]; rfl
      have k3 : w3.cell? ⟨b0, 3, none⟩ = some (.int .i64 rs) := by rw [cell_of_row _ _ _ _ _ _ HZ0.out]; rfl
      have k4 : w3.cell? ⟨b0, 4, none⟩ = some (.int .i64 kd) := by rw [cell_of_row _ _ _ _ _ _ HZ0.out]; rfl
      have k5 : w3.cell? ⟨b0, 5, none⟩ = some (.slice a ds.length cap) := by rw [cell_of_row _ _ _ _ _ _ HZ0.out]; rfl
      have m0 : w3.cell? ⟨b1, 0, none⟩ = some (.int .i64 tx') := by rw [cell_of_row _ _ _ _ _ _ HZ1.out]; rfl
      have m1 : w3.cell? ⟨b1, 1, none⟩ = some (.int .i64 sq') := by rw [cell_of_row _ _ _ _ _ _ HZ1.out]; rfl
      have m2 : w3.cell? ⟨b1, 2, none⟩ = some (.int .i64 an') := by rw [cell_of_row _ _ _ _ _ _ HZ1.out]; rfl
      have m3 : w3.cell? ⟨b1, 3, none⟩ = some (.int .i64 rs') := by rw [cell_of_row _ _ _ _ _ _ HZ1.out]; rfl
      have m4 : w3.cell? ⟨b1, 4, none⟩ = some (.int .i64 kd') := by rw [cell_of_row _ _ _ _ _ _ HZ1.out]; rfl
      have m5 : w3.cell? ⟨b1, 5, none⟩ = some (.slice a' es.length cap') := by rw [cell_of_row _ _ _ _ _ _ HZ1.out]; rfl
      clear HZ0 HZ1
      go_wp2_with fail
      go_region_held3 (fun w' => w'.cell? ⟨b0, 0, none⟩ = some (.int .i64 tx) ∧ w'.cell? ⟨b0, 1, none⟩ = some (.int .i64 sq) ∧ w'.cell? ⟨b0, 2, none⟩ = some (.int .i64 an) ∧ w'.cell? ⟨b0, 3, none⟩ = some (.int .i64 rs) ∧ w'.cell? ⟨b0, 4, none⟩ = some (.int .i64 kd) ∧ w'.cell? ⟨b0, 5, none⟩ = some (.slice a ds.length cap) ∧ w'.cell? ⟨b1, 0, none⟩ = some (.int .i64 tx') ∧ w'.cell? ⟨b1, 1, none⟩ = some (.int .i64 sq') ∧ w'.cell? ⟨b1, 2, none⟩ = some (.int .i64 an') ∧ w'.cell? ⟨b1, 3, none⟩ = some (.int .i64 rs') ∧ w'.cell? ⟨b1, 4, none⟩ = some (.int .i64 kd') ∧ w'.cell? ⟨b1, 5, none⟩ = some (.slice a' es.length cap'))
        (first | exact ⟨(below_cell B8 (below_cell (below_drewN (Below.refl _ w6) n7) (below_cell B6 (below_cell B5 k0)))), (below_cell B8 (below_cell (below_drewN (Below.refl _ w6) n7) (below_cell B6 (below_cell B5 k1)))), (below_cell B8 (below_cell (below_drewN (Below.refl _ w6) n7) (below_cell B6 (below_cell B5 k2)))), (below_cell B8 (below_cell (below_drewN (Below.refl _ w6) n7) (below_cell B6 (below_cell B5 k3)))), (below_cell B8 (below_cell (below_drewN (Below.refl _ w6) n7) (below_cell B6 (below_cell B5 k4)))), (below_cell B8 (below_cell (below_drewN (Below.refl _ w6) n7) (below_cell B6 (below_cell B5 k5)))), (below_cell B8 (below_cell (below_drewN (Below.refl _ w6) n7) (below_cell B6 (below_cell B5 m0)))), (below_cell B8 (below_cell (below_drewN (Below.refl _ w6) n7) (below_cell B6 (below_cell B5 m1)))), (below_cell B8 (below_cell (below_drewN (Below.refl _ w6) n7) (below_cell B6 (below_cell B5 m2)))), (below_cell B8 (below_cell (below_drewN (Below.refl _ w6) n7) (below_cell B6 (below_cell B5 m3)))), (below_cell B8 (below_cell (below_drewN (Below.refl _ w6) n7) (below_cell B6 (below_cell B5 m4)))), (below_cell B8 (below_cell (below_drewN (Below.refl _ w6) n7) (below_cell B6 (below_cell B5 m5))))⟩ | exact ⟨(below_cell (below_drewN (Below.refl _ w6) n7) (below_cell B6 (below_cell B5 k0))), (below_cell (below_drewN (Below.refl _ w6) n7) (below_cell B6 (below_cell B5 k1))), (below_cell (below_drewN (Below.refl _ w6) n7) (below_cell B6 (below_cell B5 k2))), (below_cell (below_drewN (Below.refl _ w6) n7) (below_cell B6 (below_cell B5 k3))), (below_cell (below_drewN (Below.refl _ w6) n7) (below_cell B6 (below_cell B5 k4))), (below_cell (below_drewN (Below.refl _ w6) n7) (below_cell B6 (below_cell B5 k5))), (below_cell (below_drewN (Below.refl _ w6) n7) (below_cell B6 (below_cell B5 m0))), (below_cell (below_drewN (Below.refl _ w6) n7) (below_cell B6 (below_cell B5 m1))), (below_cell (below_drewN (Below.refl _ w6) n7) (below_cell B6 (below_cell B5 m2))), (below_cell (below_drewN (Below.refl _ w6) n7) (below_cell B6 (below_cell B5 m3))), (below_cell (below_drewN (Below.refl _ w6) n7) (below_cell B6 (below_cell B5 m4))), (below_cell (below_drewN (Below.refl _ w6) n7) (below_cell B6 (below_cell B5 m5)))⟩ | exact ⟨(below_cell B6 (below_cell B5 k0)), (below_cell B6 (below_cell B5 k1)), (below_cell B6 (below_cell B5 k2)), (below_cell B6 (below_cell B5 k3)), (below_cell B6 (below_cell B5 k4)), (below_cell B6 (below_cell B5 k5)), (below_cell B6 (below_cell B5 m0)), (below_cell B6 (below_cell B5 m1)), (below_cell B6 (below_cell B5 m2)), (below_cell B6 (below_cell B5 m3)), (below_cell B6 (below_cell B5 m4)), (below_cell B6 (below_cell B5 m5))⟩ | exact ⟨(below_cell B5 k0), (below_cell B5 k1), (below_cell B5 k2), (below_cell B5 k3), (below_cell B5 k4), (below_cell B5 k5), (below_cell B5 m0), (below_cell B5 m1), (below_cell B5 m2), (below_cell B5 m3), (below_cell B5 m4), (below_cell B5 m5)⟩ | go_keep)
        ((first
          | (go_at_call 8; have _ := B5; refine (HP'.out w5 (HW.out.below DW5) (HR'.out.below DW5)).mono ?_; rintro e w6 ⟨ao6, c6, rfl, r6, _, _, _, B6⟩; have DW6 := DW5.trans (B6.mono DW5.size); have r56 := r5.below B6)
          | (go_at_call 8; refine (HP.out w3.drew (HW.out.below (below_drewN HD3.out 1)) (HR.out.below (below_drewN HD3.out 1))).mono ?_; rintro e w5 ⟨ao5, c5, rfl, r5, _, _, _, B5⟩; have DW5 := HD3.out.trans ((below_undrew B5).mono HD3.out.size))
          | (go_at_call 7; refine (same_any ao5 ao6 c5 c6 F G hLF w6 r56 r6).mono ?_; rintro e w7 ⟨rfl, n7, rfl⟩; have DW7 := below_drewN DW6 n7)
          | (go_at_call 9; refine (HS.out (w6.drewN n7) (HR.out.below DW7) (HR'.out.below DW7)).mono ?_; rintro e w8 ⟨rfl, B8⟩)))
      all_goals
        have D8 : Below W.heap.size W w8 := DW7.trans (B8.mono DW7.size)
        clear B8 B6 B5 DW5 DW6 DW7 r5 r6 r56 k0 k1 k2 k3 k4 k5 m0 m1 m2 m3 m4 m5
        generalize decide (F = G) = P at hAP ⊢
        go_wp2
        go_ret
        exact ⟨ret_bool (by rw [hAP.out]; simp), D8⟩

set_option maxRecDepth 100000 in
theorem lifted (os : Os) (started : os.Started) (H : Type) (enc : TypeId × Value → H) :
    ReturnsInHanded {} Tryd.checked os 3 .any (fun w args => (Rows.frameApartSpec.pre enc Tryd.prog Tryd.f3 [] false w args ∧ laidMetH Tryd.prog LW w) ∧ sizedMet enc Tryd.prog Tryd.f3 (OpenSpec.ofChange Rows.frameApartSpec) false w args) (Rows.frameApartSpec.post enc Tryd.prog Tryd.f3 false true false false) := by
  refine returnsInHanded_of_change_and (C := Tryd.checked) (X := fun w _ => laidMetH Tryd.prog LW w) (fun _ _ _ hh h => h.of_heap hh) own started (by kernel_rfl) Tryd.func3
    (ChangeSpec.witness_shaped (enc := enc) (C := Tryd.checked) (os := os) (X := fun w _ => laidMetH Tryd.prog LW w) false (World.doorLaid Tryd.prog 400 os) #[.agg #[.int .i64 0, .int .i64 0, .int .i64 0, .int .i64 0, .int .i64 0, .slice none 0 0], .agg #[.int .i64 0, .int .i64 0, .int .i64 0, .int .i64 0, .int .i64 0, .slice none 0 0]] 8 rfl (World.shaped_of_RefB (by kernel_rfl) (by kernel_rfl)) (by kernel_rfl) (by kernel_rfl) (by kernel_rfl) (door_met os _)) ?_
  intro W base args ds gs before hval0 hW _ _ hL _
  have hval : ∀ (j : Nat) t v, Tryd.f3.params[j]? = some t → args[j]? = some v → Value.okWide Tryd.prog W .any base t v := hval0
  have hW' := hW
  obtain ⟨p, q, hA0, hV, rfl, hfz, hnd⟩ := hW
  have hA : DataW.TrodAll enc Tryd.prog W 0 (fun _ => true) true Tryd.f3.params.toList args.toList ds p := hA0
  rw [Tryd.params3] at hA hval
  obtain ⟨v0, vs0, d0, ds0, p0, q0, hargs, rfl, rfl, h0, r0⟩ := trodAll_cons hA
  obtain ⟨v1, vs1, d1, ds1, p1, q1, rfl, rfl, rfl, h1, r1⟩ := trodAll_cons r0
  obtain ⟨rfl, rfl, rfl⟩ := trodAll_nil r1
  obtain rfl : args = #[v0, v1] := by cases args; simp_all
  obtain ⟨rfl, rfl⟩ := trodVars_none hV
  have k0 := h0
  have lt0 : ∀ x ∈ p0, x.block < W.heap.size := by obtain ⟨m, hm⟩ := k0; exact DataW.trod_lt m _ _ _ hm
  obtain ⟨tx0, sq0, an0, rs0, kd0, a0, len0, cap0, z0, rfl, w0⟩ := open_frame (hval 0 24 v0 rfl rfl) h0
  have k1 := h1
  have lt1 : ∀ x ∈ p1, x.block < W.heap.size := by obtain ⟨m, hm⟩ := k1; exact DataW.trod_lt m _ _ _ hm
  obtain ⟨tx1, sq1, an1, rs1, kd1, a1, len1, cap1, z1, rfl, w1⟩ := open_frame (hval 1 24 v1 rfl rfl) h1
  clear hA0 hval0
  refine (walk tx0 sq0 an0 rs0 kd0 a0 len0 cap0 z0 tx1 sq1 an1 rs1 kd1 a1 len1 cap1 z1 W w0 w1 (laid_fact hL)).mono fun e W' ⟨he, bel⟩ => ?_
  subst he
  exact ⟨_, rfl, _, _, _, [], _, [], hW', trodAll_mk1 (shut_bool Tryd.underlying4 _), (trodAll_cons_mk (Below.trod laidOut (by kernel_rfl) (of_decide_eq_true (by kernel_rfl)) k0 bel lt0) (trodAll_cons_mk (Below.trod laidOut (by kernel_rfl) (of_decide_eq_true (by kernel_rfl)) k1 bel lt1) trodAll_mk0)), rfl, bel.frame _, fun h => by cases h⟩

theorem over : Rows.frameApartRow.holds Tryd.pinned (OpenSpec.ofChange Rows.frameApartSpec) :=
  OpenClaim.holds_of_wide 3 Tryd.f3 rfl rfl rfl rfl rfl rfl rfl ⟨rfl, rfl, rfl, rfl, rfl⟩ rfl rfl rfl rfl rfl (by kernel_rfl) Tryd.func3 (by kernel_rfl)
    (of_decide_eq_true (by kernel_rfl)) (by unfold Func.isWrapper; first | (rw [if_pos (by decide +kernel)]; kernel_rfl) | (rw [if_neg (by decide +kernel)]; exact ⟨rfl, rfl⟩))
    (fun os started H enc _ => lifted os started H enc)

end Go.Proofs.YtaieohnppeapfabDoor.LFrameApart

namespace Go.Proofs.YtaieohnppeapfabDoor
theorem frameApart_holds : Rows.FrameApartCardSaid :=
  Claim7.holds_tied_plain_at .later [] [.data] true (true, "65dfb3539dee852fdd8afe3b658941b2b7cace5b0a5c1b92a043ec3804d5e070") false
    LFrameApart.over (fun _ h => by cases h) (by kernel_rfl) (fun _ h => by cases h) frameApart_row_tie rfl ⟨rfl, rfl⟩ (by kernel_rfl) rfl
    (fun f fn hf hfn => by
      obtain rfl : f = 3 := Option.some.inj ((show Tryd.prog.funcNamed "gurney/gurneylaw03.FrameApart" = some 3 by kernel_rfl).symm.trans hf) |>.symm
      obtain rfl : fn = Tryd.f3 := (Option.some.inj (Tryd.func3.symm.trans hfn)).symm
      exact ⟨by kernel_rfl, fun j t ht => by
        rw [Tryd.params3] at ht
        have hm : t ∈ [24, 24] := by simpa using Array.mem_of_getElem? ht
        have hall : ([24, 24].all fun u => !Tryd.prog.wantsStandIn u) = true := by kernel_rfl
        exact (show Tryd.prog.wantsStandIn t = false by simpa using List.all_eq_true.1 hall t hm)⟩)
    (by kernel_rfl)
#print axioms frameApart_holds
end Go.Proofs.YtaieohnppeapfabDoor
