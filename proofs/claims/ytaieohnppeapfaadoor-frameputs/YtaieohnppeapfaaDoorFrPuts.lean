/- FramePuts (layer 3): of every two frames, in whatever memory: whether a frame of up to 300 bytes is right, its bytes, and which frames are the same, are the document's; the table of widths as the program's text lays it. -/
import Derived.Test.YtaieohnppeapfaaDoorFrmAlive
import Derived.Test.YtaieohnppeapfaaDoorFrmLaid
import Derived.Test.YtaieohnppeapfaaDoorFrameArg
import Derived.Test.YtaieohnppeapfaaDoorRefThreeB
namespace Go.Proofs.YtaieohnppeapfaaDoor.LFramePuts
open Go.ChangeShapes Go.WideShapes Go.ChangeAt Go.RowKit
open Bt

set_option maxRecDepth 100000 in
set_option maxHeartbeats 4000000 in
theorem walk (tx sq an rs kd : Int) (a : Option Addr) (len cap : Nat) (zs : List Int) (tx' sq' an' rs' kd' : Int) (a' : Option Addr) (len' cap' : Nat) (zs' : List Int) (W : World)
    (w0 : (Lit.int .i64 tx).wf = true ∧ (Lit.int .i64 sq).wf = true ∧ (Lit.int .i64 an).wf = true ∧ (Lit.int .i64 rs).wf = true ∧ (Lit.int .i64 kd).wf = true ∧ IsRow .u8 W a len cap zs) (w1 : (Lit.int .i64 tx').wf = true ∧ (Lit.int .i64 sq').wf = true ∧ (Lit.int .i64 an').wf = true ∧ (Lit.int .i64 rs').wf = true ∧ (Lit.int .i64 kd').wf = true ∧ IsRow .u8 W a' len' cap' zs') (hw : Wid W) :
    Calls Tryd.prog 3 #[Fr tx sq an rs kd a len cap, Fr tx' sq' an' rs' kd' a' len' cap'] W fun e W' => e = .returned (.bool true) ∧ Below W.heap.size W W' := by
  obtain ⟨_, _, _, _, _, h⟩ := w0
  obtain ⟨ds, rfl, h256, hr⟩ := h.bytes
  have hn := Hid.intro h.none_cap
  clear h
  obtain ⟨_, _, _, _, _, h⟩ := w1
  obtain ⟨es, rfl, h256', hr'⟩ := h.bytes
  clear h
  have HR := Hid.intro hr
  have H256 := Hid.intro h256
  have HR' := Hid.intro hr'
  have H256' := Hid.intro h256'
  have BX := ((Below.refl _ W).alloc (Nat.le_refl _) (.cells #[.int .i64 tx, .int .i64 sq, .int .i64 an, .int .i64 rs, .int .i64 kd, .slice a ds.length cap] 24)).alloc (World.size_alloc W _ ▸ Nat.le_succ _) (.cells #[.int .i64 tx', .int .i64 sq', .int .i64 an', .int .i64 rs', .int .i64 kd', .slice a' es.length cap'] 24)
  have hX0 := heap_alloc2_old W (.cells #[.int .i64 tx, .int .i64 sq, .int .i64 an, .int .i64 rs, .int .i64 kd, .slice a ds.length cap] 24) (.cells #[.int .i64 tx', .int .i64 sq', .int .i64 an', .int .i64 rs', .int .i64 kd', .slice a' es.length cap'] 24)
  have hX1 := heap_alloc2_new W (.cells #[.int .i64 tx, .int .i64 sq, .int .i64 an, .int .i64 rs, .int .i64 kd, .slice a ds.length cap] 24) (.cells #[.int .i64 tx', .int .i64 sq', .int .i64 an', .int .i64 rs', .int .i64 kd', .slice a' es.length cap'] 24)
  have HW := Hid.intro hw
  clear hr h256 hr' h256' hw
  go_enter Tryd.func3, Tryd.ntmps3
  go_wp2_with fail
  generalize (W.alloc (.cells #[.int .i64 tx, .int .i64 sq, .int .i64 an, .int .i64 rs, .int .i64 kd, .slice a ds.length cap] 24)).alloc (.cells #[.int .i64 tx', .int .i64 sq', .int .i64 an', .int .i64 rs', .int .i64 kd', .slice a' es.length cap'] 24) = X at BX hX0 hX1 ⊢
  generalize W.heap.size + 1 = b1 at hX1 ⊢
  generalize W.heap.size = b0 at hX0 ⊢
  refine (alive_any X (HW.out.below BX)).mono ?_
  rintro e w1 ⟨rfl, B1⟩
  have D1 := BX.trans (B1.mono BX.size)
  have x0 := (B1.block b0 (lt_of_heap hX0)).trans hX0
  have x1 := (B1.block b1 (lt_of_heap hX1)).trans hX1
  have HD1 := Hid.intro D1
  have k5 : w1.cell? ⟨b0, 5, none⟩ = some (.slice a ds.length cap) := by rw [cell_of_row _ _ _ _ _ _ x0]; rfl
  have m5 : w1.cell? ⟨b1, 5, none⟩ = some (.slice a' es.length cap') := by rw [cell_of_row _ _ _ _ _ _ x1]; rfl
  clear BX hX0 hX1 B1 D1
  by_cases h300 : 300 < ds.length
  · have j : (300 : Int) < (ds.length : Int) := by omega
    clear x0 x1
    go_wp2
    go_ret
    exact ⟨rfl, HD1.out⟩
  have j1 : decide ((300 : Int) < (ds.length : Int)) = false := by simp; omega
  by_cases h300' : 300 < es.length
  · have j : (300 : Int) < (es.length : Int) := by omega
    clear x0 x1
    go_wp2
    go_ret
    exact ⟨rfl, HD1.out⟩
  have j2 : decide ((300 : Int) < (es.length : Int)) = false := by simp; omega
  have hlF : (putF tx sq an rs kd ds).length < 2 ^ 40 := by
    unfold putF; split
    · rw [frmB_length]; omega
    · simp
  have hld : ds.length < 2 ^ 40 := by omega
  have P1 := Hid.intro (fun (w : World) (h : Wid w) => right_any tx sq an rs kd a ds.length cap w h)
  have P2 := Hid.intro (fun (w : World) => refRight_any tx sq an rs kd a ds.length cap w)
  have P3 := Hid.intro (fun (w : World) (h1 : Wid w) (h2 : Reads w a ds) => put_frame tx sq an rs kd a cap ds hn.out H256.out w h1 h2)
  have P4 := Hid.intro (fun (w : World) (h2 : Reads w a ds) => refPut_any tx sq an rs kd a cap ds hn.out H256.out w h2)
  have P6 := Hid.intro (fun (w : World) (h1 : Reads w a ds) (h2 : Reads w a' es) => fsame_any tx sq an rs kd tx' sq' an' rs' kd' a a' cap cap' ds es H256.out H256'.out w h1 h2)
  have P7 := Hid.intro (fun (w : World) (h1 : Reads w a ds) (h2 : Reads w a' es) => refFSame_any tx sq an rs kd tx' sq' an' rs' kd' a a' cap cap' ds es hld w h1 h2)
  generalize isFrm tx sq an rs kd ds.length = bf at P1 P2
  generalize putF tx sq an rs kd ds = F at P3 P4 hlF
  generalize sameFrm tx sq an rs kd ds tx' sq' an' rs' kd' es = Q at P6 P7
  have P5 : Hid (∀ (x y : Option Addr) (c d : Nat) (w : World), Reads w x F → Reads w y F → Calls Tryd.prog 12 #[.slice x F.length c, .slice y F.length d] w fun e w' => e = .returned (.bool true) ∧ ∃ n, w' = w.drewN n) := by
    intro x y c d w h1 h2
    have s := same_any x y c d F F hlF w h1 h2
    rwa [show decide (F = F) = true from by simp] at s
  have k0 : w1.cell? ⟨b0, 0, none⟩ = some (.int .i64 tx) := by rw [cell_of_row _ _ _ _ _ _ x0]; rfl
  have k1 : w1.cell? ⟨b0, 1, none⟩ = some (.int .i64 sq) := by rw [cell_of_row _ _ _ _ _ _ x0]; rfl
  have k2 : w1.cell? ⟨b0, 2, none⟩ = some (.int .i64 an) := by rw [cell_of_row _ _ _ _ _ _ x0]; rfl
  have k3 : w1.cell? ⟨b0, 3, none⟩ = some (.int .i64 rs) := by rw [cell_of_row _ _ _ _ _ _ x0]; rfl
  have k4 : w1.cell? ⟨b0, 4, none⟩ = some (.int .i64 kd) := by rw [cell_of_row _ _ _ _ _ _ x0]; rfl
  have m0 : w1.cell? ⟨b1, 0, none⟩ = some (.int .i64 tx') := by rw [cell_of_row _ _ _ _ _ _ x1]; rfl
  have m1 : w1.cell? ⟨b1, 1, none⟩ = some (.int .i64 sq') := by rw [cell_of_row _ _ _ _ _ _ x1]; rfl
  have m2 : w1.cell? ⟨b1, 2, none⟩ = some (.int .i64 an') := by rw [cell_of_row _ _ _ _ _ _ x1]; rfl
  have m3 : w1.cell? ⟨b1, 3, none⟩ = some (.int .i64 rs') := by rw [cell_of_row _ _ _ _ _ _ x1]; rfl
  have m4 : w1.cell? ⟨b1, 4, none⟩ = some (.int .i64 kd') := by rw [cell_of_row _ _ _ _ _ _ x1]; rfl
  clear x0 x1 hlF hld
  go_wp2_with fail
  clear j1 j2 h300 h300'
  have TT : Hid (∀ w', Below w1.heap.size w1 w' → Below W.heap.size W w' ∧ Wid w' ∧ Reads w' a ds ∧ Reads w' a' es) := fun w' h => by
    have D := HD1.out.trans (h.mono HD1.out.size)
    exact ⟨D, HW.out.below D, HR.out.below D, HR'.out.below D⟩
  clear HD1 HR HR' HW
  go_region_held3 (fun w' => w'.cell? ⟨b0, 0, none⟩ = some (.int .i64 tx) ∧ w'.cell? ⟨b0, 1, none⟩ = some (.int .i64 sq) ∧ w'.cell? ⟨b0, 2, none⟩ = some (.int .i64 an) ∧ w'.cell? ⟨b0, 3, none⟩ = some (.int .i64 rs) ∧ w'.cell? ⟨b0, 4, none⟩ = some (.int .i64 kd) ∧ w'.cell? ⟨b0, 5, none⟩ = some (.slice a ds.length cap) ∧ w'.cell? ⟨b1, 0, none⟩ = some (.int .i64 tx') ∧ w'.cell? ⟨b1, 1, none⟩ = some (.int .i64 sq') ∧ w'.cell? ⟨b1, 2, none⟩ = some (.int .i64 an') ∧ w'.cell? ⟨b1, 3, none⟩ = some (.int .i64 rs') ∧ w'.cell? ⟨b1, 4, none⟩ = some (.int .i64 kd') ∧ w'.cell? ⟨b1, 5, none⟩ = some (.slice a' es.length cap'))
    (first | exact ⟨below_cell E8 k0, below_cell E8 k1, below_cell E8 k2, below_cell E8 k3, below_cell E8 k4, below_cell E8 k5, below_cell E8 m0, below_cell E8 m1, below_cell E8 m2, below_cell E8 m3, below_cell E8 m4, below_cell E8 m5⟩ | exact ⟨below_cell E7 k0, below_cell E7 k1, below_cell E7 k2, below_cell E7 k3, below_cell E7 k4, below_cell E7 k5, below_cell E7 m0, below_cell E7 m1, below_cell E7 m2, below_cell E7 m3, below_cell E7 m4, below_cell E7 m5⟩ | exact ⟨below_cell E6 k0, below_cell E6 k1, below_cell E6 k2, below_cell E6 k3, below_cell E6 k4, below_cell E6 k5, below_cell E6 m0, below_cell E6 m1, below_cell E6 m2, below_cell E6 m3, below_cell E6 m4, below_cell E6 m5⟩ | exact ⟨below_cell E5 k0, below_cell E5 k1, below_cell E5 k2, below_cell E5 k3, below_cell E5 k4, below_cell E5 k5, below_cell E5 m0, below_cell E5 m1, below_cell E5 m2, below_cell E5 m3, below_cell E5 m4, below_cell E5 m5⟩ | exact ⟨below_cell E4 k0, below_cell E4 k1, below_cell E4 k2, below_cell E4 k3, below_cell E4 k4, below_cell E4 k5, below_cell E4 m0, below_cell E4 m1, below_cell E4 m2, below_cell E4 m3, below_cell E4 m4, below_cell E4 m5⟩ | exact ⟨below_cell E3 k0, below_cell E3 k1, below_cell E3 k2, below_cell E3 k3, below_cell E3 k4, below_cell E3 k5, below_cell E3 m0, below_cell E3 m1, below_cell E3 m2, below_cell E3 m3, below_cell E3 m4, below_cell E3 m5⟩ | exact ⟨below_cell E2 k0, below_cell E2 k1, below_cell E2 k2, below_cell E2 k3, below_cell E2 k4, below_cell E2 k5, below_cell E2 m0, below_cell E2 m1, below_cell E2 m2, below_cell E2 m3, below_cell E2 m4, below_cell E2 m5⟩ | go_keep)
    ((first
      | (go_at_call 10; refine (P1.out w1.drew (TT.out w1.drew (below_drewN (Below.refl _ w1) 1)).2.1).mono ?_; rintro e w2 ⟨rfl, B2⟩; have E2 : Below w1.heap.size w1 w2 := below_undrew B2)
      | (go_at_call 11; refine (P2.out w2).mono ?_; rintro e w3 ⟨rfl, B3⟩; have E3 := E2.trans (B3.mono E2.size))
      | (go_at_call 13; refine (P3.out w3 (TT.out w3 E3).2.1 (TT.out w3 E3).2.2.1).mono ?_; rintro e w4 ⟨a4, c4, rfl, r4, _, _, _, B4⟩; have E4 := E3.trans (B4.mono E3.size))
      | (go_at_call 14; refine (P4.out w4 (TT.out w4 E4).2.2.1).mono ?_; rintro e w5 ⟨a5, c5, rfl, r5, B5⟩; have E5 := E4.trans (B5.mono E4.size); have r45 := r4.below B5)
      | (go_at_call 12; refine (P5.out a4 a5 c4 c5 w5 r45 r5).mono ?_; rintro e w6 ⟨rfl, n6, rfl⟩; have E6 := below_drewN E5 n6)
      | (go_at_call 15; refine (P6.out (w5.drewN n6) (TT.out _ E6).2.2.1 (TT.out _ E6).2.2.2).mono ?_; rintro e w7 ⟨rfl, B7⟩; have E7 := E6.trans (B7.mono E6.size))
      | (go_at_call 16; refine (P7.out w7 (TT.out w7 E7).2.2.1 (TT.out w7 E7).2.2.2).mono ?_; rintro e w8 ⟨rfl, B8⟩; have E8 := E7.trans (B8.mono E7.size))))
  all_goals
    have D8 : Below W.heap.size W w8 := (TT.out w8 E8).1
    clear E2 E3 E4 E5 E6 E7 E8 B2 B3 B4 B5 B7 B8 r4 r5 r45 k0 k1 k2 k3 k4 k5 m0 m1 m2 m3 m4 m5 TT P1 P2 P3 P4 P5 P6 P7
    go_wp2
    go_ret
    exact ⟨ret_bool (by simp), D8⟩

set_option maxRecDepth 100000 in
theorem lifted (os : Os) (started : os.Started) (H : Type) (enc : TypeId × Value → H) :
    ReturnsInHanded {} Tryd.checked os 3 .any (fun w args => (Rows.framePutsSpec.pre enc Tryd.prog Tryd.f3 [] false w args ∧ laidMetH Tryd.prog LW w) ∧ sizedMet enc Tryd.prog Tryd.f3 (OpenSpec.ofChange Rows.framePutsSpec) false w args) (Rows.framePutsSpec.post enc Tryd.prog Tryd.f3 false true false false) := by
  refine returnsInHanded_of_change_and (C := Tryd.checked) (X := fun w _ => laidMetH Tryd.prog LW w) (fun _ _ _ hh h => h.of_heap hh) own started (by kernel_rfl) Tryd.func3
    (ChangeSpec.witness_shaped (enc := enc) (C := Tryd.checked) (os := os) (X := fun w _ => laidMetH Tryd.prog LW w) false (World.doorLaid Tryd.prog 400 os) #[.agg #[.int .i64 0, .int .i64 0, .int .i64 0, .int .i64 0, .int .i64 0, .slice none 0 0], .agg #[.int .i64 0, .int .i64 0, .int .i64 0, .int .i64 0, .int .i64 0, .slice none 0 0]] 8 rfl (World.shaped_of_RefB (by kernel_rfl) (by kernel_rfl)) (by kernel_rfl) (by kernel_rfl) (by kernel_rfl) (door_met os _)) ?_
  intro W base args ds gs before hval0 hW _ _ hL _
  have hval : ∀ (j : Nat) t v, Tryd.f3.params[j]? = some t → args[j]? = some v → Value.okWide Tryd.prog W .any base t v := hval0
  have hW' := hW
  obtain ⟨p, q, hA0, hV, rfl, hfz, hnd⟩ := hW
  have hA : DataW.TrodAll enc Tryd.prog W 0 (fun _ => true) true Tryd.f3.params.toList args.toList ds p := hA0
  rw [Tryd.params3] at hA hval
  obtain ⟨v0, vs0, d0, ds0, p0, q0, hargs, rfl, rfl, h0, r0⟩ := trodAll_cons hA
  obtain ⟨v1, vs1, d1, ds1, p1, q1, rfl, rfl, rfl, h1, r1⟩ := trodAll_cons r0
  obtain ⟨rfl, rfl, rfl⟩ := trodAll_nil r1
  obtain rfl : args = #[v0, v1] := by cases args; simp_all
  obtain ⟨rfl, rfl⟩ := trodVars_none hV
  have k0 := h0
  have lt0 : ∀ x ∈ p0, x.block < W.heap.size := by obtain ⟨m, hm⟩ := k0; exact DataW.trod_lt m _ _ _ hm
  obtain ⟨tx0, sq0, an0, rs0, kd0, a0, len0, cap0, z0, rfl, w0⟩ := open_frame (hval 0 24 v0 rfl rfl) h0
  have k1 := h1
  have lt1 : ∀ x ∈ p1, x.block < W.heap.size := by obtain ⟨m, hm⟩ := k1; exact DataW.trod_lt m _ _ _ hm
  obtain ⟨tx1, sq1, an1, rs1, kd1, a1, len1, cap1, z1, rfl, w1⟩ := open_frame (hval 1 24 v1 rfl rfl) h1
  clear hA0 hval0
  refine (walk tx0 sq0 an0 rs0 kd0 a0 len0 cap0 z0 tx1 sq1 an1 rs1 kd1 a1 len1 cap1 z1 W w0 w1 (laid_fact hL)).mono fun e W' ⟨he, bel⟩ => ?_
  subst he
  exact ⟨_, rfl, _, _, _, [], _, [], hW', trodAll_mk1 (shut_bool Tryd.underlying4 _), (trodAll_cons_mk (Below.trod laidOut (by kernel_rfl) (of_decide_eq_true (by kernel_rfl)) k0 bel lt0) (trodAll_cons_mk (Below.trod laidOut (by kernel_rfl) (of_decide_eq_true (by kernel_rfl)) k1 bel lt1) trodAll_mk0)), rfl, bel.frame _, fun h => by cases h⟩

theorem over : Rows.framePutsRow.holds Tryd.pinned (OpenSpec.ofChange Rows.framePutsSpec) :=
  OpenClaim.holds_of_wide 3 Tryd.f3 rfl rfl rfl rfl rfl rfl rfl ⟨rfl, rfl, rfl, rfl, rfl⟩ rfl rfl rfl rfl rfl (by kernel_rfl) Tryd.func3 (by kernel_rfl)
    (of_decide_eq_true (by kernel_rfl)) (by unfold Func.isWrapper; first | (rw [if_pos (by decide +kernel)]; kernel_rfl) | (rw [if_neg (by decide +kernel)]; exact ⟨rfl, rfl⟩))
    (fun os started H enc _ => lifted os started H enc)

end Go.Proofs.YtaieohnppeapfaaDoor.LFramePuts

namespace Go.Proofs.YtaieohnppeapfaaDoor
theorem framePuts_holds : Rows.FramePutsCardSaid :=
  Claim7.holds_tied_plain_at .later [] [.data] true (true, "6bd1dd96be7cf56c0ac1baf81702624cde209933069c32281b4d364c2e018b08") false
    LFramePuts.over (fun _ h => by cases h) (by kernel_rfl) (fun _ h => by cases h) framePuts_row_tie rfl ⟨rfl, rfl⟩ (by kernel_rfl) rfl
    (fun f fn hf hfn => by
      obtain rfl : f = 3 := Option.some.inj ((show Tryd.prog.funcNamed "gurney/gurneylaw03.FramePuts" = some 3 by kernel_rfl).symm.trans hf) |>.symm
      obtain rfl : fn = Tryd.f3 := (Option.some.inj (Tryd.func3.symm.trans hfn)).symm
      exact ⟨by kernel_rfl, fun j t ht => by
        rw [Tryd.params3] at ht
        have hm : t ∈ [24, 24] := by simpa using Array.mem_of_getElem? ht
        have hall : ([24, 24].all fun u => !Tryd.prog.wantsStandIn u) = true := by kernel_rfl
        exact (show Tryd.prog.wantsStandIn t = false by simpa using List.all_eq_true.1 hall t hm)⟩)
    (by kernel_rfl)
#print axioms framePuts_holds
end Go.Proofs.YtaieohnppeapfaaDoor
