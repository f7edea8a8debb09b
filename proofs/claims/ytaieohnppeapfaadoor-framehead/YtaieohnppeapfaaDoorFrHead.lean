/- FrameHead (layer 3): of every frame, in whatever memory: a right frame's first byte is its transmitter, its fifth how many bytes it carries, which stand from the eighth on; the table of widths as the program's text lays it. -/
import Derived.Test.YtaieohnppeapfaaDoorFrmAlive
import Derived.Test.YtaieohnppeapfaaDoorFrmLaid
import Derived.Test.YtaieohnppeapfaaDoorFrameArg
import Derived.Test.YtaieohnppeapfaaDoorRefSameB
namespace Go.Proofs.YtaieohnppeapfaaDoor.LFrameHead
open Go.ChangeShapes Go.WideShapes Go.ChangeAt Go.RowKit
open Bt

theorem frm_first (h : Nat) (ds : List Nat) : (frmB h ds).getD 0 0 = h / 16777216 % 256 := by
  have f := (frm_head h ds.length (ds ++ numB (crc32 (headB h ds.length ++ ds)) 4)).2.2.2
  rw [← List.append_assoc] at f
  change (frmB h ds).take 4 = _ at f
  have e : numB h 4 = [h / 16777216 % 256, h / 65536 % 256, h / 256 % 256, h % 256] := by
    rw [numB_succ, numB_succ, numB_succ, numB_succ]
    simp only [numB, List.range_zero, List.map_nil, List.nil_append, List.cons_append, Nat.div_div_eq_div_mul]
  rw [← getD_take' (frmB h ds) 4 0 (by decide), f, e]
  rfl

set_option maxRecDepth 100000 in
set_option maxHeartbeats 2000000 in
theorem walk (tx sq an rs kd : Int) (a : Option Addr) (len cap : Nat) (zs : List Int) (W : World)
    (w0 : (Lit.int .i64 tx).wf = true ∧ (Lit.int .i64 sq).wf = true ∧ (Lit.int .i64 an).wf = true ∧ (Lit.int .i64 rs).wf = true ∧ (Lit.int .i64 kd).wf = true ∧ IsRow .u8 W a len cap zs) (hw : Wid W) :
    Calls Tryd.prog 7 #[Fr tx sq an rs kd a len cap] W fun e W' => e = .returned (.bool true) ∧ Below W.heap.size W W' := by
  obtain ⟨_, _, _, _, _, h⟩ := w0
  obtain ⟨ds, rfl, h256, hr⟩ := h.bytes
  have hn := Hid.intro h.none_cap
  clear h
  have HR := Hid.intro hr
  have H256 := Hid.intro h256
  have BX := (Below.refl _ W).alloc (Nat.le_refl _) (.cells #[.int .i64 tx, .int .i64 sq, .int .i64 an, .int .i64 rs, .int .i64 kd, .slice a ds.length cap] 24)
  have hX := heap_alloc_new W (.cells #[.int .i64 tx, .int .i64 sq, .int .i64 an, .int .i64 rs, .int .i64 kd, .slice a ds.length cap] 24)
  have HW := Hid.intro hw
  clear hr h256 hw
  go_enter Tryd.func7, Tryd.ntmps7
  go_wp2_with fail
  generalize W.alloc (.cells #[.int .i64 tx, .int .i64 sq, .int .i64 an, .int .i64 rs, .int .i64 kd, .slice a ds.length cap] 24) = X at BX hX ⊢
  generalize W.heap.size = bx at hX ⊢
  refine (alive_any X (HW.out.below BX)).mono ?_
  rintro e w1 ⟨rfl, B1⟩
  have D1 := BX.trans (B1.mono BX.size)
  have x1 := (B1.block bx (lt_of_heap hX)).trans hX
  have HX1 := Hid.intro x1
  have HD1 := Hid.intro D1
  clear BX hX B1 D1 x1
  have HRT := Hid.intro (right_any tx sq an rs kd a ds.length cap w1 (HW.out.below HD1.out))
  have HPT := Hid.intro (fun (w : World) (h1 : Wid w) (h2 : Reads w a ds) => put_frame tx sq an rs kd a cap ds hn.out H256.out w h1 h2)
  have HPF : Hid (isFrm tx sq an rs kd ds.length = true → putF tx sq an rs kd ds = frmB (headN tx.toNat sq.toNat an.toNat rs.toNat kd.toNat) ds) := fun h => by unfold putF; rw [if_pos h]
  have HFM : Hid (isFrm tx sq an rs kd ds.length = true → (0 ≤ tx ∧ tx < 256) ∧ (0 ≤ sq ∧ sq < 4096) ∧ (0 ≤ an ∧ an < 8) ∧ (0 ≤ rs ∧ rs < 128) ∧ (0 ≤ kd ∧ kd < 4) ∧ ds.length ≤ 60) := fun h => isFrm_iff.1 h
  generalize isFrm tx sq an rs kd ds.length = b at HRT HPF HFM
  generalize putF tx sq an rs kd ds = F at HPT HPF
  go_wp2_with (refine wpList_load_row rfl 24 (.tmp 1) rfl bx rfl 24 #[.int .i64 tx, .int .i64 sq, .int .i64 an, .int .i64 rs, .int .i64 kd, .slice a ds.length cap] (0, 0) _ HX1.out Tryd.underlying24 rfl (by kernel_rfl) ?_)
  refine HRT.out.mono ?_
  rintro e w2 ⟨rfl, B2⟩
  have D2 := HD1.out.trans (B2.mono HD1.out.size)
  have x2 := (B2.block bx (lt_of_heap HX1.out)).trans HX1.out
  have HX2 := Hid.intro x2
  have HD2 := Hid.intro D2
  clear HRT B2 D2 x2 HX1 HD1
  cases b with
  | false =>
    go_wp2
    go_ret
    exact ⟨rfl, HD2.out⟩
  | true =>
    have hF := HPF.out rfl
    have hM := HFM.out rfl
    have hNl := headN_lt tx.toNat sq.toNat an.toNat rs.toNat kd.toNat (by omega) (by omega) (by omega) (by omega) (by omega)
    have f0 := frm_first (headN tx.toNat sq.toNat an.toNat rs.toNat kd.toNat) ds
    have ff := frm_fields (headN tx.toNat sq.toNat an.toNat rs.toNat kd.toNat) ds hNl
    have fl := frmB_length (headN tx.toNat sq.toNat an.toNat rs.toNat kd.toNat) ds
    have f5 := (headN_fields tx.toNat sq.toNat an.toNat rs.toNat kd.toNat (by omega) (by omega) (by omega) (by omega)).2.2.2.2
    rw [← hF] at f0 ff fl
    rw [f5] at f0
    have e0 : ((F.getD 0 0 : Nat) : Int) = tx := by omega
    have e4 := ff.2.1
    have e7 := ff.2.2
    have l60 := hM.2.2.2.2.2
    have h0 : F.getD 0 0 < 256 := by omega
    clear hF hM hNl f0 ff f5 HPF HFM
    have HE7 := Hid.intro e7
    clear e7
    go_wp2_with (refine wpList_load_row rfl 24 (.tmp 1) rfl bx rfl 24 #[.int .i64 tx, .int .i64 sq, .int .i64 an, .int .i64 rs, .int .i64 kd, .slice a ds.length cap] (0, 0) _ HX2.out Tryd.underlying24 rfl (by kernel_rfl) ?_)
    refine (HPT.out w2 (HW.out.below HD2.out) (HR.out.below HD2.out)).mono ?_
    rintro e w3 ⟨ao, c, rfl, hr3, _, hc3, _, B3⟩
    have D3 := HD2.out.trans (B3.mono HD2.out.size)
    have x3 := (B3.block bx (lt_of_heap HX2.out)).trans HX2.out
    obtain ⟨bb, off, rfl, hcell⟩ := reads_at hr3 (by omega)
    have q0 := hcell 0 (by omega)
    have q4 := hcell 4 (by omega)
    have g0 : F[0]'(by omega) = F.getD 0 0 := by rw [List.getD_eq_getElem?_getD, List.getElem?_eq_getElem (by omega)]; rfl
    have g4 : F[4]'(by omega) = ds.length := by rw [← e4, List.getD_eq_getElem?_getD, List.getElem?_eq_getElem (by omega)]; rfl
    rw [g0, Nat.add_zero] at q0
    rw [g4] at q4
    have SS : Hid (∀ n, Calls Tryd.prog 12 #[.slice (some ⟨bb, off + 7, none⟩) ds.length (c - 7), .slice a ds.length cap] (w3.drewN n) fun e w' => e = .returned (.bool true) ∧ ∃ k, w' = (w3.drewN n).drewN k) := by
      intro n
      have r := reads_part hr3 7 ds.length (by omega)
      rw [HE7.out] at r
      have s := same_any (some ⟨bb, off + 7, none⟩) a (c - 7) cap ds ds (by omega) (w3.drewN n) (r.kept ((Chg.refl (fun _ => False) w3).drewN n) (fun _ _ h => h)) ((HR.out.below D3).kept ((Chg.refl (fun _ => False) w3).drewN n) (fun _ _ h => h))
      rw [show decide (ds = ds) = true from by simp] at s
      exact s
    have c0 : w3.cell? ⟨bx, 0, none⟩ = some (.int .i64 tx) := by rw [cell_of_row _ _ _ _ _ _ x3]; rfl
    have c5 : w3.cell? ⟨bx, 5, none⟩ = some (.slice a ds.length cap) := by rw [cell_of_row _ _ _ _ _ _ x3]; rfl
    clear g0 g4
    generalize F.getD 0 0 = T at q0 e0 h0
    subst e0
    obtain ⟨Y, hY⟩ : ∃ Y : Nat, Y = 7 + ds.length := ⟨_, rfl⟩
    have hw7 : IntKind.i64.wrap (7 + (ds.length : Int)) = (Y : Int) := by rw [IntWalk.i64_in _ (by omega)]; omega
    have y1 : (7 : Int) ≤ (Y : Int) := by omega
    have y2 : (Y : Int) ≤ (c : Int) := by omega
    have y3 : Y - 7 = ds.length := by omega
    have y4 : ¬ c = 7 := by omega
    have hw11 : IntKind.i64.wrap (11 + (ds.length : Int)) = (F.length : Int) := by rw [IntWalk.i64_in _ (by omega)]; omega
    have hL0 : (0 : Int) < (F.length : Int) := by omega
    have hL4 : (4 : Int) < (F.length : Int) := by omega
    have hwT : IntKind.i64.wrap (T : Int) = (T : Int) := IntWalk.i64_in _ (by omega)
    have hwD : IntKind.i64.wrap (ds.length : Int) = (ds.length : Int) := IntWalk.i64_in _ (by omega)
    have hLn : 0 < F.length := by omega
    clear hY
    generalize F.length = L at hLn hw11 hL0 hL4 hc3 fl ⊢
    have HD3 := Hid.intro D3
    clear hcell hr3 x3 B3 D3 e4 fl hc3 HX2 HD2 HPT HE7
    go_wp2_with fail
    go_region_held3 (fun w' => w'.cell? ⟨bx, 0, none⟩ = some (.int .i64 (T : Int)) ∧ w'.cell? ⟨bx, 5, none⟩ = some (.slice a ds.length cap) ∧ w'.cell? ⟨bb, off, none⟩ = some (U T) ∧ w'.cell? ⟨bb, off + 4, none⟩ = some (U ds.length)) (go_keep)
      ((first | (go_at_call 12; refine (SS.out 1).mono ?_; rintro e w4 ⟨rfl, k, rfl⟩)))
    go_wp2
    go_ret
    exact ⟨rfl, below_drewN HD3.out _⟩

set_option maxRecDepth 100000 in
theorem lifted (os : Os) (started : os.Started) (H : Type) (enc : TypeId × Value → H) :
    ReturnsInHanded {} Tryd.checked os 7 .any (fun w args => (Rows.frameHeadSpec.pre enc Tryd.prog Tryd.f7 [] false w args ∧ laidMetH Tryd.prog LW w) ∧ sizedMet enc Tryd.prog Tryd.f7 (OpenSpec.ofChange Rows.frameHeadSpec) false w args) (Rows.frameHeadSpec.post enc Tryd.prog Tryd.f7 false true false false) := by
  refine returnsInHanded_of_change_and (C := Tryd.checked) (X := fun w _ => laidMetH Tryd.prog LW w) (fun _ _ _ hh h => h.of_heap hh) own started (by kernel_rfl) Tryd.func7
    (ChangeSpec.witness_shaped (enc := enc) (C := Tryd.checked) (os := os) (X := fun w _ => laidMetH Tryd.prog LW w) false (World.doorLaid Tryd.prog 400 os) #[.agg #[.int .i64 0, .int .i64 0, .int .i64 0, .int .i64 0, .int .i64 0, .slice none 0 0]] 8 rfl (World.shaped_of_RefB (by kernel_rfl) (by kernel_rfl)) (by kernel_rfl) (by kernel_rfl) (by kernel_rfl) (door_met os _)) ?_
  intro W base args ds gs before hval0 hW _ _ hL _
  have hval : ∀ (j : Nat) t v, Tryd.f7.params[j]? = some t → args[j]? = some v → Value.okWide Tryd.prog W .any base t v := hval0
  have hW' := hW
  obtain ⟨p, q, hA0, hV, rfl, hfz, hnd⟩ := hW
  have hA : DataW.TrodAll enc Tryd.prog W 0 (fun _ => true) true Tryd.f7.params.toList args.toList ds p := hA0
  rw [Tryd.params7] at hA hval
  obtain ⟨v0, vs0, d0, ds0, p0, q0, hargs, rfl, rfl, h0, r0⟩ := trodAll_cons hA
  obtain ⟨rfl, rfl, rfl⟩ := trodAll_nil r0
  obtain rfl : args = #[v0] := by cases args; simp_all
  obtain ⟨rfl, rfl⟩ := trodVars_none hV
  have k0 := h0
  have lt0 : ∀ x ∈ p0, x.block < W.heap.size := by obtain ⟨m, hm⟩ := k0; exact DataW.trod_lt m _ _ _ hm
  obtain ⟨tx0, sq0, an0, rs0, kd0, a0, len0, cap0, z0, rfl, w0⟩ := open_frame (hval 0 24 v0 rfl rfl) h0
  clear hA0 hval0
  refine (walk tx0 sq0 an0 rs0 kd0 a0 len0 cap0 z0 W w0 (laid_fact hL)).mono fun e W' ⟨he, bel⟩ => ?_
  subst he
  exact ⟨_, rfl, _, _, _, [], _, [], hW', trodAll_mk1 (shut_bool Tryd.underlying4 _), (trodAll_cons_mk (Below.trod laidOut (by kernel_rfl) (of_decide_eq_true (by kernel_rfl)) k0 bel lt0) trodAll_mk0), rfl, bel.frame _, fun h => by cases h⟩

theorem over : Rows.frameHeadRow.holds Tryd.pinned (OpenSpec.ofChange Rows.frameHeadSpec) :=
  OpenClaim.holds_of_wide 7 Tryd.f7 rfl rfl rfl rfl rfl rfl rfl ⟨rfl, rfl, rfl, rfl, rfl⟩ rfl rfl rfl rfl rfl (by kernel_rfl) Tryd.func7 (by kernel_rfl)
    (of_decide_eq_true (by kernel_rfl)) (by unfold Func.isWrapper; first | (rw [if_pos (by decide +kernel)]; kernel_rfl) | (rw [if_neg (by decide +kernel)]; exact ⟨rfl, rfl⟩))
    (fun os started H enc _ => lifted os started H enc)

end Go.Proofs.YtaieohnppeapfaaDoor.LFrameHead

namespace Go.Proofs.YtaieohnppeapfaaDoor
theorem frameHead_holds : Rows.FrameHeadCardSaid :=
  Claim7.holds_tied_plain_at .later [] [.data] true (true, "6bd1dd96be7cf56c0ac1baf81702624cde209933069c32281b4d364c2e018b08") false
    LFrameHead.over (fun _ h => by cases h) (by kernel_rfl) (fun _ h => by cases h) frameHead_row_tie rfl ⟨rfl, rfl⟩ (by kernel_rfl) rfl
    (fun f fn hf hfn => by
      obtain rfl : f = 7 := Option.some.inj ((show Tryd.prog.funcNamed "gurney/gurneylaw03.FrameHead" = some 7 by kernel_rfl).symm.trans hf) |>.symm
      obtain rfl : fn = Tryd.f7 := (Option.some.inj (Tryd.func7.symm.trans hfn)).symm
      exact ⟨by kernel_rfl, fun j t ht => by
        rw [Tryd.params7] at ht
        have hm : t ∈ [24] := by simpa using Array.mem_of_getElem? ht
        have hall : ([24].all fun u => !Tryd.prog.wantsStandIn u) = true := by kernel_rfl
        exact (show Tryd.prog.wantsStandIn t = false by simpa using List.all_eq_true.1 hall t hm)⟩)
    (by kernel_rfl)
#print axioms frameHead_holds
end Go.Proofs.YtaieohnppeapfaaDoor
