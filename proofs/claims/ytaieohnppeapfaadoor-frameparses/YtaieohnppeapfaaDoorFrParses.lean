/- FrameParses (layer 3): of all bytes, antennas and strengths, in whatever memory: the frame of up to 300 bytes, or the error, and how antennas hear them, are the document's; the table of widths as the program's text lays it. -/
import Derived.Test.YtaieohnppeapfaaDoorFrmAlive
import Derived.Test.YtaieohnppeapfaaDoorFrmLaid
import Derived.Test.YtaieohnppeapfaaDoorRefThreeF
namespace Go.Proofs.YtaieohnppeapfaaDoor.LFrameParses
open Go.ChangeShapes Go.WideShapes Go.ChangeAt Go.RowKit
open Bt

/-- What bytes say: a frame's fields; noughts, where there is an error. -/
def pT (bs : List Nat) (n : Nat) : Int := if parseE bs = 0 then (n : Int) else 0
def pD (bs : List Nat) : List Nat := if parseE bs = 0 then (bs.drop 7).take (bs.getD 4 0) else []
abbrev pN (bs : List Nat) : Nat := readB (bs.take 4)

theorem parse_uni (a : Option Addr) (cap : Nat) (bs : List Nat) (h300 : bs.length ≤ 300) (hcap : bs.length ≤ cap) (hcm : cap ≤ 9223372036854775807) (h256 : ∀ b ∈ bs, b < 256) (w : World) (hw : Wid w) (hr : Reads w a bs) :
    Calls Tryd.prog 17 #[.slice a bs.length cap] w fun e w' => ∃ a2 c2, e = .returned (.tuple #[Fr (pT bs (pN bs / 16777216)) (pT bs (pN bs / 4096 % 4096)) (pT bs (pN bs / 512 % 8)) (pT bs (pN bs / 4 % 128)) (pT bs (pN bs % 4)) a2 (pD bs).length c2, .int .i64 ((parseE bs : Nat) : Int)]) ∧ Reads w' a2 (pD bs) ∧ Below w.heap.size w w' := by
  refine (parse_any a cap bs (by omega) hcap hcm h256 w hw hr).mono ?_
  rintro e w' ⟨B, h⟩
  rcases h with ⟨hE, rfl⟩ | ⟨hE, ao, c, rfl, r, _⟩
  · exact ⟨none, 0, by simp only [pT, pD, if_neg hE]; rfl, fun h => absurd h (by simp [pD, if_neg hE]), B⟩
  · refine ⟨ao, c, by simp only [pT, pD, pN, hE]; rfl, ?_, B⟩
    unfold pD; rw [if_pos hE]; exact r

theorem refParse_uni (a : Option Addr) (cap : Nat) (bs : List Nat) (h300 : bs.length ≤ 300) (hcap : bs.length ≤ cap) (hcm : cap ≤ 9223372036854775807) (h256 : ∀ b ∈ bs, b < 256) (w : World) (hr : Reads w a bs) :
    Calls Tryd.prog 18 #[.slice a bs.length cap] w fun e w' => ∃ a2 c2, e = .returned (.tuple #[Fr (pT bs (pN bs / 16777216)) (pT bs (pN bs / 4096 % 4096)) (pT bs (pN bs / 512 % 8)) (pT bs (pN bs / 4 % 128)) (pT bs (pN bs % 4)) a2 (pD bs).length c2, .int .i64 ((parseE bs : Nat) : Int)]) ∧ Reads w' a2 (pD bs) ∧ Below w.heap.size w w' := by
  refine (refParse_any a cap bs h300 hcap hcm h256 w hr).mono ?_
  rintro e w' ⟨B, h⟩
  rcases h with ⟨hE, rfl⟩ | ⟨hE, ao, c, rfl, r, _⟩
  · exact ⟨none, 0, by simp only [pT, pD, if_neg hE]; rfl, fun h => absurd h (by simp [pD, if_neg hE]), B⟩
  · refine ⟨ao, c, by simp only [pT, pD, pN, hE]; rfl, ?_, B⟩
    unfold pD; rw [if_pos hE]; exact r

theorem heardF_len (bs : List Nat) (n s : Int) : (heardF bs n s).length < 2 ^ 40 := by
  unfold heardF
  split
  · unfold putF
    split
    · rename_i h
      have := (isFrm_iff.1 h).2.2.2.2.2
      rw [frmB_length]; omega
    · simp
  · simp

set_option maxRecDepth 100000 in
set_option maxHeartbeats 4000000 in
theorem walk (a : Option Addr) (len cap : Nat) (zs : List Int) (n s : Int) (W : World)
    (w0 : IsRow .u8 W a len cap zs) (_w1 : (Lit.int .i64 n).wf = true) (_w2 : (Lit.int .i64 s).wf = true) (hw : Wid W) :
    Calls Tryd.prog 4 #[.slice a len cap, .int .i64 n, .int .i64 s] W fun e W' => e = .returned (.bool true) ∧ Below W.heap.size W W' := by
  have hcap : len ≤ cap ∧ cap ≤ 9223372036854775807 := ⟨w0.le_cap, w0.cap_le⟩
  obtain ⟨bs, rfl, h256, hr⟩ := w0.bytes
  clear w0
  have HR := Hid.intro hr
  have H256 := Hid.intro h256
  have HW := Hid.intro hw
  clear hr h256 hw
  go_enter Tryd.func4, Tryd.ntmps4
  go_wp2_with fail
  refine (alive_any W HW.out).mono ?_
  rintro e w1 ⟨rfl, B1⟩
  have HD1 := Hid.intro B1
  clear B1
  by_cases h300 : 300 < bs.length
  · have j : (300 : Int) < (bs.length : Int) := by omega
    go_wp2
    go_ret
    exact ⟨rfl, HD1.out⟩
  have j1 : decide ((300 : Int) < (bs.length : Int)) = false := by simp; omega
  have HP := Hid.intro (fun (w : World) (h1 : Wid w) (h2 : Reads w a bs) => parse_uni a cap bs (by omega) hcap.1 hcap.2 H256.out w h1 h2)
  have HQ := Hid.intro (fun (w : World) (h2 : Reads w a bs) => refParse_uni a cap bs (by omega) hcap.1 hcap.2 H256.out w h2)
  have HH := Hid.intro (fun (w : World) (h1 : Wid w) (h2 : Reads w a bs) => heard_any a cap bs n s (by omega) hcap.1 hcap.2 H256.out w h1 h2)
  have HK := Hid.intro (fun (w : World) (h2 : Reads w a bs) => refHeard_any a cap bs n s (by omega) hcap.1 hcap.2 H256.out w h2)
  have hFl := heardF_len bs n s
  have eF : rheardF bs n s = heardF bs n s := rfl
  rw [eF] at HK
  have hDb : ∀ x ∈ pD bs, x < 256 := by
    unfold pD; split
    · exact mem_take' (mem_drop' H256.out 7) _
    · intro x hx; cases hx
  have HDB := Hid.intro hDb
  clear eF hDb
  generalize pT bs (pN bs / 16777216) = T0 at HP HQ
  generalize pT bs (pN bs / 4096 % 4096) = T1 at HP HQ
  generalize pT bs (pN bs / 512 % 8) = T2 at HP HQ
  generalize pT bs (pN bs / 4 % 128) = T3 at HP HQ
  generalize pT bs (pN bs % 4) = T4 at HP HQ
  generalize pD bs = DS at HP HQ HDB
  generalize parseE bs = E at HP HQ
  generalize heardF bs n s = F at HH HK hFl
  go_wp2_with fail
  refine (HP.out w1 (HW.out.below HD1.out) (HR.out.below HD1.out)).mono ?_
  rintro e w2 ⟨a2, c2, rfl, r2, B2⟩
  have D2 := HD1.out.trans (B2.mono HD1.out.size)
  have Bx := (Below.refl _ w2).alloc (Nat.le_refl _) (.cells #[.int .i64 T0, .int .i64 T1, .int .i64 T2, .int .i64 T3, .int .i64 T4, .slice a2 DS.length c2] 24)
  have HX2 := Hid.intro (heap_alloc_new w2 (.cells #[.int .i64 T0, .int .i64 T1, .int .i64 T2, .int .i64 T3, .int .i64 T4, .slice a2 DS.length c2] 24))
  have HR2 := Hid.intro (r2.below Bx)
  have HD2 := Hid.intro (D2.trans (Bx.mono D2.size))
  clear HP B2 D2 Bx r2 HD1
  go_wp2_with fail
  generalize w2.alloc (.cells #[.int .i64 T0, .int .i64 T1, .int .i64 T2, .int .i64 T3, .int .i64 T4, .slice a2 DS.length c2] 24) = X2 at HX2 HR2 HD2 ⊢
  generalize w2.heap.size = b2 at HX2 ⊢
  refine (HQ.out X2 (HR.out.below HD2.out)).mono ?_
  rintro e w3 ⟨a3, c3, rfl, r3, B3⟩
  have D3 := HD2.out.trans (B3.mono HD2.out.size)
  have Bx := (Below.refl _ w3).alloc (Nat.le_refl _) (.cells #[.int .i64 T0, .int .i64 T1, .int .i64 T2, .int .i64 T3, .int .i64 T4, .slice a3 DS.length c3] 24)
  have x3 := (Bx.block b2 (Nat.lt_of_lt_of_le (lt_of_heap HX2.out) B3.size)).trans ((B3.block b2 (lt_of_heap HX2.out)).trans HX2.out)
  have y3 := heap_alloc_new w3 (.cells #[.int .i64 T0, .int .i64 T1, .int .i64 T2, .int .i64 T3, .int .i64 T4, .slice a3 DS.length c3] 24)
  have D4 := D3.trans (Bx.mono D3.size)
  have SS := fsame_any T0 T1 T2 T3 T4 T0 T1 T2 T3 T4 a2 a3 c2 c3 DS DS HDB.out HDB.out (w3.alloc (.cells #[.int .i64 T0, .int .i64 T1, .int .i64 T2, .int .i64 T3, .int .i64 T4, .slice a3 DS.length c3] 24)) ((HR2.out.below B3).below Bx) (r3.below Bx)
  rw [show sameFrm T0 T1 T2 T3 T4 DS T0 T1 T2 T3 T4 DS = true from by simp [sameFrm]] at SS
  have HSS := Hid.intro SS
  have HD4 := Hid.intro D4
  have k0 : (w3.alloc (.cells #[.int .i64 T0, .int .i64 T1, .int .i64 T2, .int .i64 T3, .int .i64 T4, .slice a3 DS.length c3] 24)).cell? ⟨b2, 0, none⟩ = some (.int .i64 T0) := by rw [cell_of_row _ _ _ _ _ _ x3]; rfl
  have k1 : (w3.alloc (.cells #[.int .i64 T0, .int .i64 T1, .int .i64 T2, .int .i64 T3, .int .i64 T4, .slice a3 DS.length c3] 24)).cell? ⟨b2, 1, none⟩ = some (.int .i64 T1) := by rw [cell_of_row _ _ _ _ _ _ x3]; rfl
  have k2 : (w3.alloc (.cells #[.int .i64 T0, .int .i64 T1, .int .i64 T2, .int .i64 T3, .int .i64 T4, .slice a3 DS.length c3] 24)).cell? ⟨b2, 2, none⟩ = some (.int .i64 T2) := by rw [cell_of_row _ _ _ _ _ _ x3]; rfl
  have k3 : (w3.alloc (.cells #[.int .i64 T0, .int .i64 T1, .int .i64 T2, .int .i64 T3, .int .i64 T4, .slice a3 DS.length c3] 24)).cell? ⟨b2, 3, none⟩ = some (.int .i64 T3) := by rw [cell_of_row _ _ _ _ _ _ x3]; rfl
  have k4 : (w3.alloc (.cells #[.int .i64 T0, .int .i64 T1, .int .i64 T2, .int .i64 T3, .int .i64 T4, .slice a3 DS.length c3] 24)).cell? ⟨b2, 4, none⟩ = some (.int .i64 T4) := by rw [cell_of_row _ _ _ _ _ _ x3]; rfl
  have k5 : (w3.alloc (.cells #[.int .i64 T0, .int .i64 T1, .int .i64 T2, .int .i64 T3, .int .i64 T4, .slice a3 DS.length c3] 24)).cell? ⟨b2, 5, none⟩ = some (.slice a2 DS.length c2) := by rw [cell_of_row _ _ _ _ _ _ x3]; rfl
  have m0 : (w3.alloc (.cells #[.int .i64 T0, .int .i64 T1, .int .i64 T2, .int .i64 T3, .int .i64 T4, .slice a3 DS.length c3] 24)).cell? ⟨w3.heap.size, 0, none⟩ = some (.int .i64 T0) := by rw [cell_of_row _ _ _ _ _ _ y3]; rfl
  have m1 : (w3.alloc (.cells #[.int .i64 T0, .int .i64 T1, .int .i64 T2, .int .i64 T3, .int .i64 T4, .slice a3 DS.length c3] 24)).cell? ⟨w3.heap.size, 1, none⟩ = some (.int .i64 T1) := by rw [cell_of_row _ _ _ _ _ _ y3]; rfl
  have m2 : (w3.alloc (.cells #[.int .i64 T0, .int .i64 T1, .int .i64 T2, .int .i64 T3, .int .i64 T4, .slice a3 DS.length c3] 24)).cell? ⟨w3.heap.size, 2, none⟩ = some (.int .i64 T2) := by rw [cell_of_row _ _ _ _ _ _ y3]; rfl
  have m3 : (w3.alloc (.cells #[.int .i64 T0, .int .i64 T1, .int .i64 T2, .int .i64 T3, .int .i64 T4, .slice a3 DS.length c3] 24)).cell? ⟨w3.heap.size, 3, none⟩ = some (.int .i64 T3) := by rw [cell_of_row _ _ _ _ _ _ y3]; rfl
  have m4 : (w3.alloc (.cells #[.int .i64 T0, .int .i64 T1, .int .i64 T2, .int .i64 T3, .int .i64 T4, .slice a3 DS.length c3] 24)).cell? ⟨w3.heap.size, 4, none⟩ = some (.int .i64 T4) := by rw [cell_of_row _ _ _ _ _ _ y3]; rfl
  have m5 : (w3.alloc (.cells #[.int .i64 T0, .int .i64 T1, .int .i64 T2, .int .i64 T3, .int .i64 T4, .slice a3 DS.length c3] 24)).cell? ⟨w3.heap.size, 5, none⟩ = some (.slice a3 DS.length c3) := by rw [cell_of_row _ _ _ _ _ _ y3]; rfl
  clear HQ B3 D3 Bx r3 x3 y3 D4 SS HX2 HR2 HD2
  go_wp2_with fail
  generalize w3.alloc (.cells #[.int .i64 T0, .int .i64 T1, .int .i64 T2, .int .i64 T3, .int .i64 T4, .slice a3 DS.length c3] 24) = X4 at HSS HD4 k0 k1 k2 k3 k4 k5 m0 m1 m2 m3 m4 m5 ⊢
  generalize w3.heap.size = b3 at m0 m1 m2 m3 m4 m5 ⊢
  clear k0 k1 k2 k3 k4 k5 m0 m1 m2 m3 m4 m5
  refine HSS.out.mono ?_
  rintro e w5 ⟨rfl, B5⟩
  have HD5 := Hid.intro (HD4.out.trans (B5.mono HD4.out.size))
  clear HSS HD4 B5
  go_wp2_with fail
  refine (HH.out w5 (HW.out.below HD5.out) (HR.out.below HD5.out)).mono ?_
  rintro e w6 ⟨a6, c6, rfl, r6, _, _, _, B6⟩
  have HD6 := Hid.intro (HD5.out.trans (B6.mono HD5.out.size))
  have HR6 := Hid.intro r6
  clear HH B6 r6 HD5
  go_wp2_with fail
  refine (HK.out w6 (HR.out.below HD6.out)).mono ?_
  rintro e w7 ⟨a7, c7, rfl, r7, B7⟩
  have HD7 := Hid.intro (HD6.out.trans (B7.mono HD6.out.size))
  have S8 := same_any a6 a7 c6 c7 F F hFl w7 (HR6.out.below B7) r7
  rw [show decide (F = F) = true from by simp] at S8
  have HS8 := Hid.intro S8
  clear HK B7 r7 S8 HD6 HR6
  go_wp2_with fail
  refine HS8.out.mono ?_
  rintro e w8 ⟨rfl, n8, rfl⟩
  clear HS8
  go_wp2
  go_ret
  exact ⟨rfl, below_drewN HD7.out n8⟩

set_option maxRecDepth 100000 in
theorem lifted (os : Os) (started : os.Started) (H : Type) (enc : TypeId × Value → H) :
    ReturnsInHanded {} Tryd.checked os 4 .any (fun w args => (Rows.frameParsesSpec.pre enc Tryd.prog Tryd.f4 [] false w args ∧ laidMetH Tryd.prog LW w) ∧ sizedMet enc Tryd.prog Tryd.f4 (OpenSpec.ofChange Rows.frameParsesSpec) false w args) (Rows.frameParsesSpec.post enc Tryd.prog Tryd.f4 false true false false) := by
  refine returnsInHanded_of_change_and (C := Tryd.checked) (X := fun w _ => laidMetH Tryd.prog LW w) (fun _ _ _ hh h => h.of_heap hh) own started (by kernel_rfl) Tryd.func4
    (ChangeSpec.witness_shaped (enc := enc) (C := Tryd.checked) (os := os) (X := fun w _ => laidMetH Tryd.prog LW w) false (World.doorLaid Tryd.prog 400 os) #[.slice none 0 0, .int .i64 0, .int .i64 0] 8 rfl (World.shaped_of_RefB (by kernel_rfl) (by kernel_rfl)) (by kernel_rfl) (by kernel_rfl) (by kernel_rfl) (door_met os _)) ?_
  intro W base args ds gs before hval0 hW _ _ hL _
  have hval : ∀ (j : Nat) t v, Tryd.f4.params[j]? = some t → args[j]? = some v → Value.okWide Tryd.prog W .any base t v := hval0
  have hW' := hW
  obtain ⟨p, q, hA0, hV, rfl, hfz, hnd⟩ := hW
  have hA : DataW.TrodAll enc Tryd.prog W 0 (fun _ => true) true Tryd.f4.params.toList args.toList ds p := hA0
  rw [Tryd.params4] at hA hval
  obtain ⟨v0, vs0, d0, ds0, p0, q0, hargs, rfl, rfl, h0, r0⟩ := trodAll_cons hA
  obtain ⟨v1, vs1, d1, ds1, p1, q1, rfl, rfl, rfl, h1, r1⟩ := trodAll_cons r0
  obtain ⟨v2, vs2, d2, ds2, p2, q2, rfl, rfl, rfl, h2, r2⟩ := trodAll_cons r1
  obtain ⟨rfl, rfl, rfl⟩ := trodAll_nil r2
  obtain rfl : args = #[v0, v1, v2] := by cases args; simp_all
  obtain ⟨rfl, rfl⟩ := trodVars_none hV
  obtain ⟨a0, len0, cap0, rfl⟩ := okWide_slice Tryd.underlying22 (hval 0 22 v0 rfl rfl)
  have k0 := h0
  have lt0 : ∀ x ∈ p0, x.block < W.heap.size := by obtain ⟨m, hm⟩ := k0; exact DataW.trod_lt m _ _ _ hm
  obtain ⟨z0, w0⟩ : ∃ zs, IsRow .u8 W a0 len0 cap0 zs := by
    obtain ⟨fuel, hf⟩ := h0
    rcases open_ints Tryd.underlying22 Tryd.underlying5 (by kernel_rfl) hf with ⟨hcs, _⟩ | ⟨x, l, c, zs, hcs, _, hl, hm, hz, _, hcell, hwz⟩
    · simp [Value.cells] at hcs
      obtain ⟨rfl, rfl, rfl⟩ := hcs
      exact ⟨[], .inl ⟨rfl, rfl, rfl, rfl⟩⟩
    · simp [Value.cells] at hcs
      obtain ⟨rfl, rfl, rfl⟩ := hcs
      exact ⟨zs, .inr ⟨_, rfl, hl, hm, by simpa using hz, hcell, hwz⟩⟩
  obtain ⟨a1, rfl, rfl, rfl, w1⟩ := open_int Tryd.underlying3 (hval 1 3 v1 rfl rfl) h1
  obtain ⟨a2, rfl, rfl, rfl, w2⟩ := open_int Tryd.underlying3 (hval 2 3 v2 rfl rfl) h2
  clear hA0 hval0
  refine (walk a0 len0 cap0 z0 a1 a2 W w0 w1 w2 (laid_fact hL)).mono fun e W' ⟨he, bel⟩ => ?_
  subst he
  exact ⟨_, rfl, _, _, _, [], _, [], hW', trodAll_mk1 (shut_bool Tryd.underlying4 _), (trodAll_cons_mk (Below.trod laidOut (by kernel_rfl) (of_decide_eq_true (by kernel_rfl)) k0 bel lt0) (trodAll_cons_mk (shut_int Tryd.underlying3 w1) (trodAll_cons_mk (shut_int Tryd.underlying3 w2) trodAll_mk0))), rfl, bel.frame _, fun h => by cases h⟩

theorem over : Rows.frameParsesRow.holds Tryd.pinned (OpenSpec.ofChange Rows.frameParsesSpec) :=
  OpenClaim.holds_of_wide 4 Tryd.f4 rfl rfl rfl rfl rfl rfl rfl ⟨rfl, rfl, rfl, rfl, rfl⟩ rfl rfl rfl rfl rfl (by kernel_rfl) Tryd.func4 (by kernel_rfl)
    (of_decide_eq_true (by kernel_rfl)) (by unfold Func.isWrapper; first | (rw [if_pos (by decide +kernel)]; kernel_rfl) | (rw [if_neg (by decide +kernel)]; exact ⟨rfl, rfl⟩))
    (fun os started H enc _ => lifted os started H enc)

end Go.Proofs.YtaieohnppeapfaaDoor.LFrameParses

namespace Go.Proofs.YtaieohnppeapfaaDoor
theorem frameParses_holds : Rows.FrameParsesCardSaid :=
  Claim7.holds_tied_plain_at .later [] [.data] true (true, "6bd1dd96be7cf56c0ac1baf81702624cde209933069c32281b4d364c2e018b08") false
    LFrameParses.over (fun _ h => by cases h) (by kernel_rfl) (fun _ h => by cases h) frameParses_row_tie rfl ⟨rfl, rfl⟩ (by kernel_rfl) rfl
    (fun f fn hf hfn => by
      obtain rfl : f = 4 := Option.some.inj ((show Tryd.prog.funcNamed "gurney/gurneylaw03.FrameParses" = some 4 by kernel_rfl).symm.trans hf) |>.symm
      obtain rfl : fn = Tryd.f4 := (Option.some.inj (Tryd.func4.symm.trans hfn)).symm
      exact ⟨by kernel_rfl, fun j t ht => by
        rw [Tryd.params4] at ht
        have hm : t ∈ [22, 3, 3] := by simpa using Array.mem_of_getElem? ht
        have hall : ([22, 3, 3].all fun u => !Tryd.prog.wantsStandIn u) = true := by kernel_rfl
        exact (show Tryd.prog.wantsStandIn t = false by simpa using List.all_eq_true.1 hall t hm)⟩)
    (by kernel_rfl)
#print axioms frameParses_holds
end Go.Proofs.YtaieohnppeapfaaDoor
