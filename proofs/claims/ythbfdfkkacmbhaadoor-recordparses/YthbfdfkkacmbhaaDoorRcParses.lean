/- The statement RecordParses: the samples of all bytes, or the error, are the document's. -/
import Derived.Test.YthbfdfkkacmbhaaDoorRcAlive
import Derived.Test.YthbfdfkkacmbhaaDoorRcLaid
import Derived.Test.YthbfdfkkacmbhaaDoorArgs
import Derived.Test.YthbfdfkkacmbhaaDoorRcRefQ
import Derived.Test.YthbfdfkkacmbhaaDoorRcRefS
namespace Go.Proofs.YthbfdfkkacmbhaaDoor
open Go.ChangeShapes Go.WideShapes Go.ChangeAt Go.RowKit
open Bt

namespace LRecordParses

set_option maxRecDepth 100000 in
set_option maxHeartbeats 2000000 in
theorem walk_main (ao : Option Addr) (cap : Nat) (bs : List Nat) (_hmx : bs.length ≤ maxLen) (hY : ∀ y ∈ bs, y < 256) (hro : Room ao cap bs.length) (w : World) (hwd : WidR w) (hr : Reads w ao bs) :
    Calls Tryd.prog 4 #[.slice ao bs.length cap] w fun e w' => e = .returned (.bool true) ∧ Below w.heap.size w w' := by
  have AL := Hid.intro (alive10_any w hwd)
  have HWD := Hid.intro hwd
  clear hwd
  have HR := Hid.intro hr
  have HY := Hid.intro hY
  have HRO := Hid.intro hro
  obtain ⟨L, hL⟩ : ∃ L, L = bs.length := ⟨_, rfl⟩
  have HL := Hid.intro hL
  rw [← hL] at _hmx ⊢
  clear hr hY hro hL
  go_enter Tryd.func4, Tryd.ntmps4
  go_wp2_with fail
  refine AL.out.mono ?_
  rintro e w1 ⟨rfl, B1⟩
  have B1H := Hid.intro B1
  clear AL B1
  by_cases hbig : 300 < L
  · have hbig' : (300 : Int) < (L : Int) := by omega
    go_wp2
    go_ret
    exact ⟨rfl, B1H.out⟩
  have hbig' : ¬ (300 : Int) < (L : Int) := by omega
  have h300 : L ≤ 300 := by omega
  clear hbig
  have P1 := cparse_any ao cap bs (by rw [← HL.out]; exact h300) HY.out w1 (HWD.out.below B1H.out) (HR.out.below B1H.out) HRO.out
  have P2 := fun (W : World) (hW : Below w.heap.size w W) => refParse_any ao cap bs (by rw [← HL.out]; exact h300) HY.out HRO.out.2 W (HR.out.below hW)
  have XF := Hid.intro (parseL_few (bs := bs) (by rw [← HL.out]; exact h300))
  obtain ⟨pe, hpe⟩ : ∃ pe, pe = parseE bs := ⟨_, rfl⟩
  obtain ⟨T, hT⟩ : ∃ T, T = parseL bs := ⟨_, rfl⟩
  rw [← hpe, ← hT, ← HL.out] at P1 P2
  rw [← hT] at XF
  have P1H := Hid.intro P1
  have P2H := Hid.intro P2
  clear P1 P2 hpe hT
  go_wp2_with fail
  refine P1H.out.mono ?_
  rintro e w2 ⟨a2, c2, rfl, s2, _, _, B2⟩
  have BW2 := Hid.intro (B1H.out.trans (B2.mono B1H.out.size))
  have S2 := Hid.intro s2
  have P3 := Hid.intro (P2H.out w2 BW2.out)
  obtain ⟨TN, hTN⟩ : ∃ TN, TN = T.length := ⟨_, rfl⟩
  have HTN := Hid.intro hTN
  rw [← hTN] at P3 XF ⊢
  clear P1H P2H B2 s2 hTN
  go_wp2_with fail
  refine P3.out.mono ?_
  rintro e w3 ⟨a3, c3, rfl, s3, B3⟩
  have BW3 := Hid.intro (BW2.out.trans (B3.mono BW2.out.size))
  have SM := refSame10_any _ _ (.slice a2 T.length c2) (.slice a3 TN c3) T T (by rw [← HTN.out]; have := XF.out; omega) (by rw [← HTN.out]; have := XF.out; omega) w3 (S2.out.below B3) s3
  rw [decide_eq_true rfl, ← HTN.out] at SM
  have SMH := Hid.intro SM
  clear P3 B3 s3 SM S2
  go_wp2_with fail
  refine SMH.out.mono ?_
  rintro e w4 ⟨rfl, B4⟩
  have BW4 := Hid.intro (BW3.out.trans (B4.mono BW3.out.size))
  clear SMH B4
  go_wp2
  go_ret
  exact ⟨rfl, BW4.out⟩

theorem walk (ao : Option Addr) (len cap : Nat) (zs : List Int) (w : World) (hz : IsRow .u8 w ao len cap zs) (hwd : WidR w) :
    Calls Tryd.prog 4 #[.slice ao len cap] w fun e w' => e = .returned (.bool true) ∧ Below w.heap.size w w' := by
  have hro : Room ao cap len := ⟨hz.none_cap, hz.le_cap⟩
  have _hmx := hz.len
  obtain ⟨bs, rfl, h1, h2⟩ := hz.bytes
  exact walk_main ao cap bs _hmx h1 hro w hwd h2

set_option maxRecDepth 100000 in
theorem lifted (os : Os) (started : os.Started) (H : Type) (enc : TypeId × Value → H) :
    ReturnsInHanded {} Tryd.checked os 4 .any (fun w args => (Rows.recordParsesSpec.pre enc Tryd.prog Tryd.f4 [] false w args ∧ laidMetH Tryd.prog LW w) ∧ sizedMet enc Tryd.prog Tryd.f4 (OpenSpec.ofChange Rows.recordParsesSpec) false w args) (Rows.recordParsesSpec.post enc Tryd.prog Tryd.f4 false true false false) := by
  refine returnsInHanded_of_change_and (C := Tryd.checked) (X := fun w _ => laidMetH Tryd.prog LW w) (fun _ _ _ hh h => h.of_heap hh) own started (by kernel_rfl) Tryd.func4
    (ChangeSpec.witness_shaped (enc := enc) (C := Tryd.checked) (os := os) (X := fun w _ => laidMetH Tryd.prog LW w) false (World.doorLaid Tryd.prog 400 os) #[.slice none 0 0] 8 rfl (World.shaped_of_RefB (by kernel_rfl) (by kernel_rfl)) (by kernel_rfl) (by kernel_rfl) (by kernel_rfl) (door_met os _)) ?_
  intro W base args ds gs before hval0 hW _ _ hL _
  have hval : ∀ (j : Nat) t v, Tryd.f4.params[j]? = some t → args[j]? = some v → Value.okWide Tryd.prog W .any base t v := hval0
  have hW' := hW
  obtain ⟨p, q, hA0, hV, rfl, hfz, hnd⟩ := hW
  have hA : DataW.TrodAll enc Tryd.prog W 0 (fun _ => true) true Tryd.f4.params.toList args.toList ds p := hA0
  rw [Tryd.params4] at hA hval
  obtain ⟨v0, vs0, d0, ds0, p0, q0, hargs, rfl, rfl, h0, r0⟩ := trodAll_cons hA
  obtain ⟨rfl, rfl, rfl⟩ := trodAll_nil r0
  obtain rfl : args = #[v0] := by cases args; simp_all
  obtain ⟨rfl, rfl⟩ := trodVars_none hV
  obtain ⟨a0, len0, cap0, rfl⟩ := okWide_slice Tryd.underlying30 (hval 0 30 v0 rfl rfl)
  have k0 := h0
  have lt0 : ∀ x ∈ p0, x.block < W.heap.size := by obtain ⟨m, hm⟩ := k0; exact DataW.trod_lt m _ _ _ hm
  obtain ⟨z0, w0⟩ : ∃ zs, IsRow .u8 W a0 len0 cap0 zs := by
    obtain ⟨fuel, hf⟩ := h0
    rcases open_ints Tryd.underlying30 Tryd.underlying5 (by kernel_rfl) hf with ⟨hcs, _⟩ | ⟨x, l, c, zs, hcs, _, hl, hm, hz, _, hcell, hwz⟩
    · simp [Value.cells] at hcs
      obtain ⟨rfl, rfl, rfl⟩ := hcs
      exact ⟨[], .inl ⟨rfl, rfl, rfl, rfl⟩⟩
    · simp [Value.cells] at hcs
      obtain ⟨rfl, rfl, rfl⟩ := hcs
      exact ⟨zs, .inr ⟨_, rfl, hl, hm, by simpa using hz, hcell, hwz⟩⟩
  clear hA0 hval0
  refine (walk a0 len0 cap0 z0 W w0 (laid_fact hL)).mono fun e W' ⟨he, bel⟩ => ?_
  subst he
  exact ⟨_, rfl, _, _, _, [], _, [], hW', trodAll_mk1 (shut_bool Tryd.underlying4 _), (trodAll_cons_mk (Below.trod laidOut (by kernel_rfl) (of_decide_eq_true (by kernel_rfl)) k0 bel lt0) trodAll_mk0), rfl, bel.frame _, fun h => by cases h⟩

theorem over : Rows.recordParsesRow.holds Tryd.pinned (OpenSpec.ofChange Rows.recordParsesSpec) :=
  OpenClaim.holds_of_wide 4 Tryd.f4 rfl rfl rfl rfl rfl rfl rfl ⟨rfl, rfl, rfl, rfl, rfl⟩ rfl rfl rfl rfl rfl (by kernel_rfl) Tryd.func4 (by kernel_rfl)
    (of_decide_eq_true (by kernel_rfl)) (by unfold Func.isWrapper; first | (rw [if_pos (by decide +kernel)]; kernel_rfl) | (rw [if_neg (by decide +kernel)]; exact ⟨rfl, rfl⟩))
    (fun os started H enc _ => lifted os started H enc)

end Go.Proofs.YthbfdfkkacmbhaaDoor.LRecordParses

namespace Go.Proofs.YthbfdfkkacmbhaaDoor
theorem recordParses_holds : Rows.RecordParsesCardSaid :=
  Claim7.holds_tied_plain_at .later [] [.data] true (true, "48083bb0b2812a16015da9da29e02053fb694e0cc01e6d6a71d1c29f219818cd") false
    LRecordParses.over (fun _ h => by cases h) (by kernel_rfl) (fun _ h => by cases h) recordParses_row_tie rfl ⟨rfl, rfl⟩ (by kernel_rfl) rfl
    (fun f fn hf hfn => by
      obtain rfl : f = 4 := Option.some.inj ((show Tryd.prog.funcNamed "gurney/gurneylaw10.RecordParses" = some 4 by kernel_rfl).symm.trans hf) |>.symm
      obtain rfl : fn = Tryd.f4 := (Option.some.inj (Tryd.func4.symm.trans hfn)).symm
      exact ⟨by kernel_rfl, fun j t ht => by
        rw [Tryd.params4] at ht
        have hm : t ∈ [30] := by simpa using Array.mem_of_getElem? ht
        have hall : ([30].all fun u => !Tryd.prog.wantsStandIn u) = true := by kernel_rfl
        exact (show Tryd.prog.wantsStandIn t = false by simpa using List.all_eq_true.1 hall t hm)⟩)
    (by kernel_rfl)
#print axioms recordParses_holds
end Go.Proofs.YthbfdfkkacmbhaaDoor
