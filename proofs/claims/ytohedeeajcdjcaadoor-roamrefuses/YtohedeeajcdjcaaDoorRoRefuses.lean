/- The statement RoamRefuses: a table that is full refuses who isn't followed, and follows who is. -/
import Derived.Test.YtohedeeajcdjcaaDoorRoAlive
import Derived.Test.YtohedeeajcdjcaaDoorRoArg
import Derived.Test.YtohedeeajcdjcaaDoorRoSame
import Derived.Test.YtohedeeajcdjcaaDoorFrmLaid
namespace Go.Proofs.YtohedeeajcdjcaaDoor
open Go.ChangeShapes Go.WideShapes Go.ChangeAt Go.RowKit Go.Joins
open Bt

namespace LRoamRefuses

theorem out_ne (m : Nat) (s : Sen) (ant rssi : Int) : hearOut m s ant rssi ≠ 3 := by
  unfold hearOut; split <;> decide

/-- When it is refused. -/
theorem refused {x : Tab} (h : x.Ok) {tx ant rssi now : Int} (hx : isRx tx ant rssi = true) : (hearT x tx ant rssi == 3) = (!homeB x tx && ((x.l.length : Int) == (x.room : Int))) ∧ (hearT x tx ant rssi = 3 → hearX x tx ant rssi now = x) := by
  have hf := h.few
  unfold hearT hearX homeB
  rw [if_pos hx, if_pos hx]
  cases hq : findT x.l tx with
  | some i =>
    simp only [Option.isSome_some, Bool.not_true, Bool.false_and]
    refine ⟨by simpa using out_ne _ _ _ _, fun q => absurd q (out_ne _ _ _ _)⟩
  | none =>
    simp only [Option.isSome_none, Bool.not_false, Bool.true_and]
    by_cases q : x.l.length < x.room
    · rw [if_pos q]
      refine ⟨?_, fun z => absurd z (by decide)⟩
      have : ((x.l.length : Int) == (x.room : Int)) = false := by simp; omega
      rw [this]; rfl
    · rw [if_neg q, if_neg q]
      refine ⟨?_, fun _ => rfl⟩
      have : ((x.l.length : Int) == (x.room : Int)) = true := by simp; omega
      rw [this]; rfl

theorem hearX_room (x : Tab) (tx ant rssi now : Int) : (hearX x tx ant rssi now).room = x.room := by
  unfold hearX
  split
  · split
    · rfl
    · split <;> rfl
  · rfl

set_option maxRecDepth 100000 in
theorem walk_nil (r a m : Int) (ao : Option Addr) (len cap : Nat) (w : World) (hW : Wid w) (h : mayR r a m = false) :
    Calls Tryd.prog 6 #[Rm r a m, .slice ao len cap] w fun e w' => e = .returned (.bool true) ∧ Below w.heap.size w w' := by
  have NO := Hid.intro (fun w => onew_no r a m h w)
  have B0 := Hid.intro ((Below.refl _ w).alloc (Nat.le_refl _) (.cells #[.int .i64 r, .int .i64 a, .int .i64 m] 23))
  have b0 := Hid.intro (heap_alloc_new w (.cells #[.int .i64 r, .int .i64 a, .int .i64 m] 23))
  have W0 := Hid.intro (hW.below B0.out)
  clear h hW
  go_enter Tryd.func6, Tryd.ntmps6
  go_wp2_with fail
  refine (alive9_any _ W0.out).mono ?_
  rintro e w1 ⟨rfl, B1⟩
  have b1 := (B1.block _ (lt_of_heap b0.out)).trans b0.out
  have B1H := Hid.intro (B0.out.trans (B1.mono B0.out.size))
  have c0 : w1.cell? ⟨w.heap.size, 0, none⟩ = some (.int .i64 r) := by rw [cell_of_row _ _ 0 _ _ _ b1]; rfl
  have c1 : w1.cell? ⟨w.heap.size, 1, none⟩ = some (.int .i64 a) := by rw [cell_of_row _ _ 1 _ _ _ b1]; rfl
  have c2 : w1.cell? ⟨w.heap.size, 2, none⟩ = some (.int .i64 m) := by rw [cell_of_row _ _ 2 _ _ _ b1]; rfl
  clear b1 B1 B0 W0 b0
  go_wp2_with fail
  refine (NO.out w1).mono ?_
  rintro e w2 ⟨rfl, B2⟩
  have B2H := Hid.intro (B1H.out.trans (B2.mono B1H.out.size))
  clear B2 B1H NO c0 c1 c2
  go_wp2
  go_ret
  exact ⟨rfl, B2H.out⟩

set_option maxRecDepth 100000 in
set_option maxHeartbeats 2000000 in
theorem walk_near (r a m : Nat) (ao : Option Addr) (cap : Nat) (bs : List Nat) (hmx : bs.length ≤ maxLen) (hY : ∀ y ∈ bs, y < 256) (w : World) (hr : Reads w ao bs) (hW : Wid w) (h : mayR r a m = true) :
    Calls Tryd.prog 6 #[Rm r a m, .slice ao bs.length cap] w fun e w' => e = .returned (.bool true) ∧ Below w.heap.size w w' := by
  have NW := Hid.intro (fun w => onew_yes r a m h w)
  have hb := mayR_true h
  have B0 := Hid.intro ((Below.refl _ w).alloc (Nat.le_refl _) (.cells #[.int .i64 (r : Int), .int .i64 (a : Int), .int .i64 (m : Int)] 23))
  have b0 := Hid.intro (heap_alloc_new w (.cells #[.int .i64 (r : Int), .int .i64 (a : Int), .int .i64 (m : Int)] 23))
  have W0 := Hid.intro (hW.below B0.out)
  have hsz := World.size_alloc w (.cells #[.int .i64 (r : Int), .int .i64 (a : Int), .int .i64 (m : Int)] 23)
  have RD := Hid.intro hr
  have HY := Hid.intro hY
  obtain ⟨LL, hLL⟩ : ∃ LL, LL = bs.length := ⟨_, rfl⟩
  have HLL := Hid.intro hLL
  rw [← hLL] at hmx ⊢
  clear h hW hr hY hLL
  go_enter Tryd.func6, Tryd.ntmps6
  go_wp2_with fail
  refine (alive9_any _ W0.out).mono ?_
  rintro e w1 ⟨rfl, B1⟩
  have b1 := (B1.block _ (lt_of_heap b0.out)).trans b0.out
  have W1 := Hid.intro (W0.out.below B1)
  have B1H := Hid.intro (B0.out.trans (B1.mono B0.out.size))
  have S1 : Hid (w.heap.size < w1.heap.size) := by have := B1.size; show w.heap.size < w1.heap.size; omega
  have c0 : w1.cell? ⟨w.heap.size, 0, none⟩ = some (.int .i64 (r : Int)) := by rw [cell_of_row _ _ 0 _ _ _ b1]; rfl
  have c1 : w1.cell? ⟨w.heap.size, 1, none⟩ = some (.int .i64 (a : Int)) := by rw [cell_of_row _ _ 1 _ _ _ b1]; rfl
  have c2 : w1.cell? ⟨w.heap.size, 2, none⟩ = some (.int .i64 (m : Int)) := by rw [cell_of_row _ _ 2 _ _ _ b1]; rfl
  clear b1 B1 B0 W0 b0 hsz
  go_wp2_with fail
  refine (NW.out w1).mono ?_
  rintro e w2 ⟨b, F, rfl, hS, hF, B2⟩
  have L2 := Hid.intro (tl_new hS hF B2)
  have W2 := Hid.intro (W1.out.below B2)
  have Z2 : Hid ((fun k => k < w1.heap.size) 0) := by obtain ⟨t, fr, q⟩ := W1.out; exact lt_of_heap q
  have BW2 := Hid.intro (B1H.out.trans (B2.mono B1H.out.size))
  have C0 : Hid (w2.cell? ⟨w.heap.size, 0, none⟩ = some (.int .i64 (r : Int))) := (B2.cell (p := ⟨w.heap.size, 0, none⟩) (cell_lt c0)).trans c0
  have RD2 := Hid.intro (RD.out.below BW2.out)
  have RDB : Hid (∀ ad, ao = some ad → 0 < bs.length → ad.block < w.heap.size) := fun ad ha h0 => by
    have q := RD.out
    rw [ha] at q
    obtain ⟨b', off, e', hc⟩ := reads_at q h0
    cases e'
    exact cell_lt (hc 0 h0)
  clear hS hF B2 NW c0 c1 c2 W1 RD
  by_cases hbig : 80 < LL
  · have hbig' : (80 : Int) < (LL : Int) := by omega
    go_wp2
    go_ret
    exact ⟨rfl, BW2.out⟩
  have hbig' : ¬ (80 : Int) < (LL : Int) := by omega
  go_wp2_with fail
  go_loopw [6] (fun i wr => ∃ (k : Nat) (x : Tab), k ≤ LL ∧ i = .int .i64 k ∧ x.room = r ∧ TL (fun k => k < w1.heap.size) w2 wr b x) (fun i _ => LL - (intOf i).toNat)
  case atStart => exact ⟨0, _, by omega, rfl, rfl, L2.out⟩
  case round =>
    obtain ⟨k, x, hk, rfl, hxr, hL⟩ := hrel
    have HL := Hid.intro hL
    have HXR := Hid.intro hxr
    by_cases hlt : k < LL
    · have k0 : (0 : Int) ≤ (k : Int) := by omega
      have k1 : (k : Int) < (LL : Int) := by omega
      have hkb : k < bs.length := by rw [← HLL.out]; exact hlt
      obtain ⟨bb, off, rfl, hcc⟩ := reads_at RD2.out (by omega)
      have cb2 := hcc k hkb
      have hbl := RDB.out _ rfl (by omega)
      have cb := hL.cell cb2 (Nat.lt_trans hbl S1.out)
      have hbyte : bs.getD k 0 < 256 := HY.out _ (by rw [List.getD_eq_getElem?_getD, List.getElem?_eq_getElem hkb]; exact List.getElem_mem hkb)
      have T1 := Hid.intro (tllist hL)
      have CB := Hid.intro cb
      clear hL hxr hcc cb2 cb
      go_wp2_with fail
      refine T1.out.mono ?_
      rintro e w3 ⟨v3, rfl, s3, B3⟩
      have L3 := HL.out.grow B3
      have L3H := Hid.intro L3
      have S3 := Hid.intro s3
      obtain ⟨a3, c3, e3⟩ := s3.len
      have B3H := Hid.intro B3
      have cb3 := (B3.cell (p := ⟨bb, off + k, none⟩) (cell_lt CB.out)).trans CB.out
      have hy : bs[k] < 256 := HY.out _ (List.getElem_mem hkb)
      generalize bs[k] = y at cb3 hy
      have hx : isRx (y : Int) 0 50 = true := isRx_mk (by omega) (by decide) (by decide)
      have OK := Hid.intro L3.ok
      have RF := Hid.intro (refused (now := (k : Int)) L3.ok hx)
      have hlx : x.l.length ≤ 8 := by have := L3.ok.few; have := HXR.out; omega
      have T2 := Hid.intro (tlhome (y : Int) L3)
      subst e3
      obtain ⟨hm, hhm⟩ : ∃ hm, hm = homeA x (y : Int) := ⟨_, rfl⟩
      obtain ⟨hb2, hhb⟩ : ∃ hb2, hb2 = homeB x (y : Int) := ⟨_, rfl⟩
      rw [← hhm, ← hhb] at T2
      rw [← hhb] at RF
      obtain ⟨ou, hou⟩ : ∃ ou, ou = hearT x (y : Int) 0 50 := ⟨_, rfl⟩
      rw [← hou] at RF
      have HOU := Hid.intro hou
      obtain ⟨LX, hLX⟩ : ∃ LX, LX = x.l.length := ⟨_, rfl⟩
      have HLX := Hid.intro hLX
      rw [← hLX] at RF hlx ⊢
      rw [HXR.out] at RF
      clear T1 L3 s3 B3 hhm hhb hou hLX CB
      go_wp2_with fail
      refine T2.out.mono ?_
      rintro e w4 ⟨rfl, B4⟩
      have L4 := L3H.out.below B4
      have cb4 := (B4.cell (p := ⟨bb, off + k, none⟩) (cell_lt cb3)).trans cb3
      have W4 := L4.wid ((HL.out.wid W2.out Z2.out).below B3H.out) (.inl Z2.out)
      have T3 := tlhear (y : Int) 0 50 (k : Int) (by omega) L4 W4
      rw [← HOU.out] at T3
      have T3H := Hid.intro T3
      clear T2 B4 L4 W4 T3 cb3
      go_wp2_with fail
      refine T3H.out.mono ?_
      rintro e w5 ⟨rfl, L5⟩
      have L5H := Hid.intro L5
      have RB := Hid.intro (HL.out.rebase B3H.out L5 (fun _ q => .inl q))
      have c05 := RB.out.cell C0.out S1.out
      have RM := Hid.intro ((hearX_room x (y : Int) 0 50 (k : Int)).trans HXR.out)
      clear T3H L5 cb4
      cases hb2 with
      | true =>
        have o3 : (ou == 3) = false := by have := RF.out.1; simpa using this
        go_wp2
        go_roundw
        case rel => exact ⟨k + 1, _, by omega, by go_num, RM.out, RB.out⟩
        case measure => simp [intOf]; omega
      | false =>
        cases hle : ((LX : Int) == (r : Int)) with
        | false =>
          have o3 : (ou == 3) = false := by have := RF.out.1; rw [hle] at this; simpa using this
          go_wp2
          go_roundw
          case rel => exact ⟨k + 1, _, by omega, by go_num, RM.out, RB.out⟩
          case measure => simp [intOf]; omega
        | true =>
          have o3 : (ou == 3) = true := by have := RF.out.1; rw [hle] at this; simpa using this
          have o3' : ou = 3 := by simpa using o3
          have ST := RF.out.2 o3'
          have L6 := L5H.out
          rw [ST] at L6
          have RB2 := RB.out
          rw [ST] at RB2
          have RBH := Hid.intro RB2
          have L6H := Hid.intro L6
          have T4 := Hid.intro (tllist L6)
          clear L6 RB2 ST RM RB L5H RF
          go_wp2_with fail
          refine T4.out.mono ?_
          rintro e w6 ⟨v6, rfl, s6, B6⟩
          have s3' : SensAt (fun k => wr.heap.size ≤ k ∧ k < w3.heap.size) w6 (.slice a3 x.l.length c3) x.l := (S3.out.kept L6H.out.chg (fun k hk q => q (.inr hk))).below B6
          have SM := same9_any _ _ (.slice a3 x.l.length c3) v6 x.l x.l (by rw [← HLX.out]; omega) (by rw [← HLX.out]; omega) w6 s3' s6
          rw [decide_eq_true rfl, ← HLX.out] at SM
          have SMH := Hid.intro SM
          have RB6 := Hid.intro (RBH.out.below B6)
          clear T4 s3' SM s6 B6
          go_wp2_with fail
          refine SMH.out.mono ?_
          rintro e w7 ⟨rfl, B7⟩
          have RB7 := Hid.intro (RB6.out.below B7)
          clear SMH B7
          go_wp2
          go_roundw
          case rel => exact ⟨k + 1, _, by omega, by go_num, HXR.out, RB7.out⟩
          case measure => simp [intOf]; omega
    · obtain rfl : k = LL := by omega
      have k1 : ¬ (k : Int) < (k : Int) := by omega
      have FIN := Hid.intro (BW2.out.trans (hL.out (B := w.heap.size) BW2.out.size (fun k hk => Nat.lt_trans hk S1.out)))
      clear hL
      go_wp2
      go_ret
      exact ⟨rfl, FIN.out⟩

theorem walk (r a m : Int) (ao : Option Addr) (len cap : Nat) (zs : List Int) (w : World) (_ : (Lit.int .i64 r).wf = true ∧ (Lit.int .i64 a).wf = true ∧ (Lit.int .i64 m).wf = true) (hz : IsRow .u8 w ao len cap zs) (hW : Wid w) :
    Calls Tryd.prog 6 #[Rm r a m, .slice ao len cap] w fun e w' => e = .returned (.bool true) ∧ Below w.heap.size w w' := by
  cases h : mayR r a m with
  | false => exact walk_nil r a m ao len cap w hW h
  | true =>
    have hb := mayR_true h
    have hmx := hz.len
    obtain ⟨bs, rfl, h1, h2⟩ := hz.bytes
    obtain ⟨R, rfl⟩ := Int.eq_ofNat_of_zero_le (show 0 ≤ r by omega)
    obtain ⟨A, rfl⟩ := Int.eq_ofNat_of_zero_le (show 0 ≤ a by omega)
    obtain ⟨Mg, rfl⟩ := Int.eq_ofNat_of_zero_le (show 0 ≤ m by omega)
    exact walk_near R A Mg ao cap bs hmx h1 w h2 hW h

set_option maxRecDepth 100000 in
theorem lifted (os : Os) (started : os.Started) (H : Type) (enc : TypeId × Value → H) :
    ReturnsInHanded {} Tryd.checked os 6 .any (fun w args => (Rows.roamRefusesSpec.pre enc Tryd.prog Tryd.f6 [] false w args ∧ laidMetH Tryd.prog LW w) ∧ sizedMet enc Tryd.prog Tryd.f6 (OpenSpec.ofChange Rows.roamRefusesSpec) false w args) (Rows.roamRefusesSpec.post enc Tryd.prog Tryd.f6 false true false false) := by
  refine returnsInHanded_of_change_and (C := Tryd.checked) (X := fun w _ => laidMetH Tryd.prog LW w) (fun _ _ _ hh h => h.of_heap hh) own started (by kernel_rfl) Tryd.func6
    (ChangeSpec.witness_shaped (enc := enc) (C := Tryd.checked) (os := os) (X := fun w _ => laidMetH Tryd.prog LW w) false (World.doorLaid Tryd.prog 400 os) #[.agg #[.int .i64 0, .int .i64 0, .int .i64 0], .slice none 0 0] 8 rfl (World.shaped_of_RefB (by kernel_rfl) (by kernel_rfl)) (by kernel_rfl) (by kernel_rfl) (by kernel_rfl) (door_met os _)) ?_
  intro W base args ds gs before hval0 hW _ _ hL _
  have hval : ∀ (j : Nat) t v, Tryd.f6.params[j]? = some t → args[j]? = some v → Value.okWide Tryd.prog W .any base t v := hval0
  have hW' := hW
  obtain ⟨p, q, hA0, hV, rfl, hfz, hnd⟩ := hW
  have hA : DataW.TrodAll enc Tryd.prog W 0 (fun _ => true) true Tryd.f6.params.toList args.toList ds p := hA0
  rw [Tryd.params6] at hA hval
  obtain ⟨v0, vs0, d0, ds0, p0, q0, hargs, rfl, rfl, h0, r0⟩ := trodAll_cons hA
  obtain ⟨v1, vs1, d1, ds1, p1, q1, rfl, rfl, rfl, h1, r1⟩ := trodAll_cons r0
  obtain ⟨rfl, rfl, rfl⟩ := trodAll_nil r1
  obtain rfl : args = #[v0, v1] := by cases args; simp_all
  obtain ⟨rfl, rfl⟩ := trodVars_none hV
  have k0 := h0
  have lt0 : ∀ x ∈ p0, x.block < W.heap.size := by obtain ⟨m, hm⟩ := k0; exact DataW.trod_lt m _ _ _ hm
  obtain ⟨kc0, nc0, sc0, rfl, w0⟩ := open_roam (hval 0 23 v0 rfl rfl) h0
  obtain ⟨a1, len1, cap1, rfl⟩ := okWide_slice Tryd.underlying47 (hval 1 47 v1 rfl rfl)
  have k1 := h1
  have lt1 : ∀ x ∈ p1, x.block < W.heap.size := by obtain ⟨m, hm⟩ := k1; exact DataW.trod_lt m _ _ _ hm
  obtain ⟨z1, w1⟩ : ∃ zs, IsRow .u8 W a1 len1 cap1 zs := by
    obtain ⟨fuel, hf⟩ := h1
    rcases open_ints Tryd.underlying47 Tryd.underlying5 (by kernel_rfl) hf with ⟨hcs, _⟩ | ⟨x, l, c, zs, hcs, _, hl, hm, hz, _, hcell, hwz⟩
    · simp [Value.cells] at hcs
      obtain ⟨rfl, rfl, rfl⟩ := hcs
      exact ⟨[], .inl ⟨rfl, rfl, rfl, rfl⟩⟩
    · simp [Value.cells] at hcs
      obtain ⟨rfl, rfl, rfl⟩ := hcs
      exact ⟨zs, .inr ⟨_, rfl, hl, hm, by simpa using hz, hcell, hwz⟩⟩
  clear hA0 hval0
  refine (walk kc0 nc0 sc0 a1 len1 cap1 z1 W w0 w1 (laid_fact hL)).mono fun e W' ⟨he, bel⟩ => ?_
  subst he
  exact ⟨_, rfl, _, _, _, [], _, [], hW', trodAll_mk1 (shut_bool Tryd.underlying4 _), (trodAll_cons_mk (Below.trod laidOut (by kernel_rfl) (of_decide_eq_true (by kernel_rfl)) k0 bel lt0) (trodAll_cons_mk (Below.trod laidOut (by kernel_rfl) (of_decide_eq_true (by kernel_rfl)) k1 bel lt1) trodAll_mk0)), rfl, bel.frame _, fun h => by cases h⟩

theorem over : Rows.roamRefusesRow.holds Tryd.pinned (OpenSpec.ofChange Rows.roamRefusesSpec) :=
  OpenClaim.holds_of_wide 6 Tryd.f6 rfl rfl rfl rfl rfl rfl rfl ⟨rfl, rfl, rfl, rfl, rfl⟩ rfl rfl rfl rfl rfl (by kernel_rfl) Tryd.func6 (by kernel_rfl)
    (of_decide_eq_true (by kernel_rfl)) (by unfold Func.isWrapper; first | (rw [if_pos (by decide +kernel)]; kernel_rfl) | (rw [if_neg (by decide +kernel)]; exact ⟨rfl, rfl⟩))
    (fun os started H enc _ => lifted os started H enc)

end Go.Proofs.YtohedeeajcdjcaaDoor.LRoamRefuses

namespace Go.Proofs.YtohedeeajcdjcaaDoor
theorem roamRefuses_holds : Rows.RoamRefusesCardSaid :=
  Claim7.holds_tied_plain_at .later [] [.data] true (true, "25c53ae29fda08d9d042b4c4856af7eab08bb405629bf16a006be57b24e6dc14") false
    LRoamRefuses.over (fun _ h => by cases h) (by kernel_rfl) (fun _ h => by cases h) roamRefuses_row_tie rfl ⟨rfl, rfl⟩ (by kernel_rfl) rfl
    (fun f fn hf hfn => by
      obtain rfl : f = 6 := Option.some.inj ((show Tryd.prog.funcNamed "gurney/gurneylaw09.RoamRefuses" = some 6 by kernel_rfl).symm.trans hf) |>.symm
      obtain rfl : fn = Tryd.f6 := (Option.some.inj (Tryd.func6.symm.trans hfn)).symm
      exact ⟨by kernel_rfl, fun j t ht => by
        rw [Tryd.params6] at ht
        have hm : t ∈ [23, 47] := by simpa using Array.mem_of_getElem? ht
        have hall : ([23, 47].all fun u => !Tryd.prog.wantsStandIn u) = true := by kernel_rfl
        exact (show Tryd.prog.wantsStandIn t = false by simpa using List.all_eq_true.1 hall t hm)⟩)
    (by kernel_rfl)
#print axioms roamRefuses_holds
end Go.Proofs.YtohedeeajcdjcaaDoor
