/- The statement RecordMany: right samples are packed just if they are as many as fit. -/
import Derived.Test.YthbfdfkkacmbhaaDoorRcAlive
import Derived.Test.YthbfdfkkacmbhaaDoorRcLaid
import Derived.Test.YthbfdfkkacmbhaaDoorRcArg
import Derived.Test.YthbfdfkkacmbhaaDoorCodeArg
import Derived.Test.YthbfdfkkacmbhaaDoorRefMay
namespace Go.Proofs.YthbfdfkkacmbhaaDoor
open Go.ChangeShapes Go.WideShapes Go.ChangeAt Go.RowKit Go.Joins
open Bt

namespace LRecordMany

theorem many {k n s : Int} {l : List Smp} (hm : mayC k n s = true) (hr : allR l = true) : (packE k n s l == 0) = decide ((l.length : Int) ≤ fitsM k n s) ∧ (packE k n s l = 0 ∨ packE k n s l = 4) := by
  have hc := mayC_true hm
  have h0 : 0 < k * s := Int.mul_pos (by omega) (by omega)
  unfold packE fitsM
  rw [if_pos ⟨hm, hr⟩, if_pos hm]
  by_cases q : 1 + 3 * (l.length : Int) ≤ k * s
  · rw [if_pos q, decide_eq_true (by omega)]
    exact ⟨rfl, .inl rfl⟩
  · rw [if_neg q, decide_eq_false (by omega)]
    exact ⟨rfl, .inr rfl⟩

theorem cellsM {w : World} {R : Nat → Prop} {ao : Option Addr} {n c : Nat} {l : List Smp} (h : SmsAt R w (.slice ao n c) l) (h0 : 0 < l.length) : ∃ pb off, ao = some ⟨pb, off, none⟩ ∧ ∀ t, (ht : t < l.length) →
    w.cell? ⟨pb, off + t * 3, none⟩ = some (.int .i64 l[t].kind) ∧ w.cell? ⟨pb, off + t * 3 + 1, none⟩ = some (.int .i64 l[t].tick) ∧ w.cell? ⟨pb, off + t * 3 + 2, none⟩ = some (.int .i64 l[t].value) := by
  obtain ⟨_, _, e, hp⟩ := h
  simp only [Value.slice.injEq] at e
  obtain ⟨rfl, _, _⟩ := e
  obtain ⟨pb, off, ha, _, hq⟩ := hp h0
  exact ⟨pb, off, ha, hq⟩

set_option maxRecDepth 100000 in
set_option maxHeartbeats 2000000 in
theorem walk_main (k n s : Int) (ao : Option Addr) (cap : Nat) (l : List Smp) (hcap : cap ≤ maxLen) (hlc : l.length ≤ cap) (w : World) (hwd : WidR w) (h : SmsAt (fun _ => True) w (.slice ao l.length cap) l) :
    Calls Tryd.prog 6 #[Cd k n s, .slice ao l.length cap] w fun e w' => e = .returned (.bool true) ∧ Below w.heap.size w w' := by
  have BA := (Below.refl _ w).alloc (Nat.le_refl _) (.cells #[.int .i64 k, .int .i64 n, .int .i64 s] 23)
  have nA := heap_alloc_new w (.cells #[.int .i64 k, .int .i64 n, .int .i64 s] 23)
  have AL := Hid.intro (alive10_any (w.alloc (.cells #[.int .i64 k, .int .i64 n, .int .i64 s] 23)) (hwd.below BA))
  have HWD := Hid.intro hwd
  clear hwd
  have BAH := Hid.intro BA
  have NAH := Hid.intro nA
  have HS := Hid.intro h
  obtain ⟨L, hL⟩ : ∃ L, L = l.length := ⟨_, rfl⟩
  have HL := Hid.intro hL
  rw [← hL] at hlc ⊢
  have hml : L ≤ maxLen := Nat.le_trans hlc hcap
  clear BA nA h hL
  go_enter Tryd.func6, Tryd.ntmps6
  go_wp2_with fail
  refine AL.out.mono ?_
  rintro e w1 ⟨rfl, B1⟩
  have N1 := Hid.intro ((B1.block _ (lt_of_heap NAH.out)).trans NAH.out)
  have B1H := Hid.intro (BAH.out.trans (B1.mono BAH.out.size))
  clear AL B1 NAH BAH
  by_cases hbig : 80 < L
  · have hbig' : (80 : Int) < (L : Int) := by omega
    go_wp2
    go_ret
    exact ⟨rfl, B1H.out⟩
  have hbig' : ¬ (80 : Int) < (L : Int) := by omega
  have h80 : L ≤ 80 := by omega
  clear hbig
  go_wp2_with fail
  go_loopw [5] (fun i ws => ∃ t : Nat, t ≤ L ∧ i = .int .i64 t ∧ (∀ j, (hj : j < l.length) → j < t → rightM l[j] = true) ∧ Below w1.heap.size w1 ws) (fun i _ => L - (intOf i).toNat)
  case atStart => exact ⟨0, by omega, rfl, fun j _ hj => absurd hj (Nat.not_lt_zero _), Below.refl _ _⟩
  case round =>
    obtain ⟨t, ht, rfl, hR, hB⟩ := hrel
    have HR := Hid.intro hR
    have BH := Hid.intro hB
    by_cases hlt : t < L
    · have t0 : (0 : Int) ≤ (t : Int) := by omega
      have t1 : (t : Int) < (L : Int) := by omega
      have htl : t < l.length := by rw [← HL.out]; exact hlt
      obtain ⟨pb, off, rfl, hp⟩ := cellsM HS.out (by omega)
      obtain ⟨q0, q1, q2⟩ := hp t htl
      have s0 := cellM hB (cellM B1H.out q0)
      have s1 := cellM hB (cellM B1H.out q1)
      have s2 := cellM hB (cellM B1H.out q2)
      have CR := Hid.intro (cright_any l[t] wr)
      have NX : Hid (rightM l[t] = true → ∀ j, (hj : j < l.length) → j < t + 1 → rightM l[j] = true) := fun e j hj h => by
        by_cases q : j < t
        · exact HR.out j hj q
        · obtain rfl : j = t := by omega
          exact e
      generalize l[t] = x at s0 s1 s2 CR NX
      clear hp q0 q1 q2 hR hB
      cases hx : rightM x with
      | false =>
        rw [hx] at CR
        clear NX hx
        go_wp2_with fail
        refine CR.out.mono ?_
        rintro e w2 ⟨rfl, B2⟩
        have FIN := Hid.intro (B1H.out.trans ((BH.out.trans (B2.mono BH.out.size)).mono B1H.out.size))
        clear CR B2 s0 s1 s2
        go_wp2
        go_ret
        exact ⟨rfl, FIN.out⟩
      | true =>
        rw [hx] at CR
        have NX2 := Hid.intro (NX.out hx)
        clear NX hx
        go_wp2_with fail
        refine CR.out.mono ?_
        rintro e w2 ⟨rfl, B2⟩
        have B2H := Hid.intro (BH.out.trans (B2.mono BH.out.size))
        clear CR B2 s0 s1 s2
        go_wp2
        go_roundw
        case rel => exact ⟨t + 1, by omega, by go_num, NX2.out, B2H.out⟩
        case measure => simp [intOf]; omega
    · obtain rfl : t = L := by omega
      have tt : ¬ (t : Int) < (t : Int) := by omega
      have hall : allR l = true := by
        unfold allR
        rw [List.all_eq_true]
        intro s hs
        obtain ⟨j, hj, rfl⟩ := List.getElem_of_mem hs
        exact hR j hj (by rw [HL.out]; exact hj)
      have n3 := (hB.block _ (lt_of_heap N1.out)).trans N1.out
      have c0 : wr.cell? ⟨w.heap.size, 0, none⟩ = some (.int .i64 k) := by rw [cell_of_row _ _ 0 _ _ _ n3]; rfl
      have c1 : wr.cell? ⟨w.heap.size, 1, none⟩ = some (.int .i64 n) := by rw [cell_of_row _ _ 1 _ _ _ n3]; rfl
      have c2 : wr.cell? ⟨w.heap.size, 2, none⟩ = some (.int .i64 s) := by rw [cell_of_row _ _ 2 _ _ _ n3]; rfl
      have BW := Hid.intro (B1H.out.trans (hB.mono B1H.out.size))
      have CP := cpack_any k n s _ ao cap l (by rw [← HL.out]; exact h80) wr (HWD.out.below BW.out) (HS.out.below BW.out)
      rw [← HL.out] at CP
      have CPH := Hid.intro CP
      have MA := Hid.intro (fun W => refMay_any k n s W)
      have FI := Hid.intro (fun W => cfits_any k n s W)
      have MN := Hid.intro (fun (h : mayC k n s = true) => many h hall)
      have NO : Hid (mayC k n s = false → packE k n s l = 1 ∧ fitsM k n s = 0) := fun h => by
        unfold packE fitsM
        rw [if_neg (fun q => by rw [h] at q; exact absurd q.1 (by decide)), if_neg (by rw [h]; decide)]
        exact ⟨rfl, rfl⟩
      rw [← HL.out] at MN
      obtain ⟨pe, hpe⟩ : ∃ pe, pe = packE k n s l := ⟨_, rfl⟩
      obtain ⟨fi, hfi⟩ : ∃ fi, fi = fitsM k n s := ⟨_, rfl⟩
      rw [← hpe] at CPH MN NO
      rw [← hfi] at FI MN NO
      obtain ⟨PL, hPL⟩ : ∃ PL, PL = (packT k n s l).length := ⟨_, rfl⟩
      rw [← hPL] at CPH
      clear CP hpe hfi hPL n3 hall hR hB
      go_wp2_with fail
      refine CPH.out.mono ?_
      rintro e w4 ⟨a4, c4, rfl, _, _, _, B4⟩
      have d0 := cellM B4 c0
      have d1 := cellM B4 c1
      have d2 := cellM B4 c2
      have BW4 := Hid.intro (BW.out.trans (B4.mono BW.out.size))
      clear CPH B4 c0 c1 c2 BW
      go_wp2_with fail
      refine (MA.out _).mono ?_
      rintro e w5 ⟨rfl, B5⟩
      have c0 := cellM B5 d0
      have c1 := cellM B5 d1
      have c2 := cellM B5 d2
      have BW5 := Hid.intro (BW4.out.trans (B5.mono BW4.out.size))
      clear MA B5 d0 d1 d2 BW4
      cases hm : mayC k n s with
      | false =>
        obtain ⟨e1, e2⟩ := NO.out hm
        subst e1 e2
        clear hm MN NO
        go_wp2_with fail
        refine (FI.out _).mono ?_
        rintro e w6 ⟨rfl, B6⟩
        have BW6 := Hid.intro (BW5.out.trans (B6.mono BW5.out.size))
        clear FI B6
        go_wp2
        go_ret
        exact ⟨rfl, BW6.out⟩
      | true =>
        obtain ⟨e1, e2⟩ := MN.out hm
        clear hm MN NO
        have E1 := Hid.intro e1
        rcases e2 with e2 | e2
        · subst e2
          have hle : (t : Int) ≤ fi := by have := E1.out; simpa using this
          go_wp2_with fail
          refine (FI.out _).mono ?_
          rintro e w6 ⟨rfl, B6⟩
          have BW6 := Hid.intro (BW5.out.trans (B6.mono BW5.out.size))
          clear FI B6 e1
          go_wp2
          go_ret
          exact ⟨rfl, BW6.out⟩
        · subst e2
          have hle : ¬ (t : Int) ≤ fi := by have := E1.out; simpa using this
          go_wp2_with fail
          refine (FI.out _).mono ?_
          rintro e w6 ⟨rfl, B6⟩
          have BW6 := Hid.intro (BW5.out.trans (B6.mono BW5.out.size))
          clear FI B6 e1
          go_wp2
          go_ret
          exact ⟨rfl, BW6.out⟩

theorem walk (k n s : Int) (ao : Option Addr) (len cap : Nat) (l : List Smp) (w : World) (_ : (Lit.int .i64 k).wf = true ∧ (Lit.int .i64 n).wf = true ∧ (Lit.int .i64 s).wf = true) (hz : l.length = len ∧ SmsAt (fun _ => True) w (.slice ao len cap) l ∧ len ≤ cap ∧ cap ≤ maxLen ∧ (ao = none → cap = 0)) (hwd : WidR w) :
    Calls Tryd.prog 6 #[Cd k n s, .slice ao len cap] w fun e w' => e = .returned (.bool true) ∧ Below w.heap.size w w' := by
  obtain ⟨hl, hr, hlc, hmx, _⟩ := hz
  subst hl
  exact walk_main k n s ao cap l hmx hlc w hwd hr

set_option maxRecDepth 100000 in
theorem lifted (os : Os) (started : os.Started) (H : Type) (enc : TypeId × Value → H) :
    ReturnsInHanded {} Tryd.checked os 6 .any (fun w args => (Rows.recordManySpec.pre enc Tryd.prog Tryd.f6 [] false w args ∧ laidMetH Tryd.prog LW w) ∧ sizedMet enc Tryd.prog Tryd.f6 (OpenSpec.ofChange Rows.recordManySpec) false w args) (Rows.recordManySpec.post enc Tryd.prog Tryd.f6 false true false false) := by
  refine returnsInHanded_of_change_and (C := Tryd.checked) (X := fun w _ => laidMetH Tryd.prog LW w) (fun _ _ _ hh h => h.of_heap hh) own started (by kernel_rfl) Tryd.func6
    (ChangeSpec.witness_shaped (enc := enc) (C := Tryd.checked) (os := os) (X := fun w _ => laidMetH Tryd.prog LW w) false (World.doorLaid Tryd.prog 400 os) #[.agg #[.int .i64 0, .int .i64 0, .int .i64 0], .slice none 0 0] 8 rfl (World.shaped_of_RefB (by kernel_rfl) (by kernel_rfl)) (by kernel_rfl) (by kernel_rfl) (by kernel_rfl) (door_met os _)) ?_
  intro W base args ds gs before hval0 hW _ _ hL _
  have hval : ∀ (j : Nat) t v, Tryd.f6.params[j]? = some t → args[j]? = some v → Value.okWide Tryd.prog W .any base t v := hval0
  have hW' := hW
  obtain ⟨p, q, hA0, hV, rfl, hfz, hnd⟩ := hW
  have hA : DataW.TrodAll enc Tryd.prog W 0 (fun _ => true) true Tryd.f6.params.toList args.toList ds p := hA0
  rw [Tryd.params6] at hA hval
  obtain ⟨v0, vs0, d0, ds0, p0, q0, hargs, rfl, rfl, h0, r0⟩ := trodAll_cons hA
  obtain ⟨v1, vs1, d1, ds1, p1, q1, rfl, rfl, rfl, h1, r1⟩ := trodAll_cons r0
  obtain ⟨rfl, rfl, rfl⟩ := trodAll_nil r1
  obtain rfl : args = #[v0, v1] := by cases args; simp_all
  obtain ⟨rfl, rfl⟩ := trodVars_none hV
  have k0 := h0
  have lt0 : ∀ x ∈ p0, x.block < W.heap.size := by obtain ⟨m, hm⟩ := k0; exact DataW.trod_lt m _ _ _ hm
  obtain ⟨kc0, nc0, sc0, rfl, w0⟩ := open_code (hval 0 23 v0 rfl rfl) h0
  have k1 := h1
  have lt1 : ∀ x ∈ p1, x.block < W.heap.size := by obtain ⟨m, hm⟩ := k1; exact DataW.trod_lt m _ _ _ hm
  obtain ⟨a1, len1, cap1, rfl⟩ := okWide_slice Tryd.underlying24 (hval 1 24 v1 rfl rfl)
  obtain ⟨z1, w1⟩ := open_samples h1
  clear hA0 hval0
  refine (walk kc0 nc0 sc0 a1 len1 cap1 z1 W w0 w1 (laid_fact hL)).mono fun e W' ⟨he, bel⟩ => ?_
  subst he
  exact ⟨_, rfl, _, _, _, [], _, [], hW', trodAll_mk1 (shut_bool Tryd.underlying4 _), (trodAll_cons_mk (Below.trod laidOut (by kernel_rfl) (of_decide_eq_true (by kernel_rfl)) k0 bel lt0) (trodAll_cons_mk (Below.trod laidOut (by kernel_rfl) (of_decide_eq_true (by kernel_rfl)) k1 bel lt1) trodAll_mk0)), rfl, bel.frame _, fun h => by cases h⟩

theorem over : Rows.recordManyRow.holds Tryd.pinned (OpenSpec.ofChange Rows.recordManySpec) :=
  OpenClaim.holds_of_wide 6 Tryd.f6 rfl rfl rfl rfl rfl rfl rfl ⟨rfl, rfl, rfl, rfl, rfl⟩ rfl rfl rfl rfl rfl (by kernel_rfl) Tryd.func6 (by kernel_rfl)
    (of_decide_eq_true (by kernel_rfl)) (by unfold Func.isWrapper; first | (rw [if_pos (by decide +kernel)]; kernel_rfl) | (rw [if_neg (by decide +kernel)]; exact ⟨rfl, rfl⟩))
    (fun os started H enc _ => lifted os started H enc)

end Go.Proofs.YthbfdfkkacmbhaaDoor.LRecordMany

namespace Go.Proofs.YthbfdfkkacmbhaaDoor
theorem recordMany_holds : Rows.RecordManyCardSaid :=
  Claim7.holds_tied_plain_at .later [] [.data] true (true, "48083bb0b2812a16015da9da29e02053fb694e0cc01e6d6a71d1c29f219818cd") false
    LRecordMany.over (fun _ h => by cases h) (by kernel_rfl) (fun _ h => by cases h) recordMany_row_tie rfl ⟨rfl, rfl⟩ (by kernel_rfl) rfl
    (fun f fn hf hfn => by
      obtain rfl : f = 6 := Option.some.inj ((show Tryd.prog.funcNamed "gurney/gurneylaw10.RecordMany" = some 6 by kernel_rfl).symm.trans hf) |>.symm
      obtain rfl : fn = Tryd.f6 := (Option.some.inj (Tryd.func6.symm.trans hfn)).symm
      exact ⟨by kernel_rfl, fun j t ht => by
        rw [Tryd.params6] at ht
        have hm : t ∈ [23, 24] := by simpa using Array.mem_of_getElem? ht
        have hall : ([23, 24].all fun u => !Tryd.prog.wantsStandIn u) = true := by kernel_rfl
        exact (show Tryd.prog.wantsStandIn t = false by simpa using List.all_eq_true.1 hall t hm)⟩)
    (by kernel_rfl)
#print axioms recordMany_holds
end Go.Proofs.YthbfdfkkacmbhaaDoor
