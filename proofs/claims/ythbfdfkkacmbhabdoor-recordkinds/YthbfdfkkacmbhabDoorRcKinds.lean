/- The statement RecordKinds: a right sample is numeric just if it isn't a point of a wave, and a text of it alone says it. -/
import Derived.Test.YthbfdfkkacmbhabDoorRcAlive
import Derived.Test.YthbfdfkkacmbhabDoorRcLaid
import Derived.Test.YthbfdfkkacmbhabDoorRcArg
namespace Go.Proofs.YthbfdfkkacmbhabDoor
open Go.ChangeShapes Go.WideShapes Go.ChangeAt Go.RowKit Go.Joins
open Bt

namespace LRecordKinds

theorem one_ok {s : Smp} (h : rightM s = true) : packE 1 1 4 [s] = 0 := packE_ok (by decide) (by simp [allR, h]) (by simp)

set_option maxRecDepth 100000 in
set_option maxHeartbeats 2000000 in
theorem walk_main (k t v : Int) (w : World) (hwd : WidR w) :
    Calls Tryd.prog 3 #[.agg #[.int .i64 k, .int .i64 t, .int .i64 v]] w fun e w' => e = .returned (.bool true) ∧ Below w.heap.size w w' := by
  have BA := (Below.refl _ w).alloc (Nat.le_refl _) (.cells #[.int .i64 k, .int .i64 t, .int .i64 v] 23)
  have nA := heap_alloc_new w (.cells #[.int .i64 k, .int .i64 t, .int .i64 v] 23)
  have AL := Hid.intro (alive10_any (w.alloc (.cells #[.int .i64 k, .int .i64 t, .int .i64 v] 23)) (hwd.below BA))
  have HWD := Hid.intro hwd
  clear hwd
  have BAH := Hid.intro BA
  have NAH := Hid.intro nA
  have CR : Hid (∀ W, Calls Tryd.prog 5 #[.agg #[.int .i64 k, .int .i64 t, .int .i64 v]] W fun e w' => e = .returned (.bool (rightM ⟨k, t, v⟩)) ∧ Below W.heap.size W w') := fun W => cright_any ⟨k, t, v⟩ W
  have CN : Hid (∀ W, Calls Tryd.prog 6 #[.agg #[.int .i64 k, .int .i64 t, .int .i64 v]] W fun e w' => e = .returned (.bool (numericM ⟨k, t, v⟩)) ∧ Below W.heap.size W w') := fun W => cnumeric_any ⟨k, t, v⟩ W
  clear BA nA
  go_enter Tryd.func3, Tryd.ntmps3
  go_wp2_with fail
  refine AL.out.mono ?_
  rintro e w1 ⟨rfl, B1⟩
  have n1 := (B1.block _ (lt_of_heap NAH.out)).trans NAH.out
  have N1 := Hid.intro n1
  have B1H := Hid.intro (BAH.out.trans (B1.mono BAH.out.size))
  have c0 : w1.cell? ⟨w.heap.size, 0, none⟩ = some (.int .i64 k) := by rw [cell_of_row _ _ 0 _ _ _ n1]; rfl
  have c1 : w1.cell? ⟨w.heap.size, 1, none⟩ = some (.int .i64 t) := by rw [cell_of_row _ _ 1 _ _ _ n1]; rfl
  have c2 : w1.cell? ⟨w.heap.size, 2, none⟩ = some (.int .i64 v) := by rw [cell_of_row _ _ 2 _ _ _ n1]; rfl
  clear AL B1 n1 NAH BAH
  go_wp2_with fail
  refine (CR.out _).mono ?_
  rintro e w2 ⟨rfl, B2⟩
  have n2 := (B2.block _ (lt_of_heap N1.out)).trans N1.out
  have N2 := Hid.intro n2
  have B2H := Hid.intro (B1H.out.trans (B2.mono B1H.out.size))
  have d0 := cellM B2 c0
  have d1 := cellM B2 c1
  have d2 := cellM B2 c2
  clear CR B2 n2 N1 B1H c0 c1 c2
  cases hr : rightM ⟨k, t, v⟩ with
  | false =>
    have hn : numericM ⟨k, t, v⟩ = false := by unfold numericM; rw [hr]; rfl
    rw [hn] at CN
    clear hn hr
    go_wp2_with fail
    refine (CN.out _).mono ?_
    rintro e w3 ⟨rfl, B3⟩
    have B3H := Hid.intro (B2H.out.trans (B3.mono B2H.out.size))
    clear CN B3
    go_wp2
    go_ret
    exact ⟨rfl, B3H.out⟩
  | true =>
    have hE := one_ok hr
    have hPP := packT_parse hE
    have hPL := packT_length hE
    have hn : numericM ⟨k, t, v⟩ = decide (k ≠ 5) := by unfold numericM; rw [hr]; rfl
    rw [hn] at CN
    obtain ⟨A1, hA1⟩ : ∃ A1, A1 = w2.alloc (.cells #[.int .i64 1, .int .i64 1, .int .i64 4] 27) := ⟨_, rfl⟩
    obtain ⟨A2, hA2⟩ : ∃ A2, A2 = A1.alloc (.cells #[.int .i64 k, .int .i64 t, .int .i64 v] 23) := ⟨_, rfl⟩
    have B3 : Below w2.heap.size w2 A1 := by rw [hA1]; exact (Below.refl _ w2).alloc (Nat.le_refl _) _
    have e0 := cellM B3 d0
    have e1 := cellM B3 d1
    have e2 := cellM B3 d2
    have B4 : Below A1.heap.size A1 A2 := by rw [hA2]; exact (Below.refl _ A1).alloc (Nat.le_refl _) _
    have n4 : A2.heap[A1.heap.size]? = some (.cells #[.int .i64 k, .int .i64 t, .int .i64 v] 23 (0, 0)) := by rw [hA2]; exact heap_alloc_new A1 _
    have z1 : A1.heap.size = w2.heap.size + 1 := by rw [hA1, World.size_alloc]
    have B24 := B3.trans (B4.mono B3.size)
    have N4 := Hid.intro ((B24.block _ (lt_of_heap N2.out)).trans N2.out)
    have CP := cpack_any 1 1 4 _ _ 1 [⟨k, t, v⟩] (by simp) A2 (HWD.out.below (B2H.out.trans (B24.mono B2H.out.size))) (sms_block (l := [⟨k, t, v⟩]) n4 1)
    rw [hE, z1] at CP
    have CPH := Hid.intro CP
    have B4H := Hid.intro (B2H.out.trans (B24.mono B2H.out.size))
    have HPP := Hid.intro hPP
    have HPL := Hid.intro hPL
    rw [hA2, hA1] at CPH
    rw [hA1] at e0 e1 e2
    clear CP B3 B4 n4 z1 B24 N2 B2H hr hn hE hPP hPL
    go_wp2_with fail
    refine CPH.out.mono ?_
    rintro e w5 ⟨a5, c5, rfl, r5, m5, _, B5⟩
    rw [← hA1, ← hA2] at B5
    have N5 := Hid.intro ((B5.block _ (lt_of_heap N4.out)).trans N4.out)
    have B5H := Hid.intro (B4H.out.trans (B5.mono B4H.out.size))
    have PR := cparse_any a5 c5 (packT 1 1 4 [⟨k, t, v⟩]) (by have := HPL.out; omega) packT_byt w5 (HWD.out.below B5H.out) r5 m5
    rw [HPP.out.2, parseE_zero.2 HPP.out.1] at PR
    have PRH := Hid.intro PR
    clear CPH B5 r5 m5 PR hA1 hA2 A1 A2 N4 B4H e0 e1 e2
    generalize (packT 1 1 4 [⟨k, t, v⟩]).length = LT at *
    go_wp2_with fail
    refine PRH.out.mono ?_
    rintro e w6 ⟨a6, c6, rfl, s6, _, _, B6⟩
    have n6 := (B6.block _ (lt_of_heap N5.out)).trans N5.out
    have B6H := Hid.intro (B5H.out.trans (B6.mono B5H.out.size))
    have c0 : w6.cell? ⟨w.heap.size, 0, none⟩ = some (.int .i64 k) := by rw [cell_of_row _ _ 0 _ _ _ n6]; rfl
    have c1 : w6.cell? ⟨w.heap.size, 1, none⟩ = some (.int .i64 t) := by rw [cell_of_row _ _ 1 _ _ _ n6]; rfl
    have c2 : w6.cell? ⟨w.heap.size, 2, none⟩ = some (.int .i64 v) := by rw [cell_of_row _ _ 2 _ _ _ n6]; rfl
    obtain ⟨_, _, ea, hc6⟩ := s6
    simp only [Value.slice.injEq] at ea
    obtain ⟨rfl, _, rfl⟩ := ea
    obtain ⟨pb, po, rfl, _, hp⟩ := hc6 (by simp)
    obtain ⟨l0, l1, l2⟩ := hp 0 (by simp)
    have l0' : w6.cell? ⟨pb, po, none⟩ = some (.int .i64 k) := by simpa using l0
    have l1' : w6.cell? ⟨pb, po + 1, none⟩ = some (.int .i64 t) := by simpa using l1
    have l2' : w6.cell? ⟨pb, po + 2, none⟩ = some (.int .i64 v) := by simpa using l2
    have se : ∀ W, (Op.equalIn 10000 23 (.agg #[.int .i64 k, .int .i64 t, .int .i64 v]) (.agg #[.int .i64 k, .int .i64 t, .int .i64 v])).run Tryd.prog W = .ok true W := fun W => by
      have := smp_eq k t v k t v W
      simpa using this
    have KEEP : Hid (∀ W, Below w6.heap.size w6 W → W.cell? ⟨w.heap.size, 0, none⟩ = some (.int .i64 k) ∧ W.cell? ⟨w.heap.size, 1, none⟩ = some (.int .i64 t) ∧ W.cell? ⟨w.heap.size, 2, none⟩ = some (.int .i64 v) ∧ W.cell? ⟨pb, po, none⟩ = some (.int .i64 k) ∧ W.cell? ⟨pb, po + 1, none⟩ = some (.int .i64 t) ∧ W.cell? ⟨pb, po + 2, none⟩ = some (.int .i64 v)) := fun W hB => ⟨cellM hB c0, cellM hB c1, cellM hB c2, cellM hB l0', cellM hB l1', cellM hB l2'⟩
    clear PRH B6 B5H N5 n6 hp hc6 l0 l1 l2 d0 d1 d2
    have hdk : decide (k ≠ 5) = (k != 5) := by
      by_cases q : k = 5
      · subst q; rfl
      · simp [q]
    rw [hdk] at CN
    clear hdk
    go_wp2_with fail
    trace_state
    go_region_held3 (fun W => W.cell? ⟨w.heap.size, 0, none⟩ = some (.int .i64 k) ∧ W.cell? ⟨w.heap.size, 1, none⟩ = some (.int .i64 t) ∧ W.cell? ⟨w.heap.size, 2, none⟩ = some (.int .i64 v) ∧ W.cell? ⟨pb, po, none⟩ = some (.int .i64 k) ∧ W.cell? ⟨pb, po + 1, none⟩ = some (.int .i64 t) ∧ W.cell? ⟨pb, po + 2, none⟩ = some (.int .i64 v))
      (first | exact KEEP.out _ E7 | go_keep)
      (first | (go_at_call 6; refine (CN.out _).mono ?_; rintro e w7 ⟨rfl, B7⟩; have E7 : Below w6.heap.size w6 w7 := undrewM B7; clear B7) | fail)
    all_goals
      go_wp2
      go_ret
      exact ⟨by simp, B6H.out.trans (E7.mono B6H.out.size)⟩

theorem walk (k t v : Int) (w : World) (_ : (Lit.int .i64 k).wf = true ∧ (Lit.int .i64 t).wf = true ∧ (Lit.int .i64 v).wf = true) (hwd : WidR w) :
    Calls Tryd.prog 3 #[.agg #[.int .i64 k, .int .i64 t, .int .i64 v]] w fun e w' => e = .returned (.bool true) ∧ Below w.heap.size w w' := walk_main k t v w hwd

set_option maxRecDepth 100000 in
theorem lifted (os : Os) (started : os.Started) (H : Type) (enc : TypeId × Value → H) :
    ReturnsInHanded {} Tryd.checked os 3 .any (fun w args => (Rows.recordKindsSpec.pre enc Tryd.prog Tryd.f3 [] false w args ∧ laidMetH Tryd.prog LW w) ∧ sizedMet enc Tryd.prog Tryd.f3 (OpenSpec.ofChange Rows.recordKindsSpec) false w args) (Rows.recordKindsSpec.post enc Tryd.prog Tryd.f3 false true false false) := by
  refine returnsInHanded_of_change_and (C := Tryd.checked) (X := fun w _ => laidMetH Tryd.prog LW w) (fun _ _ _ hh h => h.of_heap hh) own started (by kernel_rfl) Tryd.func3
    (ChangeSpec.witness_shaped (enc := enc) (C := Tryd.checked) (os := os) (X := fun w _ => laidMetH Tryd.prog LW w) false (World.doorLaid Tryd.prog 400 os) #[.agg #[.int .i64 0, .int .i64 0, .int .i64 0]] 8 rfl (World.shaped_of_RefB (by kernel_rfl) (by kernel_rfl)) (by kernel_rfl) (by kernel_rfl) (by kernel_rfl) (door_met os _)) ?_
  intro W base args ds gs before hval0 hW _ _ hL _
  have hval : ∀ (j : Nat) t v, Tryd.f3.params[j]? = some t → args[j]? = some v → Value.okWide Tryd.prog W .any base t v := hval0
  have hW' := hW
  obtain ⟨p, q, hA0, hV, rfl, hfz, hnd⟩ := hW
  have hA : DataW.TrodAll enc Tryd.prog W 0 (fun _ => true) true Tryd.f3.params.toList args.toList ds p := hA0
  rw [Tryd.params3] at hA hval
  obtain ⟨v0, vs0, d0, ds0, p0, q0, hargs, rfl, rfl, h0, r0⟩ := trodAll_cons hA
  obtain ⟨rfl, rfl, rfl⟩ := trodAll_nil r0
  obtain rfl : args = #[v0] := by cases args; simp_all
  obtain ⟨rfl, rfl⟩ := trodVars_none hV
  have k0 := h0
  have lt0 : ∀ x ∈ p0, x.block < W.heap.size := by obtain ⟨m, hm⟩ := k0; exact DataW.trod_lt m _ _ _ hm
  obtain ⟨kc0, nc0, sc0, rfl, w0⟩ := open_sample (hval 0 23 v0 rfl rfl) h0
  clear hA0 hval0
  refine (walk kc0 nc0 sc0 W w0 (laid_fact hL)).mono fun e W' ⟨he, bel⟩ => ?_
  subst he
  exact ⟨_, rfl, _, _, _, [], _, [], hW', trodAll_mk1 (shut_bool Tryd.underlying4 _), (trodAll_cons_mk (Below.trod laidOut (by kernel_rfl) (of_decide_eq_true (by kernel_rfl)) k0 bel lt0) trodAll_mk0), rfl, bel.frame _, fun h => by cases h⟩

theorem over : Rows.recordKindsRow.holds Tryd.pinned (OpenSpec.ofChange Rows.recordKindsSpec) :=
  OpenClaim.holds_of_wide 3 Tryd.f3 rfl rfl rfl rfl rfl rfl rfl ⟨rfl, rfl, rfl, rfl, rfl⟩ rfl rfl rfl rfl rfl (by kernel_rfl) Tryd.func3 (by kernel_rfl)
    (of_decide_eq_true (by kernel_rfl)) (by unfold Func.isWrapper; first | (rw [if_pos (by decide +kernel)]; kernel_rfl) | (rw [if_neg (by decide +kernel)]; exact ⟨rfl, rfl⟩))
    (fun os started H enc _ => lifted os started H enc)

end Go.Proofs.YthbfdfkkacmbhabDoor.LRecordKinds

namespace Go.Proofs.YthbfdfkkacmbhabDoor
theorem recordKinds_holds : Rows.RecordKindsCardSaid :=
  Claim7.holds_tied_plain_at .later [] [.data] true (true, "714eacfa9ee118665e92044e538da281d1c174124e929a346974e0f862c83077") false
    LRecordKinds.over (fun _ h => by cases h) (by kernel_rfl) (fun _ h => by cases h) recordKinds_row_tie rfl ⟨rfl, rfl⟩ (by kernel_rfl) rfl
    (fun f fn hf hfn => by
      obtain rfl : f = 3 := Option.some.inj ((show Tryd.prog.funcNamed "gurney/gurneylaw10.RecordKinds" = some 3 by kernel_rfl).symm.trans hf) |>.symm
      obtain rfl : fn = Tryd.f3 := (Option.some.inj (Tryd.func3.symm.trans hfn)).symm
      exact ⟨by kernel_rfl, fun j t ht => by
        rw [Tryd.params3] at ht
        have hm : t ∈ [23] := by simpa using Array.mem_of_getElem? ht
        have hall : ([23].all fun u => !Tryd.prog.wantsStandIn u) = true := by kernel_rfl
        exact (show Tryd.prog.wantsStandIn t = false by simpa using List.all_eq_true.1 hall t hm)⟩)
    (by kernel_rfl)
#print axioms recordKinds_holds
end Go.Proofs.YthbfdfkkacmbhabDoor
