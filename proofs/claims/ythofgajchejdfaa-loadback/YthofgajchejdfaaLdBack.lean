/- The statement LoadBack: a bed that was admitted and is discharged leaves the beds that there were. -/
import Derived.Test.YthofgajchejdfaaLdFew
import Derived.Test.YthofgajchejdfaaLdArg
import Derived.Test.YthofgajchejdfaaLdRefS
namespace Go.Proofs.Ythofgajchejdfaa
open Go.ChangeShapes Go.WideShapes Go.ChangeAt Go.RowKit Go.Joins
open Bt

namespace LLoadBack

set_option maxRecDepth 100000 in
set_option maxHeartbeats 4000000 in
theorem walk_main (ao : Option Addr) (c : Nat) (l : List Bdd) (hlc : l.length ≤ c) (h0 : ao = none → c = 0) (b0 b1 b2 b3 b4 b5 : Int) (cap : Int) (w : World) (h : BdsAt (fun _ => True) w (.slice ao l.length c) l) :
    Calls Try.prog 7 #[.slice ao l.length c, .agg #[.int .i64 b0, .int .i64 b1, .int .i64 b2, .int .i64 b3, .int .i64 b4, .int .i64 b5], .int .i64 cap] w fun e w' => e = .returned (.bool true) ∧ Below w.heap.size w w' := by
  have BA := (Below.refl _ w).alloc (Nat.le_refl _) (.cells #[.int .i64 b0, .int .i64 b1, .int .i64 b2, .int .i64 b3, .int .i64 b4, .int .i64 b5] 27)
  have nA := heap_alloc_new w (.cells #[.int .i64 b0, .int .i64 b1, .int .i64 b2, .int .i64 b3, .int .i64 b4, .int .i64 b5] 27)
  have AL := Hid.intro (alive11_any (w.alloc (.cells #[.int .i64 b0, .int .i64 b1, .int .i64 b2, .int .i64 b3, .int .i64 b4, .int .i64 b5] 27)))
  have BAH := Hid.intro BA
  have NAH := Hid.intro nA
  have HS := Hid.intro h
  obtain ⟨L, hL⟩ : ∃ L, L = l.length := ⟨_, rfl⟩
  have HL := Hid.intro hL
  rw [← hL] at hlc ⊢
  have FW := Hid.intro (fun W => few11_any ao L c cap W)
  clear BA nA h hL
  go_enter Try.func7, Try.ntmps7
  go_wp2_with fail
  refine AL.out.mono ?_
  rintro e w1 ⟨rfl, B1⟩
  have N1 := Hid.intro ((B1.block _ (lt_of_heap NAH.out)).trans NAH.out)
  have B1H := Hid.intro (BAH.out.trans (B1.mono BAH.out.size))
  clear AL B1 NAH BAH
  cases hfw : fewB L cap with
  | false =>
    rw [hfw] at FW
    clear hfw
    go_wp2_with fail
    refine (FW.out _).mono ?_
    rintro e w2 ⟨rfl, rfl⟩
    clear FW
    go_wp2
    go_ret
    exact ⟨rfl, B1H.out⟩
  | true =>
  rw [hfw] at FW
  obtain ⟨hl20, hc0, hc1⟩ := fewB_true hfw
  have HB : Hid (∀ (W : World), Below w1.heap.size w1 W → W.cell? ⟨w.heap.size, 0, none⟩ = some (.int .i64 b0) ∧ W.cell? ⟨w.heap.size, 1, none⟩ = some (.int .i64 b1) ∧ W.cell? ⟨w.heap.size, 2, none⟩ = some (.int .i64 b2) ∧ W.cell? ⟨w.heap.size, 3, none⟩ = some (.int .i64 b3) ∧ W.cell? ⟨w.heap.size, 4, none⟩ = some (.int .i64 b4) ∧ W.cell? ⟨w.heap.size, 5, none⟩ = some (.int .i64 b5)) := fun W hB => by
    have q := (hB.block _ (lt_of_heap N1.out)).trans N1.out
    exact ⟨by rw [cell_of_row _ _ 0 _ _ _ q]; rfl, by rw [cell_of_row _ _ 1 _ _ _ q]; rfl, by rw [cell_of_row _ _ 2 _ _ _ q]; rfl, by rw [cell_of_row _ _ 3 _ _ _ q]; rfl, by rw [cell_of_row _ _ 4 _ _ _ q]; rfl, by rw [cell_of_row _ _ 5 _ _ _ q]; rfl⟩
  have AD := ladmit_any _ ao c l (by rw [← HL.out]; omega) ⟨by rw [← HL.out]; exact hlc, h0⟩ ⟨b0, b1, b2, b3, b4, b5⟩ cap ⟨hc0, hc1⟩ w1 (HS.out.below B1H.out)
  rw [← HL.out] at AD
  have NOE : Hid (admitE l ⟨b0, b1, b2, b3, b4, b5⟩ cap ≠ 0 → (admitL l ⟨b0, b1, b2, b3, b4, b5⟩ cap).length = 0) := fun q => by unfold admitL; rw [if_neg q]; rfl
  have YES : Hid (admitE l ⟨b0, b1, b2, b3, b4, b5⟩ cap = 0 → admitL l ⟨b0, b1, b2, b3, b4, b5⟩ cap = l ++ [⟨b0, b1, b2, b3, b4, b5⟩]) := fun q => by unfold admitL; rw [if_pos q]
  have BK := Hid.intro (admit_back (l := l) (b := ⟨b0, b1, b2, b3, b4, b5⟩) (cap := cap))
  obtain ⟨pe, hpe⟩ : ∃ pe, pe = admitE l ⟨b0, b1, b2, b3, b4, b5⟩ cap := ⟨_, rfl⟩
  obtain ⟨T, hT⟩ : ∃ T, T = admitL l ⟨b0, b1, b2, b3, b4, b5⟩ cap := ⟨_, rfl⟩
  rw [← hpe] at AD NOE YES BK
  rw [← hT] at AD NOE YES
  obtain ⟨TL, hTL⟩ : ∃ TL, TL = T.length := ⟨_, rfl⟩
  have HTL := Hid.intro hTL
  rw [← hTL] at AD NOE
  have ADH := Hid.intro AD
  obtain ⟨c0, c1, c2, c3, c4, c5⟩ := HB.out w1 (Below.refl _ _)
  clear hfw AD hpe hT hTL
  go_wp2_with fail
  refine (FW.out _).mono ?_
  rintro e w2 ⟨rfl, rfl⟩
  clear FW
  go_wp2_with fail
  refine ADH.out.mono ?_
  rintro e w3 ⟨a3, d3, rfl, s3, r3, B3⟩
  have B3H := Hid.intro B3
  have W3 := Hid.intro (B1H.out.trans (B3.mono B1H.out.size))
  have S3 := Hid.intro s3
  have R3 := Hid.intro r3
  clear ADH B3 s3 r3 c0 c1 c2 c3 c4 c5
  by_cases hp : pe = 0
  case neg =>
    have j0 : (pe != 0) = true := by rw [bne_iff_ne]; exact hp
    have z := NOE.out hp
    subst z
    clear YES BK
    go_wp2
    go_ret
    exact ⟨rfl, W3.out⟩
  subst hp
  have hT := YES.out rfl
  obtain ⟨k1, k2, k3, k4⟩ := BK.out rfl
  rw [← hT] at k1 k2 k3 k4
  have hTn : TL = L + 1 := by rw [HTL.out, hT, List.length_append, HL.out]; rfl
  have hsum : sumB T = sumB l + ofB ⟨b0, b1, b2, b3, b4, b5⟩ := by rw [hT, sumB_append, sumB_one]
  have sb1 := sumB_bounds l
  have sb2 := ofB_bounds ⟨b0, b1, b2, b3, b4, b5⟩
  rw [← HL.out] at sb1
  have hT100 : T.length ≤ 100 := by rw [← HTL.out]; omega
  have DI := ldischarge_any _ a3 d3 T hT100 (by rw [← HTL.out]; exact R3.out) b0 w3 (by rw [← HTL.out]; exact S3.out)
  rw [← HTL.out] at DI
  rw [k1, k2, ← HL.out] at DI
  have DIH := Hid.intro DI
  have SUT := Hid.intro (fun W (h : BdsAt (fun k => w1.heap.size ≤ k) W (.slice a3 TL d3) T) => lsum_any _ _ T hT100 W h)
  have SUL := Hid.intro (fun W (h : BdsAt (fun _ => True) W (.slice ao L c) l) => lsum_any _ _ l (by rw [← HL.out]; omega) W h)
  have FIT := fun W (h : BdsAt (fun k => w1.heap.size ≤ k) W (.slice a3 TL d3) T) => lfind_any _ _ T hT100 b0 W h
  have OWT := fun W (h : BdsAt (fun k => w1.heap.size ≤ k) W (.slice a3 TL d3) T) => lowner_any _ _ T hT100 b1 W h
  rw [k3] at FIT
  rw [k4] at OWT
  have FITH := Hid.intro FIT
  have OWTH := Hid.intro OWT
  have OFH := Hid.intro (fun W => lof_any ⟨b0, b1, b2, b3, b4, b5⟩ W)
  rw [hsum] at SUT
  rw [← HL.out] at FITH OWTH
  generalize sumB l = sl at SUT SUL sb1
  generalize ofB ⟨b0, b1, b2, b3, b4, b5⟩ = so at SUT OFH sb2
  subst hTn
  have hw1 : IntKind.i64.wrap (sl + so) = sl + so := IntWalk.i64_in _ (by omega)
  clear DI FIT OWT k1 k2 k3 k4 hT hsum YES NOE BK hT100
  obtain ⟨c0, c1, c2, c3, c4, c5⟩ := HB.out w3 B3H.out
  go_wp2_with fail
  refine DIH.out.mono ?_
  rintro e w4 ⟨a4, d4, rfl, s4, _, B4⟩
  have E4 := B3H.out.trans (B4.mono B3H.out.size)
  have W4 := Hid.intro (B1H.out.trans (E4.mono B1H.out.size))
  have S4 := Hid.intro (S3.out.below B4)
  have HS4 : BdsAt (fun _ => True) w4 (.slice ao L c) l := by
    have q := HS.out.below W4.out
    rw [← HL.out] at q
    exact q
  have SM := refSame11_any _ _ (.slice a4 L d4) (.slice ao L c) l l (by rw [← HL.out]; omega) (by rw [← HL.out]; omega) w4.drew (s4.below ((Below.refl _ w4).drew)) (HS4.below ((Below.refl _ w4).drew))
  rw [decide_eq_true rfl] at SM
  have SMH := Hid.intro SM
  have KEEP : Hid (∀ W, Below w4.heap.size w4 W → W.cell? ⟨w.heap.size, 0, none⟩ = some (.int .i64 b0) ∧ W.cell? ⟨w.heap.size, 1, none⟩ = some (.int .i64 b1) ∧ W.cell? ⟨w.heap.size, 2, none⟩ = some (.int .i64 b2) ∧ W.cell? ⟨w.heap.size, 3, none⟩ = some (.int .i64 b3) ∧ W.cell? ⟨w.heap.size, 4, none⟩ = some (.int .i64 b4) ∧ W.cell? ⟨w.heap.size, 5, none⟩ = some (.int .i64 b5)) := fun W hW => HB.out W (E4.trans (hW.mono E4.size))
  have CT : Hid (∀ W, Below w4.heap.size w4 W → Calls Try.prog 15 #[.slice a3 (L + 1) d3] W fun e w' => e = .returned (.int .i64 (sl + so)) ∧ Below W.heap.size W w') := fun W hW => SUT.out W (S4.out.below hW)
  have CL : Hid (∀ W, Below w4.heap.size w4 W → Calls Try.prog 15 #[.slice ao L c] W fun e w' => e = .returned (.int .i64 sl) ∧ Below W.heap.size W w') := fun W hW => SUL.out W (HS4.below hW)
  have CF : Hid (∀ W, Below w4.heap.size w4 W → Calls Try.prog 18 #[.slice a3 (L + 1) d3, .int .i64 b0] W fun e w' => e = .returned (.int .i64 (L : Int)) ∧ Below W.heap.size W w') := fun W hW => FITH.out W (S4.out.below hW)
  have CO : Hid (∀ W, Below w4.heap.size w4 W → Calls Try.prog 20 #[.slice a3 (L + 1) d3, .int .i64 b1] W fun e w' => e = .returned (.int .i64 (L : Int)) ∧ Below W.heap.size W w') := fun W hW => OWTH.out W (S4.out.below hW)
  have CB : Hid (∀ W, Calls Try.prog 13 #[.agg #[.int .i64 b0, .int .i64 b1, .int .i64 b2, .int .i64 b3, .int .i64 b4, .int .i64 b5]] W fun e w' => e = .returned (.int .i64 so) ∧ Below W.heap.size W w') := fun W => OFH.out W
  clear c0 c1 c2 c3 c4 c5
  obtain ⟨c0, c1, c2, c3, c4, c5⟩ := KEEP.out w4 (Below.refl _ _)
  clear DIH B4 E4 s4 SM S3 S4 HS4 SUT SUL FITH OWTH OFH
  go_wp2_with fail
  go_region_held3 (fun W => W.cell? ⟨w.heap.size, 0, none⟩ = some (.int .i64 b0) ∧ W.cell? ⟨w.heap.size, 1, none⟩ = some (.int .i64 b1) ∧ W.cell? ⟨w.heap.size, 2, none⟩ = some (.int .i64 b2) ∧ W.cell? ⟨w.heap.size, 3, none⟩ = some (.int .i64 b3) ∧ W.cell? ⟨w.heap.size, 4, none⟩ = some (.int .i64 b4) ∧ W.cell? ⟨w.heap.size, 5, none⟩ = some (.int .i64 b5))
    (first | exact KEEP.out _ E10 | exact KEEP.out _ E9 | exact KEEP.out _ E8 | exact KEEP.out _ E7 | exact KEEP.out _ E6 | exact KEEP.out _ E5 | go_keep)
    (first
      | (go_at_call 26; refine SMH.out.mono ?_; rintro e w5 ⟨rfl, B5⟩; have E5 : Below w4.heap.size w4 w5 := undrewB B5; clear B5)
      | (have _ := E6; go_at_call 15; refine (CL.out _ E6).mono ?_; rintro e w7 ⟨rfl, B7⟩; have E7 := E6.trans (B7.mono E6.size); clear B7)
      | (go_at_call 15; refine (CT.out _ E5).mono ?_; rintro e w6 ⟨rfl, B6⟩; have E6 := E5.trans (B6.mono E5.size); clear B6)
      | (go_at_call 13; refine (CB.out _).mono ?_; rintro e w8 ⟨rfl, B8⟩; have E8 := E7.trans (B8.mono E7.size); clear B8)
      | (go_at_call 18; refine (CF.out _ E8).mono ?_; rintro e w9 ⟨rfl, B9⟩; have E9 := E8.trans (B9.mono E8.size); clear B9)
      | (go_at_call 20; refine (CO.out _ E9).mono ?_; rintro e w10 ⟨rfl, B10⟩; have E10 := E9.trans (B10.mono E9.size); clear B10))
  all_goals
    go_wp2
    go_ret
    exact ⟨rfl, W4.out.trans (E10.mono W4.out.size)⟩

theorem walk (ao : Option Addr) (len c : Nat) (l : List Bdd) (b : Bdd) (cap : Int) (w : World) (hz : l.length = len ∧ BdsAt (fun _ => True) w (.slice ao len c) l ∧ len ≤ c ∧ c ≤ maxLen ∧ (ao = none → c = 0)) (_ : (Lit.int .i64 b.bid).wf = true ∧ (Lit.int .i64 b.tx).wf = true ∧ (Lit.int .i64 b.period).wf = true ∧ (Lit.int .i64 b.cost).wf = true ∧ (Lit.int .i64 b.watch).wf = true ∧ (Lit.int .i64 b.prio).wf = true) (_ : (Lit.int .i64 cap).wf = true) :
    Calls Try.prog 7 #[.slice ao len c, Bv b, .int .i64 cap] w fun e w' => e = .returned (.bool true) ∧ Below w.heap.size w w' := by
  obtain ⟨hl, hr, hlc, _, h0⟩ := hz
  subst hl
  exact walk_main ao c l hlc h0 b.bid b.tx b.period b.cost b.watch b.prio cap w hr

set_option maxRecDepth 100000 in
theorem lifted (os : Os) (started : os.Started) (H : Type) (enc : TypeId × Value → H) :
    ReturnsInHanded {} Try.checked os 7 .any (Rows.loadBackSpec.pre6 enc Try.prog Try.f7 Rows.loadBackRow.domain false) (Rows.loadBackSpec.post enc Try.prog Try.f7 false true false false) := by
  refine returnsInHanded_of_change (C := Try.checked) own started (by kernel_rfl) Try.func7
    (ChangeSpec.witness6 (enc := enc) (C := Try.checked) false ⟨#[], #[.slice none 0 0, .agg #[.int .i64 0, .int .i64 0, .int .i64 0, .int .i64 0, .int .i64 0, .int .i64 0], .int .i64 0], []⟩ 8 (by kernel_rfl) (by kernel_rfl) (by kernel_rfl) (by kernel_rfl)) ?_
  intro W base args ds gs before hval0 hW hcnd _
  have hval : ∀ (j : Nat) t v, Try.f7.params[j]? = some t → args[j]? = some v → Value.okWide Try.prog W .any base t v := hval0
  have hW' := hW
  obtain ⟨p, q, hA0, hV, rfl, hfz, hnd⟩ := hW
  have hA : DataW.TrodAll enc Try.prog W 0 (fun _ => true) true Try.f7.params.toList args.toList ds p := hA0
  rw [Try.params7] at hA hval
  obtain ⟨v0, vs0, d0, ds0, p0, q0, hargs, rfl, rfl, h0, r0⟩ := trodAll_cons hA
  obtain ⟨v1, vs1, d1, ds1, p1, q1, rfl, rfl, rfl, h1, r1⟩ := trodAll_cons r0
  obtain ⟨v2, vs2, d2, ds2, p2, q2, rfl, rfl, rfl, h2, r2⟩ := trodAll_cons r1
  obtain ⟨rfl, rfl, rfl⟩ := trodAll_nil r2
  obtain rfl : args = #[v0, v1, v2] := by cases args; simp_all
  obtain ⟨rfl, rfl⟩ := trodVars_none hV
  have k0 := h0
  have lt0 : ∀ x ∈ p0, x.block < W.heap.size := by obtain ⟨m, hm⟩ := k0; exact DataW.trod_lt m _ _ _ hm
  obtain ⟨a0, len0, cap0, rfl⟩ := okWide_slice Try.underlying22 (hval 0 22 v0 rfl rfl)
  obtain ⟨z0, w0⟩ := open_beds h0
  have k1 := h1
  have lt1 : ∀ x ∈ p1, x.block < W.heap.size := by obtain ⟨m, hm⟩ := k1; exact DataW.trod_lt m _ _ _ hm
  obtain ⟨bd1, rfl, w1⟩ := open_bed (hval 1 27 v1 rfl rfl) h1
  obtain ⟨a2, rfl, rfl, rfl, w2⟩ := open_int Try.underlying3 (hval 2 3 v2 rfl rfl) h2
  clear hA0 hval0
  refine (walk a0 len0 cap0 z0 bd1 a2 W w0 w1 w2).mono fun e W' ⟨he, bel⟩ => ?_
  subst he
  exact ⟨_, rfl, _, _, _, [], _, [], hW', trodAll_mk1 (shut_bool Try.underlying4 _), (trodAll_cons_mk (Below.trod laidOut (by kernel_rfl) (of_decide_eq_true (by kernel_rfl)) k0 bel lt0) (trodAll_cons_mk (Below.trod laidOut (by kernel_rfl) (of_decide_eq_true (by kernel_rfl)) k1 bel lt1) (trodAll_cons_mk (shut_int Try.underlying3 w2) trodAll_mk0))), rfl, bel.frame _, fun h => by cases h⟩

theorem over : Rows.loadBackRow.holds Try.pinned (OpenSpec.ofChange Rows.loadBackSpec) :=
  OpenClaim.holds_of_wide 7 Try.f7 rfl rfl rfl rfl rfl rfl rfl ⟨rfl, rfl, rfl, rfl, rfl⟩ rfl rfl rfl rfl rfl (by kernel_rfl) Try.func7 (by kernel_rfl)
    (of_decide_eq_true (by kernel_rfl)) (by unfold Func.isWrapper; first | (rw [if_pos (by decide +kernel)]; kernel_rfl) | (rw [if_neg (by decide +kernel)]; exact ⟨rfl, rfl⟩))
    (fun os started H enc _ => lifted os started H enc)

end Go.Proofs.Ythofgajchejdfaa.LLoadBack

namespace Go.Proofs.Ythofgajchejdfaa
theorem loadBack_holds : Rows.LoadBackSaid := LLoadBack.over
#print axioms loadBack_holds
end Go.Proofs.Ythofgajchejdfaa
