/- The statement LoadAdmits: the beds with every one more, and without one, or the errors, are the document's. -/
import Derived.Test.YthofgajchejdfaaLdFew
import Derived.Test.YthofgajchejdfaaLdArg
import Derived.Test.YthofgajchejdfaaLdRefS
import Derived.Test.YthofgajchejdfaaLdRefA
namespace Go.Proofs.Ythofgajchejdfaa
open Go.ChangeShapes Go.WideShapes Go.ChangeAt Go.RowKit Go.Joins
open Bt

namespace LLoadAdmits

theorem admitL_few {l : List Bdd} {b : Bdd} {cap : Int} (h : l.length ≤ 20) : (admitL l b cap).length ≤ 100 := by
  unfold admitL
  split
  · rw [List.length_append]; simp; omega
  · simp

theorem dischL_few {l : List Bdd} {x : Int} (h : l.length ≤ 20) : (dischL l x).length ≤ 100 := by
  unfold dischL
  split
  · have := (List.eraseIdx_sublist l (placeB (·.bid) l x).toNat).length_le
    omega
  · simp

set_option maxRecDepth 100000 in
set_option maxHeartbeats 4000000 in
theorem walk_main (ao : Option Addr) (c : Nat) (l : List Bdd) (hlc : l.length ≤ c) (h0 : ao = none → c = 0) (b0 b1 b2 b3 b4 b5 : Int) (cap id : Int) (w : World) (h : BdsAt (fun _ => True) w (.slice ao l.length c) l) :
    Calls Try.prog 4 #[.slice ao l.length c, .agg #[.int .i64 b0, .int .i64 b1, .int .i64 b2, .int .i64 b3, .int .i64 b4, .int .i64 b5], .int .i64 cap, .int .i64 id] w fun e w' => e = .returned (.bool true) ∧ Below w.heap.size w w' := by
  have BA := (Below.refl _ w).alloc (Nat.le_refl _) (.cells #[.int .i64 b0, .int .i64 b1, .int .i64 b2, .int .i64 b3, .int .i64 b4, .int .i64 b5] 27)
  have nA := heap_alloc_new w (.cells #[.int .i64 b0, .int .i64 b1, .int .i64 b2, .int .i64 b3, .int .i64 b4, .int .i64 b5] 27)
  have AL := Hid.intro (alive11_any (w.alloc (.cells #[.int .i64 b0, .int .i64 b1, .int .i64 b2, .int .i64 b3, .int .i64 b4, .int .i64 b5] 27)))
  have BAH := Hid.intro BA
  have NAH := Hid.intro nA
  have HS := Hid.intro h
  obtain ⟨L, hL⟩ : ∃ L, L = l.length := ⟨_, rfl⟩
  have HL := Hid.intro hL
  rw [← hL] at hlc ⊢
  have FW := Hid.intro (fun W => few11_any ao L c cap W)
  clear BA nA h hL
  go_enter Try.func4, Try.ntmps4
  go_wp2_with fail
  refine AL.out.mono ?_
  rintro e w1 ⟨rfl, B1⟩
  have N1 := Hid.intro ((B1.block _ (lt_of_heap NAH.out)).trans NAH.out)
  have B1H := Hid.intro (BAH.out.trans (B1.mono BAH.out.size))
  clear AL B1 NAH BAH
  cases hfw : fewB L cap with
  | false =>
    rw [hfw] at FW
    clear hfw
    go_wp2_with fail
    refine (FW.out _).mono ?_
    rintro e w2 ⟨rfl, rfl⟩
    clear FW
    go_wp2
    go_ret
    exact ⟨rfl, B1H.out⟩
  | true =>
  rw [hfw] at FW
  obtain ⟨hl20, hc0, hc1⟩ := fewB_true hfw
  have HB : Hid (∀ (W : World), Below w1.heap.size w1 W → W.cell? ⟨w.heap.size, 0, none⟩ = some (.int .i64 b0) ∧ W.cell? ⟨w.heap.size, 1, none⟩ = some (.int .i64 b1) ∧ W.cell? ⟨w.heap.size, 2, none⟩ = some (.int .i64 b2) ∧ W.cell? ⟨w.heap.size, 3, none⟩ = some (.int .i64 b3) ∧ W.cell? ⟨w.heap.size, 4, none⟩ = some (.int .i64 b4) ∧ W.cell? ⟨w.heap.size, 5, none⟩ = some (.int .i64 b5)) := fun W hB => by
    have q := (hB.block _ (lt_of_heap N1.out)).trans N1.out
    exact ⟨by rw [cell_of_row _ _ 0 _ _ _ q]; rfl, by rw [cell_of_row _ _ 1 _ _ _ q]; rfl, by rw [cell_of_row _ _ 2 _ _ _ q]; rfl, by rw [cell_of_row _ _ 3 _ _ _ q]; rfl, by rw [cell_of_row _ _ 4 _ _ _ q]; rfl, by rw [cell_of_row _ _ 5 _ _ _ q]; rfl⟩
  have HS1 := Hid.intro (HS.out.below B1H.out)
  have hl100 : l.length ≤ 90 := by rw [← HL.out]; omega
  have AF := Hid.intro (admitL_few (l := l) (b := ⟨b0, b1, b2, b3, b4, b5⟩) (cap := cap) (by rw [← HL.out]; exact hl20))
  have DF := Hid.intro (dischL_few (l := l) (x := id) (by rw [← HL.out]; exact hl20))
  have AD := fun (W : World) (hB : Below w1.heap.size w1 W) => ladmit_any _ ao c l (by omega) ⟨by rw [← HL.out]; exact hlc, h0⟩ ⟨b0, b1, b2, b3, b4, b5⟩ cap ⟨hc0, hc1⟩ W (HS1.out.below hB)
  have AR := fun (W : World) (hB : Below w1.heap.size w1 W) => refAdmit_any _ ao c l hl100 h0 ⟨b0, b1, b2, b3, b4, b5⟩ cap ⟨hc0, hc1⟩ W (HS1.out.below hB)
  have DL := fun (W : World) (hB : Below w1.heap.size w1 W) => ldischarge_any _ ao c l (by omega) ⟨by rw [← HL.out]; exact hlc, h0⟩ id W (HS1.out.below hB)
  have DR := fun (W : World) (hB : Below w1.heap.size w1 W) => refDisch_any _ ao c l (by omega) id W (HS1.out.below hB)
  rw [← HL.out] at AD AR DL DR
  generalize admitE l ⟨b0, b1, b2, b3, b4, b5⟩ cap = pe at AD AR
  generalize admitL l ⟨b0, b1, b2, b3, b4, b5⟩ cap = T at AD AR AF
  generalize dischE l id = pd at DL DR
  generalize dischL l id = D at DL DR DF
  obtain ⟨TL, hTL⟩ : ∃ TL, TL = T.length := ⟨_, rfl⟩
  obtain ⟨DN, hDN⟩ : ∃ DN, DN = D.length := ⟨_, rfl⟩
  have HTL := Hid.intro hTL
  have HDN := Hid.intro hDN
  rw [← hTL] at AD AR AF
  rw [← hDN] at DL DR DF
  have ADH := Hid.intro AD
  have ARH := Hid.intro AR
  have DLH := Hid.intro DL
  have DRH := Hid.intro DR
  obtain ⟨c0, c1, c2, c3, c4, c5⟩ := HB.out w1 (Below.refl _ _)
  clear hfw AD AR DL DR hTL hDN hl100
  go_wp2_with fail
  refine (FW.out _).mono ?_
  rintro e w2 ⟨rfl, rfl⟩
  clear FW
  go_wp2_with fail
  refine (ADH.out _ (Below.refl _ _)).mono ?_
  rintro e w3 ⟨a3, d3, rfl, s3, _, B3⟩
  have E3 := Hid.intro B3
  have S3 := Hid.intro s3
  clear ADH B3 s3 c0 c1 c2 c3 c4 c5
  obtain ⟨c0, c1, c2, c3, c4, c5⟩ := HB.out w3 E3.out
  go_wp2_with fail
  refine (ARH.out _ E3.out).mono ?_
  rintro e w4 ⟨a4, d4, rfl, s4, _, B4⟩
  have E4 := Hid.intro (E3.out.trans (B4.mono E3.out.size))
  have S4 := Hid.intro s4
  have X4 := Hid.intro (S3.out.below B4)
  clear ARH B4 s4 c0 c1 c2 c3 c4 c5 S3
  go_wp2_with fail
  refine (DLH.out _ E4.out).mono ?_
  rintro e w5 ⟨a5, d5, rfl, s5, _, B5⟩
  have E5 := Hid.intro (E4.out.trans (B5.mono E4.out.size))
  have S5 := Hid.intro s5
  have X5 := Hid.intro (X4.out.below B5)
  have Y5 := Hid.intro (S4.out.below B5)
  clear DLH B5 s5 X4 S4
  go_wp2_with fail
  refine (DRH.out _ E5.out).mono ?_
  rintro e w6 ⟨a6, d6, rfl, s6, _, B6⟩
  have E6 := Hid.intro (E5.out.trans (B6.mono E5.out.size))
  have X6 := Hid.intro (X5.out.below B6)
  have Y6 := Hid.intro (Y5.out.below B6)
  have U6 := Hid.intro (S5.out.below B6)
  have V6 := Hid.intro s6
  have S1 : Hid (∀ W, Below w6.heap.size w6 W → Calls Try.prog 26 #[.slice a3 TL d3, .slice a4 TL d4] W fun e w' => e = .returned (.bool true) ∧ Below W.heap.size W w') := fun W hW => by
    have q := refSame11_any _ _ (.slice a3 TL d3) (.slice a4 TL d4) T T (by rw [← HTL.out]; have := AF.out; omega) (by rw [← HTL.out]; have := AF.out; omega) W (X6.out.below hW) (Y6.out.below hW)
    rw [decide_eq_true rfl] at q
    exact q
  have S2 : Hid (∀ W, Below w6.heap.size w6 W → Calls Try.prog 26 #[.slice a5 DN d5, .slice a6 DN d6] W fun e w' => e = .returned (.bool true) ∧ Below W.heap.size W w') := fun W hW => by
    have q := refSame11_any _ _ (.slice a5 DN d5) (.slice a6 DN d6) D D (by rw [← HDN.out]; have := DF.out; omega) (by rw [← HDN.out]; have := DF.out; omega) W (U6.out.below hW) (V6.out.below hW)
    rw [decide_eq_true rfl] at q
    exact q
  have W6 := Hid.intro (B1H.out.trans (E6.out.mono B1H.out.size))
  clear DRH B6 s6 X5 Y5 S5 X6 Y6 U6 V6 E3 E4 E5
  go_wp2_with fail
  refine (S1.out _ (Below.refl _ _)).mono ?_
  rintro e w7 ⟨rfl, B7⟩
  have E7 := Hid.intro B7
  clear S1 B7
  go_wp2_with fail
  refine (S2.out _ E7.out).mono ?_
  rintro e w8 ⟨rfl, B8⟩
  have W8 := Hid.intro (W6.out.trans ((E7.out.trans (B8.mono E7.out.size)).mono W6.out.size))
  clear S2 B8
  go_wp2
  go_ret
  exact ⟨rfl, W8.out⟩

theorem walk (ao : Option Addr) (len c : Nat) (l : List Bdd) (b : Bdd) (cap id : Int) (w : World) (hz : l.length = len ∧ BdsAt (fun _ => True) w (.slice ao len c) l ∧ len ≤ c ∧ c ≤ maxLen ∧ (ao = none → c = 0)) (_ : (Lit.int .i64 b.bid).wf = true ∧ (Lit.int .i64 b.tx).wf = true ∧ (Lit.int .i64 b.period).wf = true ∧ (Lit.int .i64 b.cost).wf = true ∧ (Lit.int .i64 b.watch).wf = true ∧ (Lit.int .i64 b.prio).wf = true) (_ : (Lit.int .i64 cap).wf = true) (_ : (Lit.int .i64 id).wf = true) :
    Calls Try.prog 4 #[.slice ao len c, Bv b, .int .i64 cap, .int .i64 id] w fun e w' => e = .returned (.bool true) ∧ Below w.heap.size w w' := by
  obtain ⟨hl, hr, hlc, _, h0⟩ := hz
  subst hl
  exact walk_main ao c l hlc h0 b.bid b.tx b.period b.cost b.watch b.prio cap id w hr

set_option maxRecDepth 100000 in
theorem lifted (os : Os) (started : os.Started) (H : Type) (enc : TypeId × Value → H) :
    ReturnsInHanded {} Try.checked os 4 .any (Rows.loadAdmitsSpec.pre6 enc Try.prog Try.f4 Rows.loadAdmitsRow.domain false) (Rows.loadAdmitsSpec.post enc Try.prog Try.f4 false true false false) := by
  refine returnsInHanded_of_change (C := Try.checked) own started (by kernel_rfl) Try.func4
    (ChangeSpec.witness6 (enc := enc) (C := Try.checked) false ⟨#[], #[.slice none 0 0, .agg #[.int .i64 0, .int .i64 0, .int .i64 0, .int .i64 0, .int .i64 0, .int .i64 0], .int .i64 0, .int .i64 0], []⟩ 8 (by kernel_rfl) (by kernel_rfl) (by kernel_rfl) (by kernel_rfl)) ?_
  intro W base args ds gs before hval0 hW hcnd _
  have hval : ∀ (j : Nat) t v, Try.f4.params[j]? = some t → args[j]? = some v → Value.okWide Try.prog W .any base t v := hval0
  have hW' := hW
  obtain ⟨p, q, hA0, hV, rfl, hfz, hnd⟩ := hW
  have hA : DataW.TrodAll enc Try.prog W 0 (fun _ => true) true Try.f4.params.toList args.toList ds p := hA0
  rw [Try.params4] at hA hval
  obtain ⟨v0, vs0, d0, ds0, p0, q0, hargs, rfl, rfl, h0, r0⟩ := trodAll_cons hA
  obtain ⟨v1, vs1, d1, ds1, p1, q1, rfl, rfl, rfl, h1, r1⟩ := trodAll_cons r0
  obtain ⟨v2, vs2, d2, ds2, p2, q2, rfl, rfl, rfl, h2, r2⟩ := trodAll_cons r1
  obtain ⟨v3, vs3, d3, ds3, p3, q3, rfl, rfl, rfl, h3, r3⟩ := trodAll_cons r2
  obtain ⟨rfl, rfl, rfl⟩ := trodAll_nil r3
  obtain rfl : args = #[v0, v1, v2, v3] := by cases args; simp_all
  obtain ⟨rfl, rfl⟩ := trodVars_none hV
  have k0 := h0
  have lt0 : ∀ x ∈ p0, x.block < W.heap.size := by obtain ⟨m, hm⟩ := k0; exact DataW.trod_lt m _ _ _ hm
  obtain ⟨a0, len0, cap0, rfl⟩ := okWide_slice Try.underlying22 (hval 0 22 v0 rfl rfl)
  obtain ⟨z0, w0⟩ := open_beds h0
  have k1 := h1
  have lt1 : ∀ x ∈ p1, x.block < W.heap.size := by obtain ⟨m, hm⟩ := k1; exact DataW.trod_lt m _ _ _ hm
  obtain ⟨bd1, rfl, w1⟩ := open_bed (hval 1 27 v1 rfl rfl) h1
  obtain ⟨a2, rfl, rfl, rfl, w2⟩ := open_int Try.underlying3 (hval 2 3 v2 rfl rfl) h2
  obtain ⟨a3, rfl, rfl, rfl, w3⟩ := open_int Try.underlying3 (hval 3 3 v3 rfl rfl) h3
  clear hA0 hval0
  refine (walk a0 len0 cap0 z0 bd1 a2 a3 W w0 w1 w2 w3).mono fun e W' ⟨he, bel⟩ => ?_
  subst he
  exact ⟨_, rfl, _, _, _, [], _, [], hW', trodAll_mk1 (shut_bool Try.underlying4 _), (trodAll_cons_mk (Below.trod laidOut (by kernel_rfl) (of_decide_eq_true (by kernel_rfl)) k0 bel lt0) (trodAll_cons_mk (Below.trod laidOut (by kernel_rfl) (of_decide_eq_true (by kernel_rfl)) k1 bel lt1) (trodAll_cons_mk (shut_int Try.underlying3 w2) (trodAll_cons_mk (shut_int Try.underlying3 w3) trodAll_mk0)))), rfl, bel.frame _, fun h => by cases h⟩

theorem over : Rows.loadAdmitsRow.holds Try.pinned (OpenSpec.ofChange Rows.loadAdmitsSpec) :=
  OpenClaim.holds_of_wide 4 Try.f4 rfl rfl rfl rfl rfl rfl rfl ⟨rfl, rfl, rfl, rfl, rfl⟩ rfl rfl rfl rfl rfl (by kernel_rfl) Try.func4 (by kernel_rfl)
    (of_decide_eq_true (by kernel_rfl)) (by unfold Func.isWrapper; first | (rw [if_pos (by decide +kernel)]; kernel_rfl) | (rw [if_neg (by decide +kernel)]; exact ⟨rfl, rfl⟩))
    (fun os started H enc _ => lifted os started H enc)

end Go.Proofs.Ythofgajchejdfaa.LLoadAdmits

namespace Go.Proofs.Ythofgajchejdfaa
theorem loadAdmits_holds : Rows.LoadAdmitsSaid := LLoadAdmits.over
#print axioms loadAdmits_holds
end Go.Proofs.Ythofgajchejdfaa
