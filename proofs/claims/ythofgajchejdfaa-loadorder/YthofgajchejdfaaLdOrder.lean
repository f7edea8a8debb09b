/- The statement LoadOrder: beds that fit a capacity fit a greater one, and whether they do doesn't hang on their order. -/
import Derived.Test.YthofgajchejdfaaLdFew
import Derived.Test.YthofgajchejdfaaLdArg
import Derived.Test.YthofgajchejdfaaLdApp
namespace Go.Proofs.Ythofgajchejdfaa
open Go.ChangeShapes Go.WideShapes Go.ChangeAt Go.RowKit Go.Joins
open Bt

namespace LLoadOrder

theorem rev_step (l : List Bdd) {j : Nat} (hj : j < l.length) : l.reverse.take (j + 1) = l.reverse.take j ++ [l[l.length - 1 - j]'(by omega)] := by
  rw [List.take_add_one, List.getElem?_eq_getElem (by simpa using hj), List.getElem_reverse]
  rfl

set_option maxRecDepth 100000 in
set_option maxHeartbeats 4000000 in
theorem walk_main (ao : Option Addr) (c : Nat) (l : List Bdd) (hlc : l.length ≤ c) (cap more : Int) (w : World) (h : BdsAt (fun _ => True) w (.slice ao l.length c) l) :
    Calls Try.prog 6 #[.slice ao l.length c, .int .i64 cap, .int .i64 more] w fun e w' => e = .returned (.bool true) ∧ Below w.heap.size w w' := by
  have AL := Hid.intro (alive11_any w)
  have HS := Hid.intro h
  obtain ⟨L, hL⟩ : ∃ L, L = l.length := ⟨_, rfl⟩
  have HL := Hid.intro hL
  rw [← hL] at hlc ⊢
  have FW := Hid.intro (fun W => few11_any ao L c cap W)
  clear h hL
  go_enter Try.func6, Try.ntmps6
  go_wp2_with fail
  refine AL.out.mono ?_
  rintro e w1 ⟨rfl, B1⟩
  have B1H := Hid.intro B1
  clear AL B1
  cases hfw : fewB L cap with
  | false =>
    rw [hfw] at FW
    clear hfw
    go_wp2_with fail
    refine (FW.out _).mono ?_
    rintro e w2 ⟨rfl, rfl⟩
    clear FW
    go_wp2
    go_ret
    exact ⟨rfl, B1H.out⟩
  | true =>
  rw [hfw] at FW
  obtain ⟨hl20, hc0, hc1⟩ := fewB_true hfw
  clear hfw
  go_wp2_with fail
  refine (FW.out _).mono ?_
  rintro e w2 ⟨rfl, rfl⟩
  clear FW
  by_cases hm0 : more < 0
  · go_wp2
    go_ret
    exact ⟨rfl, B1H.out⟩
  by_cases hm1 : 10000 - cap < more
  · go_wp2
    go_ret
    exact ⟨rfl, B1H.out⟩
  have hm0' : 0 ≤ more := by omega
  have hm1' : more ≤ 10000 - cap := by omega
  go_wp2_with fail
  go_loopw [7, 8] (fun mv iv ws => ∃ (j : Nat) (X : Int), j ≤ L ∧ X = (L : Int) - 1 - (j : Int) ∧ iv = .int .i64 X ∧ ws.ownsRow 0 27 6 mv j (bcells (l.reverse.take j)) ∧ (∀ q, mv.ownBlock = some q → w.heap.size ≤ q) ∧ Below w.heap.size w ws) (fun _ iv _ => (intOf iv + 1).toNat)
  case atStart => exact ⟨0, (L : Int) - 1, by omega, by omega, rfl, World.ownsRow_nil _ _ _ _, (fun q hq => by simp [Value.ownBlock] at hq), B1H.out⟩
  case round =>
    obtain ⟨j, X, hj, hX, rfl, hO, hN, hB⟩ := hrel
    have OH := Hid.intro hO
    have NH := Hid.intro hN
    have BH := Hid.intro hB
    clear hO hN
    by_cases hlt : j < L
    · obtain ⟨q, hq⟩ : ∃ q : Nat, q = L - 1 - j := ⟨_, rfl⟩
      obtain rfl : X = (q : Int) := by omega
      have hqL : q < l.length := by rw [← HL.out]; omega
      have q0 : (0 : Int) ≤ (q : Int) := by omega
      have q1 : (q : Int) < (L : Int) := by omega
      obtain ⟨pb, off, rfl, _, hc⟩ : ∃ pb off, ao = some ⟨pb, off, none⟩ ∧ True ∧ ∀ t, (ht : t < l.length) → w.cell? ⟨pb, off + t * 6, none⟩ = some (.int .i64 l[t].bid) ∧ w.cell? ⟨pb, off + t * 6 + 1, none⟩ = some (.int .i64 l[t].tx) ∧ w.cell? ⟨pb, off + t * 6 + 2, none⟩ = some (.int .i64 l[t].period) ∧ w.cell? ⟨pb, off + t * 6 + 3, none⟩ = some (.int .i64 l[t].cost) ∧ w.cell? ⟨pb, off + t * 6 + 4, none⟩ = some (.int .i64 l[t].watch) ∧ w.cell? ⟨pb, off + t * 6 + 5, none⟩ = some (.int .i64 l[t].prio) := by
        obtain ⟨ao', c', e0, hs⟩ := HS.out
        simp only [Value.slice.injEq] at e0
        obtain ⟨rfl, _, rfl⟩ := e0
        exact hs (by omega)
      obtain ⟨y0, y1, y2, y3, y4, y5⟩ := hc q hqL
      have c0 := cellB hB y0
      have c1 := cellB hB y1
      have c2 := cellB hB y2
      have c3 := cellB hB y3
      have c4 := cellB hB y4
      have c5 := cellB hB y5
      have STP : Hid (l.reverse.take (j + 1) = l.reverse.take j ++ [l[q]]) := by
        have r := rev_step l (j := j) (by rw [← HL.out]; exact hlt)
        have e : l.length - 1 - j = q := by rw [← HL.out]; exact hq.symm
        rw [Hid, r]
        congr 2
        simp only [e]
      generalize l[q] = bd at c0 c1 c2 c3 c4 c5 STP
      obtain ⟨b0, b1, b2, b3, b4, b5⟩ := bd
      simp only at c0 c1 c2 c3 c4 c5
      have LT : Hid ((l.reverse.take j).length = j) := by rw [Hid, List.length_take, List.length_reverse, ← HL.out]; omega
      have BN := (Below.refl _ wr).alloc (Nat.le_refl _) (.cells #[.int .i64 b0, .int .i64 b1, .int .i64 b2, .int .i64 b3, .int .i64 b4, .int .i64 b5] 27)
      have ON := OH.out.alloc (.cells #[.int .i64 b0, .int .i64 b1, .int .i64 b2, .int .i64 b3, .int .i64 b4, .int .i64 b5] 27)
      have GR := bds_block (l := [⟨b0, b1, b2, b3, b4, b5⟩]) (heap_alloc_new wr (.cells #[.int .i64 b0, .int .i64 b1, .int .i64 b2, .int .i64 b3, .int .i64 b4, .int .i64 b5] 27)) 1
      obtain ⟨oa, oc, hov, _⟩ := ownsRow_form OH.out
      subst hov
      have BW := BH.out.trans (BN.mono BH.out.size)
      have FIN : Hid (∀ (v' : Value) (wb : World), wb.ownsRow 0 27 6 v' (j + 1) (bcells (l.reverse.take j ++ [⟨b0, b1, b2, b3, b4, b5⟩])) → (wr.alloc (.cells #[.int .i64 b0, .int .i64 b1, .int .i64 b2, .int .i64 b3, .int .i64 b4, .int .i64 b5] 27)).grownBy wb (Value.slice oa j oc).ownBlock → (v'.ownBlock = (Value.slice oa j oc).ownBlock ∨ v'.ownBlock = some (wr.alloc (.cells #[.int .i64 b0, .int .i64 b1, .int .i64 b2, .int .i64 b3, .int .i64 b4, .int .i64 b5] 27)).heap.size) →
          wb.ownsRow 0 27 6 v' (j + 1) (bcells (l.reverse.take (j + 1))) ∧ (∀ q, v'.ownBlock = some q → w.heap.size ≤ q) ∧ Below w.heap.size w wb) := fun v' wb hown hgrow hat => by
        obtain ⟨g1, g2⟩ := grownL hgrow hat BW (Nat.le_refl _) NH.out
        rw [STP.out]
        exact ⟨hown, g2, g1⟩
      have ONH := Hid.intro ON
      have GRH := Hid.intro GR
      have hqj : (q : Int) = (L : Int) - 1 - (j : Int) := by omega
      have HQJ := Hid.intro hqj
      clear y0 y1 y2 y3 y4 y5 hc hB BN ON GR BW OH hX hq hqj
      go_wp2_with (refine append_beds (by rfl) _ _ (by rfl) (.slice oa j oc) j (l.reverse.take j) LT.out.symm (by rfl) ONH.out (fun _ => True) (some ⟨wr.heap.size, 0, none⟩) 1 1 [⟨b0, b1, b2, b3, b4, b5⟩] rfl (by rfl) GRH.out (fun h => by cases h) (by omega) ?_; intro v' wb hown hgrow hat; have FN := Hid.intro (FIN.out v' wb hown hgrow (by simpa using hat)); clear hown hgrow hat)
      exact ⟨⟨j + 1, (q : Int) - 1, by omega, by have := HQJ.out; omega, by go_num, FN.out⟩, by simp [intOf]⟩
    · obtain rfl : j = L := by omega
      obtain rfl : X = -1 := by omega
      clear hX hlt
      obtain ⟨oa, oc, hov, _⟩ := ownsRow_form OH.out
      subst hov
      have hrt : l.reverse.take j = l.reverse := List.take_of_length_le (by rw [List.length_reverse, ← HL.out]; exact Nat.le_refl _)
      have hrl : l.reverse.length = j := by rw [List.length_reverse, ← HL.out]
      have MB := bds_of_owns (R := fun _ => True) (l := l.reverse) (v := .slice oa j oc) (by rw [hrl, ← hrt]; exact OH.out) (fun _ _ => trivial)
      have MBH := Hid.intro MB
      have RQ := Hid.intro (ownsRow_roomL OH.out).1
      have LS : Hid (BdsAt (fun _ => True) wr (.slice ao j c) l) := by
        have q := HS.out.below BH.out
        rw [← HL.out] at q
        exact q
      have hl100 : l.length ≤ 100 := by rw [← HL.out]; omega
      have hr100 : l.reverse.length ≤ 100 := by rw [hrl]; omega
      have FL := Hid.intro (fun (W : World) (h : Below wr.heap.size wr W) => lfits_any _ _ l hl100 cap ⟨hc0, hc1⟩ W (LS.out.below h) (roomV hlc))
      have FM := Hid.intro (fun (W : World) (h : Below wr.heap.size wr W) => lfits_any _ _ l.reverse hr100 cap ⟨hc0, hc1⟩ W (MBH.out.below h) (roomV RQ.out))
      have FG := Hid.intro (fun (W : World) (h : Below wr.heap.size wr W) => lfits_any _ _ l hl100 (cap + more) ⟨by omega, by omega⟩ W (LS.out.below h) (roomV hlc))
      have UL := Hid.intro (fun (W : World) (h : Below wr.heap.size wr W) => lsum_any _ _ l hl100 W (LS.out.below h))
      have UM := Hid.intro (fun (W : World) (h : Below wr.heap.size wr W) => lsum_any _ _ l.reverse hr100 W (MBH.out.below h))
      rw [fits_reverse] at FM
      rw [sumB_reverse] at UM
      have FMORE : Hid (fitsB l cap = true → fitsB l (cap + more) = true) := fun q => fits_more q hm0'
      generalize sumB l = S at UL UM
      have hcm : IntKind.i64.wrap (cap + more) = cap + more := IntWalk.i64_in _ (by omega)
      have E0 := Hid.intro (Below.refl wr.heap.size wr)
      clear hB MB hrt hrl hl100 hr100
      cases hf : fitsB l cap with
      | false =>
        rw [hf] at FL FM
        clear hf FMORE FG
        go_wp2_with fail
        refine (FL.out _ E0.out).mono ?_
        rintro e w11 ⟨rfl, B11⟩
        have E11 := Hid.intro (E0.out.trans (B11.mono E0.out.size))
        clear B11
        go_wp2_with fail
        refine (FM.out _ E11.out).mono ?_
        rintro e w12 ⟨rfl, B12⟩
        have E12 := Hid.intro (E11.out.trans (B12.mono E11.out.size))
        clear B12
        go_wp2_with fail
        refine (FL.out _ E12.out).mono ?_
        rintro e w13 ⟨rfl, B13⟩
        have E13 := Hid.intro (E12.out.trans (B13.mono E12.out.size))
        clear B13
        go_wp2_with fail
        refine (UL.out _ E13.out).mono ?_
        rintro e w14 ⟨rfl, B14⟩
        have E14 := Hid.intro (E13.out.trans (B14.mono E13.out.size))
        clear B14
        go_wp2_with fail
        refine (UM.out _ E14.out).mono ?_
        rintro e w15 ⟨rfl, B15⟩
        have E15 := Hid.intro (E14.out.trans (B15.mono E14.out.size))
        clear B15
        have WW := Hid.intro (BH.out.trans (E15.out.mono BH.out.size))
        go_wp2
        go_ret
        exact ⟨rfl, WW.out⟩
      | true =>
        rw [FMORE.out hf] at FG
        rw [hf] at FL FM
        clear hf FMORE
        go_wp2_with fail
        refine (FL.out _ E0.out).mono ?_
        rintro e w11 ⟨rfl, B11⟩
        have E11 := Hid.intro (E0.out.trans (B11.mono E0.out.size))
        clear B11
        go_wp2_with fail
        refine (FM.out _ E11.out).mono ?_
        rintro e w12 ⟨rfl, B12⟩
        have E12 := Hid.intro (E11.out.trans (B12.mono E11.out.size))
        clear B12
        go_wp2_with fail
        refine (FL.out _ E12.out).mono ?_
        rintro e w13 ⟨rfl, B13⟩
        have E13 := Hid.intro (E12.out.trans (B13.mono E12.out.size))
        clear B13
        go_wp2_with fail
        refine (FG.out _ E13.out).mono ?_
        rintro e w14 ⟨rfl, B14⟩
        have E14 := Hid.intro (E13.out.trans (B14.mono E13.out.size))
        clear B14
        go_wp2_with fail
        refine (UL.out _ E14.out).mono ?_
        rintro e w15 ⟨rfl, B15⟩
        have E15 := Hid.intro (E14.out.trans (B15.mono E14.out.size))
        clear B15
        go_wp2_with fail
        refine (UM.out _ E15.out).mono ?_
        rintro e w16 ⟨rfl, B16⟩
        have E16 := Hid.intro (E15.out.trans (B16.mono E15.out.size))
        clear B16
        have WW := Hid.intro (BH.out.trans (E16.out.mono BH.out.size))
        go_wp2
        go_ret
        exact ⟨rfl, WW.out⟩

theorem walk (ao : Option Addr) (len c : Nat) (l : List Bdd) (cap more : Int) (w : World) (hz : l.length = len ∧ BdsAt (fun _ => True) w (.slice ao len c) l ∧ len ≤ c ∧ c ≤ maxLen ∧ (ao = none → c = 0)) (_ : (Lit.int .i64 cap).wf = true) (_ : (Lit.int .i64 more).wf = true) :
    Calls Try.prog 6 #[.slice ao len c, .int .i64 cap, .int .i64 more] w fun e w' => e = .returned (.bool true) ∧ Below w.heap.size w w' := by
  obtain ⟨hl, hr, hlc, _, _⟩ := hz
  subst hl
  exact walk_main ao c l hlc cap more w hr

set_option maxRecDepth 100000 in
theorem lifted (os : Os) (started : os.Started) (H : Type) (enc : TypeId × Value → H) :
    ReturnsInHanded {} Try.checked os 6 .any (Rows.loadOrderSpec.pre6 enc Try.prog Try.f6 Rows.loadOrderRow.domain false) (Rows.loadOrderSpec.post enc Try.prog Try.f6 false true false false) := by
  refine returnsInHanded_of_change (C := Try.checked) own started (by kernel_rfl) Try.func6
    (ChangeSpec.witness6 (enc := enc) (C := Try.checked) false ⟨#[], #[.slice none 0 0, .int .i64 0, .int .i64 0], []⟩ 8 (by kernel_rfl) (by kernel_rfl) (by kernel_rfl) (by kernel_rfl)) ?_
  intro W base args ds gs before hval0 hW hcnd _
  have hval : ∀ (j : Nat) t v, Try.f6.params[j]? = some t → args[j]? = some v → Value.okWide Try.prog W .any base t v := hval0
  have hW' := hW
  obtain ⟨p, q, hA0, hV, rfl, hfz, hnd⟩ := hW
  have hA : DataW.TrodAll enc Try.prog W 0 (fun _ => true) true Try.f6.params.toList args.toList ds p := hA0
  rw [Try.params6] at hA hval
  obtain ⟨v0, vs0, d0, ds0, p0, q0, hargs, rfl, rfl, h0, r0⟩ := trodAll_cons hA
  obtain ⟨v1, vs1, d1, ds1, p1, q1, rfl, rfl, rfl, h1, r1⟩ := trodAll_cons r0
  obtain ⟨v2, vs2, d2, ds2, p2, q2, rfl, rfl, rfl, h2, r2⟩ := trodAll_cons r1
  obtain ⟨rfl, rfl, rfl⟩ := trodAll_nil r2
  obtain rfl : args = #[v0, v1, v2] := by cases args; simp_all
  obtain ⟨rfl, rfl⟩ := trodVars_none hV
  have k0 := h0
  have lt0 : ∀ x ∈ p0, x.block < W.heap.size := by obtain ⟨m, hm⟩ := k0; exact DataW.trod_lt m _ _ _ hm
  obtain ⟨a0, len0, cap0, rfl⟩ := okWide_slice Try.underlying22 (hval 0 22 v0 rfl rfl)
  obtain ⟨z0, w0⟩ := open_beds h0
  obtain ⟨a1, rfl, rfl, rfl, w1⟩ := open_int Try.underlying3 (hval 1 3 v1 rfl rfl) h1
  obtain ⟨a2, rfl, rfl, rfl, w2⟩ := open_int Try.underlying3 (hval 2 3 v2 rfl rfl) h2
  clear hA0 hval0
  refine (walk a0 len0 cap0 z0 a1 a2 W w0 w1 w2).mono fun e W' ⟨he, bel⟩ => ?_
  subst he
  exact ⟨_, rfl, _, _, _, [], _, [], hW', trodAll_mk1 (shut_bool Try.underlying4 _), (trodAll_cons_mk (Below.trod laidOut (by kernel_rfl) (of_decide_eq_true (by kernel_rfl)) k0 bel lt0) (trodAll_cons_mk (shut_int Try.underlying3 w1) (trodAll_cons_mk (shut_int Try.underlying3 w2) trodAll_mk0))), rfl, bel.frame _, fun h => by cases h⟩

theorem over : Rows.loadOrderRow.holds Try.pinned (OpenSpec.ofChange Rows.loadOrderSpec) :=
  OpenClaim.holds_of_wide 6 Try.f6 rfl rfl rfl rfl rfl rfl rfl ⟨rfl, rfl, rfl, rfl, rfl⟩ rfl rfl rfl rfl rfl (by kernel_rfl) Try.func6 (by kernel_rfl)
    (of_decide_eq_true (by kernel_rfl)) (by unfold Func.isWrapper; first | (rw [if_pos (by decide +kernel)]; kernel_rfl) | (rw [if_neg (by decide +kernel)]; exact ⟨rfl, rfl⟩))
    (fun os started H enc _ => lifted os started H enc)

end Go.Proofs.Ythofgajchejdfaa.LLoadOrder

namespace Go.Proofs.Ythofgajchejdfaa
theorem loadOrder_holds : Rows.LoadOrderSaid := LLoadOrder.over
#print axioms loadOrder_holds
end Go.Proofs.Ythofgajchejdfaa
