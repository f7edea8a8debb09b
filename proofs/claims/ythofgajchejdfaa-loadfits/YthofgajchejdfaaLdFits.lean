/- The statement LoadFits: whether every bed may be, its load, and whether all beds fit every capacity, are the document's. -/
import Derived.Test.YthofgajchejdfaaLdFew
import Derived.Test.YthofgajchejdfaaLdArg
import Derived.Test.YthofgajchejdfaaLdRefT
namespace Go.Proofs.Ythofgajchejdfaa
open Go.ChangeShapes Go.WideShapes Go.ChangeAt Go.RowKit Go.Joins
open Bt

namespace LLoadFits

set_option maxRecDepth 100000 in
set_option maxHeartbeats 4000000 in
theorem walk_main (ao : Option Addr) (c : Nat) (l : List Bdd) (hlc : l.length ≤ c) (hcm : c ≤ maxLen) (cap id tx : Int) (w : World) (h : BdsAt (fun _ => True) w (.slice ao l.length c) l) :
    Calls Try.prog 3 #[.slice ao l.length c, .int .i64 cap, .int .i64 id, .int .i64 tx] w fun e w' => e = .returned (.bool true) ∧ Below w.heap.size w w' := by
  have AL := Hid.intro (alive11_any w)
  have HS := Hid.intro h
  obtain ⟨L, hL⟩ : ∃ L, L = l.length := ⟨_, rfl⟩
  have HL := Hid.intro hL
  rw [← hL] at hlc ⊢
  have FW := Hid.intro (fun W => few11_any ao L c cap W)
  have LS : Hid (∀ W, Below w.heap.size w W → BdsAt (fun _ => True) W (.slice ao L c) l) := fun W hW => by
    have q := HS.out.below hW
    rw [← HL.out] at q
    exact q
  clear h hL
  go_enter Try.func3, Try.ntmps3
  go_wp2_with fail
  refine AL.out.mono ?_
  rintro e w1 ⟨rfl, B1⟩
  have B1H := Hid.intro B1
  clear AL B1
  cases hfw : fewB L cap with
  | false =>
    rw [hfw] at FW
    clear hfw
    go_wp2_with fail
    refine (FW.out _).mono ?_
    rintro e w2 ⟨rfl, rfl⟩
    clear FW
    go_wp2
    go_ret
    exact ⟨rfl, B1H.out⟩
  | true =>
  rw [hfw] at FW
  obtain ⟨hl20, hc0, hc1⟩ := fewB_true hfw
  clear hfw
  go_wp2_with fail
  refine (FW.out _).mono ?_
  rintro e w2 ⟨rfl, rfl⟩
  clear FW
  go_wp2_with fail
  go_loopw [9] (fun iv ws => ∃ k : Nat, k ≤ L ∧ iv = .int .i64 k ∧ Below w.heap.size w ws) (fun iv _ => L - (intOf iv).toNat)
  case atStart => exact ⟨0, by omega, rfl, B1H.out⟩
  case round =>
    obtain ⟨k, hk, rfl, hB⟩ := hrel
    have BH := Hid.intro hB
    by_cases hlt : k < L
    · have hlt' : k < l.length := by rw [← HL.out]; exact hlt
      have k0 : (0 : Int) ≤ (k : Int) := by omega
      have k1 : (k : Int) < (L : Int) := by omega
      have hls := LS.out wr hB
      obtain ⟨pb, off, rfl, hc⟩ : ∃ pb off, ao = some ⟨pb, off, none⟩ ∧ ∀ t, (ht : t < l.length) → w.cell? ⟨pb, off + t * 6, none⟩ = some (.int .i64 l[t].bid) ∧ w.cell? ⟨pb, off + t * 6 + 1, none⟩ = some (.int .i64 l[t].tx) ∧ w.cell? ⟨pb, off + t * 6 + 2, none⟩ = some (.int .i64 l[t].period) ∧ w.cell? ⟨pb, off + t * 6 + 3, none⟩ = some (.int .i64 l[t].cost) ∧ w.cell? ⟨pb, off + t * 6 + 4, none⟩ = some (.int .i64 l[t].watch) ∧ w.cell? ⟨pb, off + t * 6 + 5, none⟩ = some (.int .i64 l[t].prio) := by
        obtain ⟨ao', c', e0, hs⟩ := HS.out
        simp only [Value.slice.injEq] at e0
        obtain ⟨rfl, _, rfl⟩ := e0
        obtain ⟨pb, off, e1, _, hs⟩ := hs (by omega)
        exact ⟨pb, off, e1, hs⟩
      have ONE := hls.one hlt' rfl (c - k)
      obtain ⟨y0, y1, y2, y3, y4, y5⟩ := hc k hlt'
      have x0 := cellB hB y0
      have x1 := cellB hB y1
      have x2 := cellB hB y2
      have x3 := cellB hB y3
      have x4 := cellB hB y4
      have x5 := cellB hB y5
      have RM := refMay11_in l[k].bid l[k].tx l[k].period l[k].cost l[k].watch l[k].prio
      have LM := lmay_any l[k]
      have LO := lof_any l[k]
      have RS : Hid (∀ W, Below wr.heap.size wr W → Calls Try.prog 14 #[.slice (some ⟨pb, off + k * 6, none⟩) 1 (c - k)] W fun e w' => e = .returned (.int .i64 (ofB l[k])) ∧ Below W.heap.size W w') := fun W hW => by
        have q := refSum_any _ _ [l[k]] (by simp) W (ONE.below hW)
        rw [sumB_one] at q
        exact q
      have EB : mayB ⟨l[k].bid, l[k].tx, l[k].period, l[k].cost, l[k].watch, l[k].prio⟩ = mayB l[k] := rfl
      rw [EB] at RM
      generalize ofB l[k] = o at LO RS
      generalize mayB l[k] = my at LM RM
      clear EB ONE hls
      generalize l[k] = bd at x0 x1 x2 x3 x4 x5 LM RM LO
      obtain ⟨b0, b1, b2, b3, b4, b5⟩ := bd
      simp only at x0 x1 x2 x3 x4 x5 RM
      have CL : Hid (∀ W, Calls Try.prog 11 #[.agg #[.int .i64 b0, .int .i64 b1, .int .i64 b2, .int .i64 b3, .int .i64 b4, .int .i64 b5]] W fun e w' => e = .returned (.bool my) ∧ Below W.heap.size W w') := fun W => LM W
      have CR : Hid (∀ W, Calls Try.prog 12 #[.agg #[.int .i64 b0, .int .i64 b1, .int .i64 b2, .int .i64 b3, .int .i64 b4, .int .i64 b5]] W fun e w' => e = .returned (.bool my) ∧ Below W.heap.size W w') := fun W => RM W
      have CO : Hid (∀ W, Calls Try.prog 13 #[.agg #[.int .i64 b0, .int .i64 b1, .int .i64 b2, .int .i64 b3, .int .i64 b4, .int .i64 b5]] W fun e w' => e = .returned (.int .i64 o) ∧ Below W.heap.size W w') := fun W => LO W
      have KEEP : Hid (∀ W, Below wr.heap.size wr W → W.cell? ⟨pb, off + k * 6, none⟩ = some (.int .i64 b0) ∧ W.cell? ⟨pb, off + k * 6 + 1, none⟩ = some (.int .i64 b1) ∧ W.cell? ⟨pb, off + k * 6 + 2, none⟩ = some (.int .i64 b2) ∧ W.cell? ⟨pb, off + k * 6 + 3, none⟩ = some (.int .i64 b3) ∧ W.cell? ⟨pb, off + k * 6 + 4, none⟩ = some (.int .i64 b4) ∧ W.cell? ⟨pb, off + k * 6 + 5, none⟩ = some (.int .i64 b5)) := fun W hW => ⟨cellB hW x0, cellB hW x1, cellB hW x2, cellB hW x3, cellB hW x4, cellB hW x5⟩
      have kc : (k : Int) + 1 ≤ (c : Int) := by omega
      have kw : IntKind.i64.wrap ((k : Int) + 1) = (k : Int) + 1 := IntWalk.i64_in _ (by unfold maxLen at hcm; omega)
      have ka : (0 : Int) ≤ (k : Int) + 1 := by omega
      have kb : (k : Int) ≤ (k : Int) + 1 := by omega
      have kd : (k : Int) ≤ (c : Int) := by omega
      have kn : k + 1 - k = 1 := by omega
      have kt : ((k : Int) + 1).toNat = k + 1 := by omega
      have mm : (my != my) = false := by simp
      have oo : (o != o) = false := by simp
      clear y0 y1 y2 y3 y4 y5 hc hB LM RM LO
      go_wp2_with fail
      go_region_held3 (fun W => W.cell? ⟨pb, off + k * 6, none⟩ = some (.int .i64 b0) ∧ W.cell? ⟨pb, off + k * 6 + 1, none⟩ = some (.int .i64 b1) ∧ W.cell? ⟨pb, off + k * 6 + 2, none⟩ = some (.int .i64 b2) ∧ W.cell? ⟨pb, off + k * 6 + 3, none⟩ = some (.int .i64 b3) ∧ W.cell? ⟨pb, off + k * 6 + 4, none⟩ = some (.int .i64 b4) ∧ W.cell? ⟨pb, off + k * 6 + 5, none⟩ = some (.int .i64 b5))
        (first | exact KEEP.out _ E8 | exact KEEP.out _ E7 | exact KEEP.out _ E6 | exact KEEP.out _ E5 | go_keep)
        (first
          | (go_at_call 11; refine (CL.out _).mono ?_; rintro e w5 ⟨rfl, B5⟩; have E5 : Below wr.heap.size wr w5 := undrewB B5; clear B5)
          | (go_at_call 12; refine (CR.out _).mono ?_; rintro e w6 ⟨rfl, B6⟩; have E6 := E5.trans (B6.mono E5.size); clear B6)
          | (go_at_call 13; refine (CO.out _).mono ?_; rintro e w7 ⟨rfl, B7⟩; have E7 := E6.trans (B7.mono E6.size); clear B7)
          | (go_at_call 14; refine (RS.out _ E7).mono ?_; rintro e w8 ⟨rfl, B8⟩; have E8 := E7.trans (B8.mono E7.size); clear B8))
      all_goals
        have W8 := Hid.intro (BH.out.trans (E8.mono BH.out.size))
        clear E5 E6 E7 E8 KEEP CL CR CO RS x0 x1 x2 x3 x4 x5
        go_wp2
        go_roundw
        case rel => exact ⟨k + 1, by omega, by go_num, W8.out⟩
        case measure => simp [intOf]; omega
    · obtain rfl : k = L := by omega
      have k1 : ¬ (k : Int) < (k : Int) := by omega
      have hl100 : l.length ≤ 100 := by rw [← HL.out]; omega
      have T := fun (W : World) (hW : Below wr.heap.size wr W) => LS.out W (BH.out.trans (hW.mono BH.out.size))
      have C1 := Hid.intro (fun (W : World) (hW : Below wr.heap.size wr W) => lsum_any _ _ l hl100 W (T W hW))
      have C2 := Hid.intro (fun (W : World) (hW : Below wr.heap.size wr W) => refSum_any _ _ l hl100 W (T W hW))
      have C3 := Hid.intro (fun (W : World) (hW : Below wr.heap.size wr W) => lfits_any _ _ l hl100 cap ⟨hc0, hc1⟩ W (T W hW) (roomV hlc))
      have C4 := Hid.intro (fun (W : World) (hW : Below wr.heap.size wr W) => refFits_any _ _ l hl100 cap ⟨hc0, hc1⟩ W (T W hW))
      have C5 := Hid.intro (fun (W : World) (hW : Below wr.heap.size wr W) => lfind_any _ _ l hl100 id W (T W hW))
      have C6 := Hid.intro (fun (W : World) (hW : Below wr.heap.size wr W) => refFind_any _ _ l hl100 id W (T W hW))
      have C7 := Hid.intro (fun (W : World) (hW : Below wr.heap.size wr W) => lowner_any _ _ l hl100 tx W (T W hW))
      have C8 := Hid.intro (fun (W : World) (hW : Below wr.heap.size wr W) => refOwner_any _ _ l hl100 tx W (T W hW))
      generalize sumB l = S at C1 C2
      generalize fitsB l cap = FT at C3 C4
      generalize placeB (·.bid) l id = PI at C5 C6
      generalize placeB (·.tx) l tx = PT at C7 C8
      have E0 := Hid.intro (Below.refl wr.heap.size wr)
      clear hB T hl100
      go_wp2_with fail
      refine (C1.out _ E0.out).mono ?_
      rintro e w11 ⟨rfl, B11⟩
      have E11 := Hid.intro (E0.out.trans (B11.mono E0.out.size))
      clear B11 C1
      go_wp2_with fail
      refine (C2.out _ E11.out).mono ?_
      rintro e w12 ⟨rfl, B12⟩
      have E12 := Hid.intro (E11.out.trans (B12.mono E11.out.size))
      clear B12 C2
      go_wp2_with fail
      refine (C3.out _ E12.out).mono ?_
      rintro e w13 ⟨rfl, B13⟩
      have E13 := Hid.intro (E12.out.trans (B13.mono E12.out.size))
      clear B13 C3
      go_wp2_with fail
      refine (C4.out _ E13.out).mono ?_
      rintro e w14 ⟨rfl, B14⟩
      have E14 := Hid.intro (E13.out.trans (B14.mono E13.out.size))
      clear B14 C4
      go_wp2_with fail
      refine (C5.out _ E14.out).mono ?_
      rintro e w15 ⟨rfl, B15⟩
      have E15 := Hid.intro (E14.out.trans (B15.mono E14.out.size))
      clear B15 C5
      go_wp2_with fail
      refine (C6.out _ E15.out).mono ?_
      rintro e w16 ⟨rfl, B16⟩
      have E16 := Hid.intro (E15.out.trans (B16.mono E15.out.size))
      clear B16 C6
      go_wp2_with fail
      refine (C7.out _ E16.out).mono ?_
      rintro e w17 ⟨rfl, B17⟩
      have E17 := Hid.intro (E16.out.trans (B17.mono E16.out.size))
      clear B17 C7
      go_wp2_with fail
      refine (C8.out _ E17.out).mono ?_
      rintro e w18 ⟨rfl, B18⟩
      have E18 := Hid.intro (E17.out.trans (B18.mono E17.out.size))
      clear B18 C8
      have WW := Hid.intro (BH.out.trans (E18.out.mono BH.out.size))
      go_wp2
      go_ret
      exact ⟨rfl, WW.out⟩

theorem walk (ao : Option Addr) (len c : Nat) (l : List Bdd) (cap id tx : Int) (w : World) (hz : l.length = len ∧ BdsAt (fun _ => True) w (.slice ao len c) l ∧ len ≤ c ∧ c ≤ maxLen ∧ (ao = none → c = 0)) (_ : (Lit.int .i64 cap).wf = true) (_ : (Lit.int .i64 id).wf = true) (_ : (Lit.int .i64 tx).wf = true) :
    Calls Try.prog 3 #[.slice ao len c, .int .i64 cap, .int .i64 id, .int .i64 tx] w fun e w' => e = .returned (.bool true) ∧ Below w.heap.size w w' := by
  obtain ⟨hl, hr, hlc, hcm, _⟩ := hz
  subst hl
  exact walk_main ao c l hlc hcm cap id tx w hr

set_option maxRecDepth 100000 in
theorem lifted (os : Os) (started : os.Started) (H : Type) (enc : TypeId × Value → H) :
    ReturnsInHanded {} Try.checked os 3 .any (Rows.loadFitsSpec.pre6 enc Try.prog Try.f3 Rows.loadFitsRow.domain false) (Rows.loadFitsSpec.post enc Try.prog Try.f3 false true false false) := by
  refine returnsInHanded_of_change (C := Try.checked) own started (by kernel_rfl) Try.func3
    (ChangeSpec.witness6 (enc := enc) (C := Try.checked) false ⟨#[], #[.slice none 0 0, .int .i64 0, .int .i64 0, .int .i64 0], []⟩ 8 (by kernel_rfl) (by kernel_rfl) (by kernel_rfl) (by kernel_rfl)) ?_
  intro W base args ds gs before hval0 hW hcnd _
  have hval : ∀ (j : Nat) t v, Try.f3.params[j]? = some t → args[j]? = some v → Value.okWide Try.prog W .any base t v := hval0
  have hW' := hW
  obtain ⟨p, q, hA0, hV, rfl, hfz, hnd⟩ := hW
  have hA : DataW.TrodAll enc Try.prog W 0 (fun _ => true) true Try.f3.params.toList args.toList ds p := hA0
  rw [Try.params3] at hA hval
  obtain ⟨v0, vs0, d0, ds0, p0, q0, hargs, rfl, rfl, h0, r0⟩ := trodAll_cons hA
  obtain ⟨v1, vs1, d1, ds1, p1, q1, rfl, rfl, rfl, h1, r1⟩ := trodAll_cons r0
  obtain ⟨v2, vs2, d2, ds2, p2, q2, rfl, rfl, rfl, h2, r2⟩ := trodAll_cons r1
  obtain ⟨v3, vs3, d3, ds3, p3, q3, rfl, rfl, rfl, h3, r3⟩ := trodAll_cons r2
  obtain ⟨rfl, rfl, rfl⟩ := trodAll_nil r3
  obtain rfl : args = #[v0, v1, v2, v3] := by cases args; simp_all
  obtain ⟨rfl, rfl⟩ := trodVars_none hV
  have k0 := h0
  have lt0 : ∀ x ∈ p0, x.block < W.heap.size := by obtain ⟨m, hm⟩ := k0; exact DataW.trod_lt m _ _ _ hm
  obtain ⟨a0, len0, cap0, rfl⟩ := okWide_slice Try.underlying22 (hval 0 22 v0 rfl rfl)
  obtain ⟨z0, w0⟩ := open_beds h0
  obtain ⟨a1, rfl, rfl, rfl, w1⟩ := open_int Try.underlying3 (hval 1 3 v1 rfl rfl) h1
  obtain ⟨a2, rfl, rfl, rfl, w2⟩ := open_int Try.underlying3 (hval 2 3 v2 rfl rfl) h2
  obtain ⟨a3, rfl, rfl, rfl, w3⟩ := open_int Try.underlying3 (hval 3 3 v3 rfl rfl) h3
  clear hA0 hval0
  refine (walk a0 len0 cap0 z0 a1 a2 a3 W w0 w1 w2 w3).mono fun e W' ⟨he, bel⟩ => ?_
  subst he
  exact ⟨_, rfl, _, _, _, [], _, [], hW', trodAll_mk1 (shut_bool Try.underlying4 _), (trodAll_cons_mk (Below.trod laidOut (by kernel_rfl) (of_decide_eq_true (by kernel_rfl)) k0 bel lt0) (trodAll_cons_mk (shut_int Try.underlying3 w1) (trodAll_cons_mk (shut_int Try.underlying3 w2) (trodAll_cons_mk (shut_int Try.underlying3 w3) trodAll_mk0)))), rfl, bel.frame _, fun h => by cases h⟩

theorem over : Rows.loadFitsRow.holds Try.pinned (OpenSpec.ofChange Rows.loadFitsSpec) :=
  OpenClaim.holds_of_wide 3 Try.f3 rfl rfl rfl rfl rfl rfl rfl ⟨rfl, rfl, rfl, rfl, rfl⟩ rfl rfl rfl rfl rfl (by kernel_rfl) Try.func3 (by kernel_rfl)
    (of_decide_eq_true (by kernel_rfl)) (by unfold Func.isWrapper; first | (rw [if_pos (by decide +kernel)]; kernel_rfl) | (rw [if_neg (by decide +kernel)]; exact ⟨rfl, rfl⟩))
    (fun os started H enc _ => lifted os started H enc)

end Go.Proofs.Ythofgajchejdfaa.LLoadFits

namespace Go.Proofs.Ythofgajchejdfaa
theorem loadFits_holds : Rows.LoadFitsSaid := LLoadFits.over
#print axioms loadFits_holds
end Go.Proofs.Ythofgajchejdfaa
