/- The statement RoamMoves: one moves to another antenna just if that is stronger by the margin, and back likewise. -/
import Derived.Test.YtohedeeajcdjcaaDoorRoAlive
import Derived.Test.YtohedeeajcdjcaaDoorRoArg
import Derived.Test.YtohedeeajcdjcaaDoorFrmLaid
namespace Go.Proofs.YtohedeeajcdjcaaDoor
open Go.ChangeShapes Go.WideShapes Go.ChangeAt Go.RowKit Go.Joins
open Bt

namespace LRoamMoves

theorem rx_false {tx ant rssi : Int} (h : ¬ (0 ≤ ant ∧ ant < 8)) : isRx tx ant rssi = false := by
  cases q : isRx tx ant rssi with
  | false => rfl
  | true => exact absurd (isRx_true q).2.1 h

theorem mv1 {r a m : Nat} (hr : 1 ≤ r) (ant now : Int) : (0 ≤ ant ∧ ant < 8 → hearT (tab0 r a m) 1 ant 60 = 1 ∧ hearX (tab0 r a m) 1 ant 60 now = ⟨r, a, m, [⟨1, ant, 60, now⟩]⟩) ∧ (¬ (0 ≤ ant ∧ ant < 8) → hearT (tab0 r a m) 1 ant 60 = 3) := by
  refine ⟨fun h => ?_, fun h => ?_⟩
  · have hx : isRx 1 ant 60 = true := isRx_mk (by decide) h (by decide)
    unfold hearT hearX
    rw [if_pos hx, if_pos hx]
    exact ⟨if_pos hr, if_pos hr⟩
  · unfold hearT
    rw [if_neg (by rw [rx_false h]; decide)]

theorem mv2 {r a m : Nat} {ant other rssi now : Int} (hne : ant ≠ other) (hr : 0 ≤ rssi ∧ rssi < 128) : (0 ≤ other ∧ other < 8 → (hearT ⟨r, a, m, [⟨1, ant, 60, now⟩]⟩ 1 other rssi = if (m : Int) ≤ rssi - 60 then 2 else 0) ∧ hearX ⟨r, a, m, [⟨1, ant, 60, now⟩]⟩ 1 other rssi now = ⟨r, a, m, [if (m : Int) ≤ rssi - 60 then ⟨1, other, rssi, now⟩ else ⟨1, ant, 60, now⟩]⟩) ∧ (¬ (0 ≤ other ∧ other < 8) → hearT ⟨r, a, m, [⟨1, ant, 60, now⟩]⟩ 1 other rssi = 3) := by
  refine ⟨fun h => ?_, fun h => ?_⟩
  · have hx : isRx 1 other rssi = true := isRx_mk (by decide) h hr
    unfold hearT hearX
    rw [if_pos hx, if_pos hx]
    have hf : findT [(⟨1, ant, 60, now⟩ : Sen)] 1 = some 0 := rfl
    simp only [hf]
    have ho : hearOut m ⟨1, ant, 60, now⟩ other rssi = if (m : Int) ≤ rssi - 60 then 2 else 0 := by
      unfold hearOut
      by_cases q : (m : Int) ≤ rssi - 60
      · rw [if_pos ⟨hne, q⟩, if_pos q]
      · rw [if_neg (fun z => q z.2), if_neg q]
    refine ⟨ho, ?_⟩
    show Tab.mk r a m [hearS m ⟨1, ant, 60, now⟩ other rssi now] = _
    unfold hearS
    rw [ho]
    by_cases q : (m : Int) ≤ rssi - 60
    · rw [if_pos q, if_pos (.inl rfl), if_pos q]
    · rw [if_neg q, if_neg q, if_neg]
      rintro (z | z)
      · exact absurd z (by decide)
      · exact hne z
  · unfold hearT
    rw [if_neg (by rw [rx_false h]; decide)]

theorem mv3 {r a m : Nat} {ant other rssi now : Int} (hne : ant ≠ other) (ha : 0 ≤ ant ∧ ant < 8) (hr : 0 ≤ rssi + m ∧ rssi + m < 128) : hearT ⟨r, a, m, [⟨1, other, rssi, now⟩]⟩ 1 ant (rssi + m) = 2 := by
  have hx : isRx 1 ant (rssi + m) = true := isRx_mk (by decide) ha hr
  unfold hearT
  rw [if_pos hx]
  have hf : findT [(⟨1, other, rssi, now⟩ : Sen)] 1 = some 0 := rfl
  simp only [hf]
  show hearOut m ⟨1, other, rssi, now⟩ ant (rssi + m) = 2
  unfold hearOut
  exact if_pos ⟨fun q => hne q.symm, by show (m : Int) ≤ rssi + m - rssi; omega⟩

set_option maxRecDepth 100000 in
theorem walk_nil (r a m ant other rssi now : Int) (w : World) (hW : Wid w) (h : mayR r a m = false) :
    Calls Tryd.prog 7 #[Rm r a m, .int .i64 ant, .int .i64 other, .int .i64 rssi, .int .i64 now] w fun e w' => e = .returned (.bool true) ∧ Below w.heap.size w w' := by
  have NO := Hid.intro (fun w => onew_no r a m h w)
  have B0 := Hid.intro ((Below.refl _ w).alloc (Nat.le_refl _) (.cells #[.int .i64 r, .int .i64 a, .int .i64 m] 23))
  have b0 := Hid.intro (heap_alloc_new w (.cells #[.int .i64 r, .int .i64 a, .int .i64 m] 23))
  have W0 := Hid.intro (hW.below B0.out)
  clear h hW
  go_enter Tryd.func7, Tryd.ntmps7
  go_wp2_with fail
  refine (alive9_any _ W0.out).mono ?_
  rintro e w1 ⟨rfl, B1⟩
  have b1 := (B1.block _ (lt_of_heap b0.out)).trans b0.out
  have B1H := Hid.intro (B0.out.trans (B1.mono B0.out.size))
  have c0 : w1.cell? ⟨w.heap.size, 0, none⟩ = some (.int .i64 r) := by rw [cell_of_row _ _ 0 _ _ _ b1]; rfl
  have c1 : w1.cell? ⟨w.heap.size, 1, none⟩ = some (.int .i64 a) := by rw [cell_of_row _ _ 1 _ _ _ b1]; rfl
  have c2 : w1.cell? ⟨w.heap.size, 2, none⟩ = some (.int .i64 m) := by rw [cell_of_row _ _ 2 _ _ _ b1]; rfl
  clear b1 B1 B0 W0 b0
  go_wp2_with fail
  refine (NO.out w1).mono ?_
  rintro e w2 ⟨rfl, B2⟩
  have B2H := Hid.intro (B1H.out.trans (B2.mono B1H.out.size))
  clear B2 B1H NO c0 c1 c2
  go_wp2
  go_ret
  exact ⟨rfl, B2H.out⟩

set_option maxRecDepth 100000 in
set_option maxHeartbeats 2000000 in
theorem walk_near (r a m : Nat) (ant other rssi now : Int) (w : World) (hW : Wid w) (h : mayR r a m = true) :
    Calls Tryd.prog 7 #[Rm r a m, .int .i64 ant, .int .i64 other, .int .i64 rssi, .int .i64 now] w fun e w' => e = .returned (.bool true) ∧ Below w.heap.size w w' := by
  have NW := Hid.intro (fun w => onew_yes r a m h w)
  have hb := mayR_true h
  have B0 := Hid.intro ((Below.refl _ w).alloc (Nat.le_refl _) (.cells #[.int .i64 (r : Int), .int .i64 (a : Int), .int .i64 (m : Int)] 23))
  have b0 := Hid.intro (heap_alloc_new w (.cells #[.int .i64 (r : Int), .int .i64 (a : Int), .int .i64 (m : Int)] 23))
  have W0 := Hid.intro (hW.below B0.out)
  have hsz := World.size_alloc w (.cells #[.int .i64 (r : Int), .int .i64 (a : Int), .int .i64 (m : Int)] 23)
  clear h hW
  go_enter Tryd.func7, Tryd.ntmps7
  go_wp2_with fail
  refine (alive9_any _ W0.out).mono ?_
  rintro e w1 ⟨rfl, B1⟩
  have b1 := (B1.block _ (lt_of_heap b0.out)).trans b0.out
  have b1H := Hid.intro b1
  have W1 := Hid.intro (W0.out.below B1)
  have B1H := Hid.intro (B0.out.trans (B1.mono B0.out.size))
  have S1 : Hid (w.heap.size < w1.heap.size) := by have := B1.size; show w.heap.size < w1.heap.size; omega
  have c0 : w1.cell? ⟨w.heap.size, 0, none⟩ = some (.int .i64 (r : Int)) := by rw [cell_of_row _ _ 0 _ _ _ b1]; rfl
  have c1 : w1.cell? ⟨w.heap.size, 1, none⟩ = some (.int .i64 (a : Int)) := by rw [cell_of_row _ _ 1 _ _ _ b1]; rfl
  have c2 : w1.cell? ⟨w.heap.size, 2, none⟩ = some (.int .i64 (m : Int)) := by rw [cell_of_row _ _ 2 _ _ _ b1]; rfl
  clear b1 B1 B0 W0 b0 hsz
  go_wp2_with fail
  refine (NW.out w1).mono ?_
  rintro e w2 ⟨b, F, rfl, hS, hF, B2⟩
  have L2 := Hid.intro (tl_new hS hF B2)
  have W2 := Hid.intro (W1.out.below B2)
  have Z2 : Hid ((fun k => k < w1.heap.size) 0) := by obtain ⟨t, fr, q⟩ := W1.out; exact lt_of_heap q
  have BW2 := Hid.intro (B1H.out.trans (B2.mono B1H.out.size))
  have C2 : Hid (w2.cell? ⟨w.heap.size, 2, none⟩ = some (.int .i64 (m : Int))) := (B2.cell (p := ⟨w.heap.size, 2, none⟩) (cell_lt c2)).trans c2
  have S12 := Hid.intro B2.size
  clear hS hF B2 NW c0 c1 c2 b1H W1
  by_cases n1 : now < 0
  · go_wp2
    go_ret
    exact ⟨rfl, BW2.out⟩
  by_cases n2 : 1099511627776 < now
  · go_wp2
    go_ret
    exact ⟨rfl, BW2.out⟩
  by_cases n3 : rssi < 0
  · go_wp2
    go_ret
    exact ⟨rfl, BW2.out⟩
  by_cases n4 : 127 < rssi
  · go_wp2
    go_ret
    exact ⟨rfl, BW2.out⟩
  by_cases n5 : ant = other
  · have n5' : (ant == other) = true := by simpa using n5
    go_wp2
    go_ret
    exact ⟨rfl, BW2.out⟩
  have n5' : (ant == other) = false := by simpa using n5
  have H1 := tlhear 1 ant 60 now (by omega) L2.out W2.out
  by_cases h1 : 0 ≤ ant ∧ ant < 8
  · rw [((mv1 (by omega) ant now).1 h1).1, ((mv1 (by omega) ant now).1 h1).2] at H1
    have H1H := Hid.intro H1
    have N5 := Hid.intro n5
    clear H1 n5
    go_wp2_with fail
    refine H1H.out.mono ?_
    rintro e w3 ⟨rfl, L3⟩
    have L3H := Hid.intro L3
    have BW3 := Hid.intro (BW2.out.trans (L3.out (B := w.heap.size) BW2.out.size (fun k hk => Nat.lt_trans hk S1.out)))
    have C3 : Hid (w3.cell? ⟨w.heap.size, 2, none⟩ = some (.int .i64 (m : Int))) := L3.cell C2.out S1.out
    have H2 := tlhear 1 other rssi now (by omega) L3.here (L3.wid W2.out Z2.out)
    clear H1H L3
    by_cases h2 : 0 ≤ other ∧ other < 8
    · rw [((mv2 N5.out (by omega)).1 h2).1, ((mv2 N5.out (by omega)).1 h2).2] at H2
      by_cases hmv : (m : Int) ≤ rssi - 60
      · rw [if_pos hmv, if_pos hmv] at H2
        have H2H := Hid.intro H2
        clear H2
        go_wp2_with fail
        refine H2H.out.mono ?_
        rintro e w4 ⟨rfl, L4⟩
        have L4H := Hid.intro L4
        have BW4 := Hid.intro (BW3.out.trans (L4.out (B := w.heap.size) BW3.out.size (fun k hk => Nat.lt_trans hk S1.out)))
        have C4 : Hid (w4.cell? ⟨w.heap.size, 2, none⟩ = some (.int .i64 (m : Int))) := L4.cell C3.out S1.out
        have H3 := tlhome 1 L4
        rw [show homeA ⟨r, a, m, [⟨1, other, rssi, now⟩]⟩ 1 = other from rfl, show homeB ⟨r, a, m, [⟨1, other, rssi, now⟩]⟩ 1 = true from rfl] at H3
        have H3H := Hid.intro H3
        clear H2H H3 L4
        go_wp2_with fail
        refine H3H.out.mono ?_
        rintro e w5 ⟨rfl, B5⟩
        have BW5 := Hid.intro (BW4.out.trans (B5.mono BW4.out.size))
        have c5 := (B5.cell (p := ⟨w.heap.size, 2, none⟩) (cell_lt C4.out)).trans C4.out
        have L5 := Hid.intro (L4H.out.below B5)
        have g1 : 60 + (m : Int) ≤ rssi := by omega
        clear H3H B5
        by_cases hbig : 127 < rssi + (m : Int)
        · go_wp2
          go_ret
          exact ⟨rfl, BW5.out⟩
        · have H4 := tlhear 1 ant (rssi + m) now (by omega) L5.out (L5.out.wid (L3H.out.wid W2.out Z2.out) Z2.out)
          rw [mv3 N5.out h1 (by omega)] at H4
          have H4H := Hid.intro H4
          clear H4
          go_wp2_with fail
          refine H4H.out.mono ?_
          rintro e w6 ⟨rfl, L6⟩
          have BW6 := Hid.intro (BW3.out.trans (L6.out (B := w.heap.size) BW3.out.size (fun k hk => Nat.lt_trans hk S1.out)))
          clear L6 H4H
          go_wp2
          go_ret
          exact ⟨rfl, BW6.out⟩
      · rw [if_neg hmv, if_neg hmv] at H2
        have H2H := Hid.intro H2
        clear H2
        go_wp2_with fail
        refine H2H.out.mono ?_
        rintro e w4 ⟨rfl, L4⟩
        have BW4 := Hid.intro (BW3.out.trans (L4.out (B := w.heap.size) BW3.out.size (fun k hk => Nat.lt_trans hk S1.out)))
        have C4 : Hid (w4.cell? ⟨w.heap.size, 2, none⟩ = some (.int .i64 (m : Int))) := L4.cell C3.out S1.out
        have H3 := tlhome 1 L4
        rw [show homeA ⟨r, a, m, [⟨1, ant, 60, now⟩]⟩ 1 = ant from rfl, show homeB ⟨r, a, m, [⟨1, ant, 60, now⟩]⟩ 1 = true from rfl] at H3
        have H3H := Hid.intro H3
        clear H2H H3 L4
        go_wp2_with fail
        refine H3H.out.mono ?_
        rintro e w5 ⟨rfl, B5⟩
        have BW5 := Hid.intro (BW4.out.trans (B5.mono BW4.out.size))
        have c5 := (B5.cell (p := ⟨w.heap.size, 2, none⟩) (cell_lt C4.out)).trans C4.out
        have g1 : ¬ 60 + (m : Int) ≤ rssi := by omega
        clear H3H B5
        go_wp2
        go_ret
        exact ⟨rfl, BW5.out⟩
    · rw [(mv2 N5.out (by omega)).2 h2] at H2
      have H2H := Hid.intro H2
      clear H2
      go_wp2_with fail
      refine H2H.out.mono ?_
      rintro e w4 ⟨rfl, L4⟩
      have BW4 := Hid.intro (BW3.out.trans (L4.out (B := w.heap.size) BW3.out.size (fun k hk => Nat.lt_trans hk S1.out)))
      have H3H := Hid.intro (tlhome 1 L4)
      clear H2H L4
      go_wp2_with fail
      refine H3H.out.mono ?_
      rintro e w5 ⟨rfl, B5⟩
      have BW5 := Hid.intro (BW4.out.trans (B5.mono BW4.out.size))
      clear H3H B5
      by_cases o1 : other < 0
      · go_wp2
        go_ret
        exact ⟨rfl, BW5.out⟩
      · have o2 : 7 < other := by omega
        go_wp2
        go_ret
        exact ⟨rfl, BW5.out⟩
  · rw [(mv1 (by omega) ant now).2 h1] at H1
    have H1H := Hid.intro H1
    clear H1
    go_wp2_with fail
    refine H1H.out.mono ?_
    rintro e w3 ⟨rfl, L3⟩
    have BW3 := Hid.intro (BW2.out.trans (L3.out (B := w.heap.size) BW2.out.size (fun k hk => Nat.lt_trans hk S1.out)))
    clear L3 H1H
    go_wp2
    go_ret
    exact ⟨rfl, BW3.out⟩

theorem walk (r a m ant other rssi now : Int) (w : World) (_ : (Lit.int .i64 r).wf = true ∧ (Lit.int .i64 a).wf = true ∧ (Lit.int .i64 m).wf = true) (_ : (Lit.int .i64 ant).wf = true) (_ : (Lit.int .i64 other).wf = true) (_ : (Lit.int .i64 rssi).wf = true) (_ : (Lit.int .i64 now).wf = true) (hW : Wid w) :
    Calls Tryd.prog 7 #[Rm r a m, .int .i64 ant, .int .i64 other, .int .i64 rssi, .int .i64 now] w fun e w' => e = .returned (.bool true) ∧ Below w.heap.size w w' := by
  cases h : mayR r a m with
  | false => exact walk_nil r a m ant other rssi now w hW h
  | true =>
    have hb := mayR_true h
    obtain ⟨R, rfl⟩ := Int.eq_ofNat_of_zero_le (show 0 ≤ r by omega)
    obtain ⟨A, rfl⟩ := Int.eq_ofNat_of_zero_le (show 0 ≤ a by omega)
    obtain ⟨Mg, rfl⟩ := Int.eq_ofNat_of_zero_le (show 0 ≤ m by omega)
    exact walk_near R A Mg ant other rssi now w hW h

set_option maxRecDepth 100000 in
theorem lifted (os : Os) (started : os.Started) (H : Type) (enc : TypeId × Value → H) :
    ReturnsInHanded {} Tryd.checked os 7 .any (fun w args => (Rows.roamMovesSpec.pre enc Tryd.prog Tryd.f7 [] false w args ∧ laidMetH Tryd.prog LW w) ∧ sizedMet enc Tryd.prog Tryd.f7 (OpenSpec.ofChange Rows.roamMovesSpec) false w args) (Rows.roamMovesSpec.post enc Tryd.prog Tryd.f7 false true false false) := by
  refine returnsInHanded_of_change_and (C := Tryd.checked) (X := fun w _ => laidMetH Tryd.prog LW w) (fun _ _ _ hh h => h.of_heap hh) own started (by kernel_rfl) Tryd.func7
    (ChangeSpec.witness_shaped (enc := enc) (C := Tryd.checked) (os := os) (X := fun w _ => laidMetH Tryd.prog LW w) false (World.doorLaid Tryd.prog 400 os) #[.agg #[.int .i64 0, .int .i64 0, .int .i64 0], .int .i64 0, .int .i64 0, .int .i64 0, .int .i64 0] 8 rfl (World.shaped_of_RefB (by kernel_rfl) (by kernel_rfl)) (by kernel_rfl) (by kernel_rfl) (by kernel_rfl) (door_met os _)) ?_
  intro W base args ds gs before hval0 hW _ _ hL _
  have hval : ∀ (j : Nat) t v, Tryd.f7.params[j]? = some t → args[j]? = some v → Value.okWide Tryd.prog W .any base t v := hval0
  have hW' := hW
  obtain ⟨p, q, hA0, hV, rfl, hfz, hnd⟩ := hW
  have hA : DataW.TrodAll enc Tryd.prog W 0 (fun _ => true) true Tryd.f7.params.toList args.toList ds p := hA0
  rw [Tryd.params7] at hA hval
  obtain ⟨v0, vs0, d0, ds0, p0, q0, hargs, rfl, rfl, h0, r0⟩ := trodAll_cons hA
  obtain ⟨v1, vs1, d1, ds1, p1, q1, rfl, rfl, rfl, h1, r1⟩ := trodAll_cons r0
  obtain ⟨v2, vs2, d2, ds2, p2, q2, rfl, rfl, rfl, h2, r2⟩ := trodAll_cons r1
  obtain ⟨v3, vs3, d3, ds3, p3, q3, rfl, rfl, rfl, h3, r3⟩ := trodAll_cons r2
  obtain ⟨v4, vs4, d4, ds4, p4, q4, rfl, rfl, rfl, h4, r4⟩ := trodAll_cons r3
  obtain ⟨rfl, rfl, rfl⟩ := trodAll_nil r4
  obtain rfl : args = #[v0, v1, v2, v3, v4] := by cases args; simp_all
  obtain ⟨rfl, rfl⟩ := trodVars_none hV
  have k0 := h0
  have lt0 : ∀ x ∈ p0, x.block < W.heap.size := by obtain ⟨m, hm⟩ := k0; exact DataW.trod_lt m _ _ _ hm
  obtain ⟨kc0, nc0, sc0, rfl, w0⟩ := open_roam (hval 0 23 v0 rfl rfl) h0
  obtain ⟨a1, rfl, rfl, rfl, w1⟩ := open_int Tryd.underlying3 (hval 1 3 v1 rfl rfl) h1
  obtain ⟨a2, rfl, rfl, rfl, w2⟩ := open_int Tryd.underlying3 (hval 2 3 v2 rfl rfl) h2
  obtain ⟨a3, rfl, rfl, rfl, w3⟩ := open_int Tryd.underlying3 (hval 3 3 v3 rfl rfl) h3
  obtain ⟨a4, rfl, rfl, rfl, w4⟩ := open_int Tryd.underlying3 (hval 4 3 v4 rfl rfl) h4
  clear hA0 hval0
  refine (walk kc0 nc0 sc0 a1 a2 a3 a4 W w0 w1 w2 w3 w4 (laid_fact hL)).mono fun e W' ⟨he, bel⟩ => ?_
  subst he
  exact ⟨_, rfl, _, _, _, [], _, [], hW', trodAll_mk1 (shut_bool Tryd.underlying4 _), (trodAll_cons_mk (Below.trod laidOut (by kernel_rfl) (of_decide_eq_true (by kernel_rfl)) k0 bel lt0) (trodAll_cons_mk (shut_int Tryd.underlying3 w1) (trodAll_cons_mk (shut_int Tryd.underlying3 w2) (trodAll_cons_mk (shut_int Tryd.underlying3 w3) (trodAll_cons_mk (shut_int Tryd.underlying3 w4) trodAll_mk0))))), rfl, bel.frame _, fun h => by cases h⟩

theorem over : Rows.roamMovesRow.holds Tryd.pinned (OpenSpec.ofChange Rows.roamMovesSpec) :=
  OpenClaim.holds_of_wide 7 Tryd.f7 rfl rfl rfl rfl rfl rfl rfl ⟨rfl, rfl, rfl, rfl, rfl⟩ rfl rfl rfl rfl rfl (by kernel_rfl) Tryd.func7 (by kernel_rfl)
    (of_decide_eq_true (by kernel_rfl)) (by unfold Func.isWrapper; first | (rw [if_pos (by decide +kernel)]; kernel_rfl) | (rw [if_neg (by decide +kernel)]; exact ⟨rfl, rfl⟩))
    (fun os started H enc _ => lifted os started H enc)

end Go.Proofs.YtohedeeajcdjcaaDoor.LRoamMoves

namespace Go.Proofs.YtohedeeajcdjcaaDoor
theorem roamMoves_holds : Rows.RoamMovesCardSaid :=
  Claim7.holds_tied_plain_at .later [] [.data] true (true, "25c53ae29fda08d9d042b4c4856af7eab08bb405629bf16a006be57b24e6dc14") false
    LRoamMoves.over (fun _ h => by cases h) (by kernel_rfl) (fun _ h => by cases h) roamMoves_row_tie rfl ⟨rfl, rfl⟩ (by kernel_rfl) rfl
    (fun f fn hf hfn => by
      obtain rfl : f = 7 := Option.some.inj ((show Tryd.prog.funcNamed "gurney/gurneylaw09.RoamMoves" = some 7 by kernel_rfl).symm.trans hf) |>.symm
      obtain rfl : fn = Tryd.f7 := (Option.some.inj (Tryd.func7.symm.trans hfn)).symm
      exact ⟨by kernel_rfl, fun j t ht => by
        rw [Tryd.params7] at ht
        have hm : t ∈ [23, 3, 3, 3, 3] := by simpa using Array.mem_of_getElem? ht
        have hall : ([23, 3, 3, 3, 3].all fun u => !Tryd.prog.wantsStandIn u) = true := by kernel_rfl
        exact (show Tryd.prog.wantsStandIn t = false by simpa using List.all_eq_true.1 hall t hm)⟩)
    (by kernel_rfl)
#print axioms roamMoves_holds
end Go.Proofs.YtohedeeajcdjcaaDoor
