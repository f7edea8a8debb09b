/- The statement RoamHome: one that is heard by its home alone stays there, and is forgotten just when it was silent for more than its age. -/
import Derived.Test.YtohedeeajcdjcaaDoorRoAlive
import Derived.Test.YtohedeeajcdjcaaDoorRoArg
import Derived.Test.YtohedeeajcdjcaaDoorFrmLaid
namespace Go.Proofs.YtohedeeajcdjcaaDoor
open Go.ChangeShapes Go.WideShapes Go.ChangeAt Go.RowKit Go.Joins
open Bt

namespace LRoamHome

theorem ho1 {r a m : Nat} (hr : 1 ≤ r) (tx ant : Int) : (isRx tx ant 50 = true → hearT (tab0 r a m) tx ant 50 = 1 ∧ hearX (tab0 r a m) tx ant 50 0 = ⟨r, a, m, [⟨tx, ant, 50, 0⟩]⟩) ∧ (isRx tx ant 50 = false → hearT (tab0 r a m) tx ant 50 = 3) := by
  refine ⟨fun hx => ?_, fun hx => ?_⟩
  · unfold hearT hearX
    rw [if_pos hx, if_pos hx]
    exact ⟨if_pos hr, if_pos hr⟩
  · unfold hearT
    rw [if_neg (by rw [hx]; decide)]

theorem find_one (s : Sen) : findT [s] s.tx = some 0 := by simp [findT, List.findIdx?_cons]

theorem ho2 {r a m : Nat} {tx ant rs la z now : Int} (hx : isRx tx ant 50 = true) (hz : 0 ≤ z ∧ z < 128) : hearT ⟨r, a, m, [⟨tx, ant, rs, la⟩]⟩ tx ant z = 0 ∧ hearX ⟨r, a, m, [⟨tx, ant, rs, la⟩]⟩ tx ant z now = ⟨r, a, m, [⟨tx, ant, z, now⟩]⟩ := by
  have h := isRx_true hx
  have hx2 : isRx tx ant z = true := isRx_mk h.1 h.2.1 hz
  have hf : findT [(⟨tx, ant, rs, la⟩ : Sen)] tx = some 0 := find_one _
  unfold hearT hearX
  rw [if_pos hx2, if_pos hx2]
  simp only [hf]
  refine ⟨?_, ?_⟩
  · show hearOut m ⟨tx, ant, rs, la⟩ ant z = 0
    unfold hearOut
    exact if_neg (fun q => q.1 rfl)
  · show Tab.mk r a m [hearS m ⟨tx, ant, rs, la⟩ ant z now] = _
    unfold hearS
    rw [if_pos (.inr rfl)]

theorem ho3 {r a m : Nat} {tx ant rs la : Int} : homeA ⟨r, a, m, [⟨tx, ant, rs, la⟩]⟩ tx = ant ∧ homeB ⟨r, a, m, [⟨tx, ant, rs, la⟩]⟩ tx = true := by
  have hf : findT [(⟨tx, ant, rs, la⟩ : Sen)] tx = some 0 := find_one _
  unfold homeA homeB
  simp only [hf]
  exact ⟨rfl, rfl⟩

theorem ho4 {r a m : Nat} {tx ant rs la : Int} (wt : Nat) : (goneX ⟨r, a, m, [⟨tx, ant, rs, la⟩]⟩ (la + wt)).length = if a < wt then 1 else 0 := by
  unfold goneX oldS
  rw [List.length_map, List.filter_cons, List.filter_nil]
  by_cases q : a < wt
  · rw [if_pos (by simp; omega), if_pos q]; rfl
  · rw [if_neg (by simp; omega), if_neg q]; rfl

set_option maxRecDepth 100000 in
theorem walk_nil (r a m tx ant : Int) (ao : Option Addr) (len cap : Nat) (wt : Int) (w : World) (hW : Wid w) (h : mayR r a m = false) :
    Calls Tryd.prog 5 #[Rm r a m, .int .i64 tx, .int .i64 ant, .slice ao len cap, .int .u16 wt] w fun e w' => e = .returned (.bool true) ∧ Below w.heap.size w w' := by
  have NO := Hid.intro (fun w => onew_no r a m h w)
  have B0 := Hid.intro ((Below.refl _ w).alloc (Nat.le_refl _) (.cells #[.int .i64 r, .int .i64 a, .int .i64 m] 23))
  have b0 := Hid.intro (heap_alloc_new w (.cells #[.int .i64 r, .int .i64 a, .int .i64 m] 23))
  have W0 := Hid.intro (hW.below B0.out)
  clear h hW
  go_enter Tryd.func5, Tryd.ntmps5
  go_wp2_with fail
  refine (alive9_any _ W0.out).mono ?_
  rintro e w1 ⟨rfl, B1⟩
  have b1 := (B1.block _ (lt_of_heap b0.out)).trans b0.out
  have B1H := Hid.intro (B0.out.trans (B1.mono B0.out.size))
  have c0 : w1.cell? ⟨w.heap.size, 0, none⟩ = some (.int .i64 r) := by rw [cell_of_row _ _ 0 _ _ _ b1]; rfl
  have c1 : w1.cell? ⟨w.heap.size, 1, none⟩ = some (.int .i64 a) := by rw [cell_of_row _ _ 1 _ _ _ b1]; rfl
  have c2 : w1.cell? ⟨w.heap.size, 2, none⟩ = some (.int .i64 m) := by rw [cell_of_row _ _ 2 _ _ _ b1]; rfl
  clear b1 B1 B0 W0 b0
  go_wp2_with fail
  refine (NO.out w1).mono ?_
  rintro e w2 ⟨rfl, B2⟩
  have B2H := Hid.intro (B1H.out.trans (B2.mono B1H.out.size))
  clear B2 B1H NO c0 c1 c2
  by_cases hbig : 60 < len
  · have hbig' : (60 : Int) < (len : Int) := by omega
    go_wp2
    go_ret
    exact ⟨rfl, B2H.out⟩
  · have hbig' : ¬ (60 : Int) < (len : Int) := by omega
    go_wp2
    go_ret
    exact ⟨rfl, B2H.out⟩

set_option maxRecDepth 100000 in
set_option maxHeartbeats 2000000 in
theorem walk_near (r a m : Nat) (tx ant : Int) (wt : Nat) (hwt : wt ≤ 65535) (ao : Option Addr) (cap : Nat) (bs : List Nat) (hmx : bs.length ≤ maxLen) (hY : ∀ y ∈ bs, y < 256) (w : World) (hr : Reads w ao bs) (hW : Wid w) (h : mayR r a m = true) :
    Calls Tryd.prog 5 #[Rm r a m, .int .i64 tx, .int .i64 ant, .slice ao bs.length cap, .int .u16 (wt : Int)] w fun e w' => e = .returned (.bool true) ∧ Below w.heap.size w w' := by
  have NW := Hid.intro (fun w => onew_yes r a m h w)
  have hb := mayR_true h
  have B0 := Hid.intro ((Below.refl _ w).alloc (Nat.le_refl _) (.cells #[.int .i64 (r : Int), .int .i64 (a : Int), .int .i64 (m : Int)] 23))
  have b0 := Hid.intro (heap_alloc_new w (.cells #[.int .i64 (r : Int), .int .i64 (a : Int), .int .i64 (m : Int)] 23))
  have W0 := Hid.intro (hW.below B0.out)
  have hsz := World.size_alloc w (.cells #[.int .i64 (r : Int), .int .i64 (a : Int), .int .i64 (m : Int)] 23)
  have RD := Hid.intro hr
  have HY := Hid.intro hY
  obtain ⟨LL, hLL⟩ : ∃ LL, LL = bs.length := ⟨_, rfl⟩
  have HLL := Hid.intro hLL
  rw [← hLL] at hmx ⊢
  clear h hW hr hY hLL
  go_enter Tryd.func5, Tryd.ntmps5
  go_wp2_with fail
  refine (alive9_any _ W0.out).mono ?_
  rintro e w1 ⟨rfl, B1⟩
  have b1 := (B1.block _ (lt_of_heap b0.out)).trans b0.out
  have W1 := Hid.intro (W0.out.below B1)
  have B1H := Hid.intro (B0.out.trans (B1.mono B0.out.size))
  have S1 : Hid (w.heap.size < w1.heap.size) := by have := B1.size; show w.heap.size < w1.heap.size; omega
  have c0 : w1.cell? ⟨w.heap.size, 0, none⟩ = some (.int .i64 (r : Int)) := by rw [cell_of_row _ _ 0 _ _ _ b1]; rfl
  have c1 : w1.cell? ⟨w.heap.size, 1, none⟩ = some (.int .i64 (a : Int)) := by rw [cell_of_row _ _ 1 _ _ _ b1]; rfl
  have c2 : w1.cell? ⟨w.heap.size, 2, none⟩ = some (.int .i64 (m : Int)) := by rw [cell_of_row _ _ 2 _ _ _ b1]; rfl
  clear b1 B1 B0 W0 b0 hsz
  go_wp2_with fail
  refine (NW.out w1).mono ?_
  rintro e w2 ⟨b, F, rfl, hS, hF, B2⟩
  have L2 := Hid.intro (tl_new hS hF B2)
  have W2 := Hid.intro (W1.out.below B2)
  have Z2 : Hid ((fun k => k < w1.heap.size) 0) := by obtain ⟨t, fr, q⟩ := W1.out; exact lt_of_heap q
  have BW2 := Hid.intro (B1H.out.trans (B2.mono B1H.out.size))
  have C1 : Hid (w2.cell? ⟨w.heap.size, 1, none⟩ = some (.int .i64 (a : Int))) := (B2.cell (p := ⟨w.heap.size, 1, none⟩) (cell_lt c1)).trans c1
  have RD2 := Hid.intro (RD.out.below BW2.out)
  have RDB : Hid (∀ ad, ao = some ad → 0 < bs.length → ad.block < w.heap.size) := fun ad ha h0 => by
    have q := RD.out
    rw [ha] at q
    obtain ⟨b', off, e', hc⟩ := reads_at q h0
    cases e'
    exact cell_lt (hc 0 h0)
  clear hS hF B2 NW c0 c1 c2 W1 RD
  by_cases hbig : 60 < LL
  · have hbig' : (60 : Int) < (LL : Int) := by omega
    go_wp2
    go_ret
    exact ⟨rfl, BW2.out⟩
  have hbig' : ¬ (60 : Int) < (LL : Int) := by omega
  have H1 := tlhear tx ant 50 0 (by decide) L2.out W2.out
  cases hx : isRx tx ant 50 with
  | false =>
    rw [(ho1 (by omega) tx ant).2 hx] at H1
    have H1H := Hid.intro H1
    clear H1
    go_wp2_with fail
    refine H1H.out.mono ?_
    rintro e w3 ⟨rfl, L3⟩
    have BW3 := Hid.intro (BW2.out.trans (L3.out (B := w.heap.size) BW2.out.size (fun k hk => Nat.lt_trans hk S1.out)))
    clear L3 H1H
    go_wp2
    go_ret
    exact ⟨rfl, BW3.out⟩
  | true =>
  rw [((ho1 (by omega) tx ant).1 hx).1, ((ho1 (by omega) tx ant).1 hx).2] at H1
  have H1H := Hid.intro H1
  have HX := Hid.intro hx
  clear H1 hx
  go_wp2_with fail
  refine H1H.out.mono ?_
  rintro e w3 ⟨rfl, L3⟩
  have L3H := Hid.intro L3
  clear L3 H1H
  go_wp2_with fail
  go_loopw [12] (fun i wr => ∃ (k : Nat) (rs : Int), k ≤ LL ∧ i = .int .i64 k ∧ TL (fun k => k < w1.heap.size) w2 wr b ⟨r, a, m, [⟨tx, ant, rs, ((k - 1 : Nat) : Int)⟩]⟩) (fun i _ => LL - (intOf i).toNat)
  case atStart => exact ⟨0, _, by omega, rfl, L3H.out⟩
  case round =>
    clear L3H
    obtain ⟨k, rs, hk, rfl, hL⟩ := hrel
    have HL := Hid.intro hL
    by_cases hlt : k < LL
    · have k0 : (0 : Int) ≤ (k : Int) := by omega
      have k1 : (k : Int) < (LL : Int) := by omega
      have hkb : k < bs.length := by rw [← HLL.out]; exact hlt
      obtain ⟨bb, off, rfl, hcc⟩ := reads_at RD2.out (by omega)
      have cb2 := hcc k hkb
      have hbl := RDB.out _ rfl (by omega)
      have cb := hL.cell cb2 (Nat.lt_trans hbl S1.out)
      have hy : bs[k] < 256 := HY.out _ (List.getElem_mem hkb)
      generalize bs[k] = y at cb cb2 hy
      have T1 := tlhear tx ant ((y % 128 : Nat) : Int) (k : Int) (by omega) hL (hL.wid W2.out Z2.out)
      rw [(ho2 (now := (k : Int)) HX.out (by omega)).1, (ho2 (now := (k : Int)) HX.out (by omega)).2] at T1
      have T1H := Hid.intro T1
      have ym : (y : Int) % 128 = ((y % 128 : Nat) : Int) := by omega
      obtain ⟨z, hz⟩ : ∃ z : Nat, z = y % 128 := ⟨_, rfl⟩
      have hz2 : z < 128 := by omega
      have yz : IntKind.u8.wrap ((y : Int).tmod 128) = (z : Int) := by rw [hz, Int.tmod_eq_emod_of_nonneg (by omega), ym]; exact IntWalk.u8_in _ (by omega)
      have yz2 : (y : Int) % 128 = (z : Int) := by rw [hz]; exact ym
      rw [← hz] at T1H
      clear hL cb2 hcc T1 ym hz
      go_wp2_with fail
      refine T1H.out.mono ?_
      rintro e w4 ⟨rfl, L4⟩
      have L4H : Hid (TL (fun k => k < w1.heap.size) w2 w4 b ⟨r, a, m, [⟨tx, ant, (z : Int), ((k + 1 - 1 : Nat) : Int)⟩]⟩) := by rw [Nat.add_sub_cancel]; exact L4
      clear L4 T1H cb yz yz2
      go_wp2
      go_roundw
      case rel => exact ⟨k + 1, _, by omega, by go_num, L4H.out⟩
      case measure => simp [intOf]; omega
    · obtain rfl : k = LL := by omega
      have k1 : ¬ (k : Int) < (k : Int) := by omega
      obtain ⟨la, hla⟩ : ∃ la : Nat, la = k - 1 := ⟨_, rfl⟩
      rw [← hla] at hL
      have L5H := Hid.intro hL
      have T2 := tlhome tx hL
      rw [ho3.1, ho3.2] at T2
      have T2H := Hid.intro T2
      have FO := Hid.intro (fun (W : World) (h : TL (fun k => k < w1.heap.size) w2 W b ⟨r, a, m, [⟨tx, ant, rs, (la : Int)⟩]⟩) => tlforget ((la : Int) + wt) (by omega) h)
      have GL := Hid.intro (ho4 (r := r) (a := a) (m := m) (tx := tx) (ant := ant) (rs := rs) (la := (la : Int)) wt)
      clear HL hL T2
      have hq : (k : Int) - 1 < 0 ∧ (la : Int) = 0 ∨ ¬ (k : Int) - 1 < 0 ∧ (la : Int) = (k : Int) - 1 := by omega
      have HQ := Hid.intro hq
      clear hq hla
      have FINISH : Hid (∀ w6 : World, Below w.heap.size w w6 → Below w.heap.size w w6) := fun _ h => h
      by_cases hk0 : (k : Int) - 1 < 0
      · have hla0 : (la : Int) = 0 := by have := HQ.out; omega
        rw [hla0, Int.zero_add] at FO GL
        rw [hla0] at L5H
        go_wp2_with fail
        refine T2H.out.mono ?_
        rintro e w5 ⟨rfl, B5⟩
        have L6 := L5H.out.below B5
        have T3 := Hid.intro (FO.out w5 L6)
        clear L6 FO T2H
        go_wp2_with fail
        refine T3.out.mono ?_
        rintro e w6 ⟨v6, G6, rfl, _, n6, _, L6⟩
        obtain ⟨a6, c6, e6⟩ := n6.len
        rw [GL.out] at e6
        subst e6
        have c16 := L6.cell C1.out S1.out
        have BW6 := Hid.intro (BW2.out.trans (L6.out (B := w.heap.size) BW2.out.size (fun k hk => Nat.lt_trans hk S1.out)))
        clear n6 L6 T3
        by_cases hw : a < wt
        · rw [if_pos hw]
          have hw' : (a : Int) < (wt : Int) := by omega
          go_wp2
          go_ret
          exact ⟨rfl, BW6.out⟩
        · rw [if_neg hw]
          have hw' : ¬ (a : Int) < (wt : Int) := by omega
          go_wp2
          go_ret
          exact ⟨rfl, BW6.out⟩
      · have hla0 : (la : Int) = (k : Int) - 1 := by have := HQ.out; omega
        have hlw : (la : Int) + (wt : Int) = (k : Int) - 1 + (wt : Int) := by omega
        rw [hlw] at FO GL
        go_wp2_with fail
        refine T2H.out.mono ?_
        rintro e w5 ⟨rfl, B5⟩
        have L6 := L5H.out.below B5
        have T3 := Hid.intro (FO.out w5 L6)
        clear L6 FO T2H hla0 hlw
        go_wp2_with fail
        refine T3.out.mono ?_
        rintro e w6 ⟨v6, G6, rfl, _, n6, _, L6⟩
        obtain ⟨a6, c6, e6⟩ := n6.len
        rw [GL.out] at e6
        subst e6
        have c16 := L6.cell C1.out S1.out
        have BW6 := Hid.intro (BW2.out.trans (L6.out (B := w.heap.size) BW2.out.size (fun k hk => Nat.lt_trans hk S1.out)))
        clear n6 L6 T3
        by_cases hw : a < wt
        · rw [if_pos hw]
          have hw' : (a : Int) < (wt : Int) := by omega
          go_wp2
          go_ret
          exact ⟨rfl, BW6.out⟩
        · rw [if_neg hw]
          have hw' : ¬ (a : Int) < (wt : Int) := by omega
          go_wp2
          go_ret
          exact ⟨rfl, BW6.out⟩

theorem walk (r a m tx ant : Int) (ao : Option Addr) (len cap : Nat) (zs : List Int) (wt : Int) (w : World) (_ : (Lit.int .i64 r).wf = true ∧ (Lit.int .i64 a).wf = true ∧ (Lit.int .i64 m).wf = true) (_ : (Lit.int .i64 tx).wf = true) (_ : (Lit.int .i64 ant).wf = true) (hz : IsRow .u8 w ao len cap zs) (hwt : (Lit.int .u16 wt).wf = true) (hW : Wid w) :
    Calls Tryd.prog 5 #[Rm r a m, .int .i64 tx, .int .i64 ant, .slice ao len cap, .int .u16 wt] w fun e w' => e = .returned (.bool true) ∧ Below w.heap.size w w' := by
  cases h : mayR r a m with
  | false => exact walk_nil r a m tx ant ao len cap wt w hW h
  | true =>
    have hb := mayR_true h
    have hmx := hz.len
    have hu := bounds_u16 hwt
    obtain ⟨bs, rfl, h1, h2⟩ := hz.bytes
    obtain ⟨R, rfl⟩ := Int.eq_ofNat_of_zero_le (show 0 ≤ r by omega)
    obtain ⟨A, rfl⟩ := Int.eq_ofNat_of_zero_le (show 0 ≤ a by omega)
    obtain ⟨Mg, rfl⟩ := Int.eq_ofNat_of_zero_le (show 0 ≤ m by omega)
    obtain ⟨Wt, rfl⟩ := Int.eq_ofNat_of_zero_le hu.1
    exact walk_near R A Mg tx ant Wt (by omega) ao cap bs hmx h1 w h2 hW h

set_option maxRecDepth 100000 in
theorem lifted (os : Os) (started : os.Started) (H : Type) (enc : TypeId × Value → H) :
    ReturnsInHanded {} Tryd.checked os 5 .any (fun w args => (Rows.roamHomeSpec.pre enc Tryd.prog Tryd.f5 [] false w args ∧ laidMetH Tryd.prog LW w) ∧ sizedMet enc Tryd.prog Tryd.f5 (OpenSpec.ofChange Rows.roamHomeSpec) false w args) (Rows.roamHomeSpec.post enc Tryd.prog Tryd.f5 false true false false) := by
  refine returnsInHanded_of_change_and (C := Tryd.checked) (X := fun w _ => laidMetH Tryd.prog LW w) (fun _ _ _ hh h => h.of_heap hh) own started (by kernel_rfl) Tryd.func5
    (ChangeSpec.witness_shaped (enc := enc) (C := Tryd.checked) (os := os) (X := fun w _ => laidMetH Tryd.prog LW w) false (World.doorLaid Tryd.prog 400 os) #[.agg #[.int .i64 0, .int .i64 0, .int .i64 0], .int .i64 0, .int .i64 0, .slice none 0 0, .int .u16 0] 8 rfl (World.shaped_of_RefB (by kernel_rfl) (by kernel_rfl)) (by kernel_rfl) (by kernel_rfl) (by kernel_rfl) (door_met os _)) ?_
  intro W base args ds gs before hval0 hW _ _ hL _
  have hval : ∀ (j : Nat) t v, Tryd.f5.params[j]? = some t → args[j]? = some v → Value.okWide Tryd.prog W .any base t v := hval0
  have hW' := hW
  obtain ⟨p, q, hA0, hV, rfl, hfz, hnd⟩ := hW
  have hA : DataW.TrodAll enc Tryd.prog W 0 (fun _ => true) true Tryd.f5.params.toList args.toList ds p := hA0
  rw [Tryd.params5] at hA hval
  obtain ⟨v0, vs0, d0, ds0, p0, q0, hargs, rfl, rfl, h0, r0⟩ := trodAll_cons hA
  obtain ⟨v1, vs1, d1, ds1, p1, q1, rfl, rfl, rfl, h1, r1⟩ := trodAll_cons r0
  obtain ⟨v2, vs2, d2, ds2, p2, q2, rfl, rfl, rfl, h2, r2⟩ := trodAll_cons r1
  obtain ⟨v3, vs3, d3, ds3, p3, q3, rfl, rfl, rfl, h3, r3⟩ := trodAll_cons r2
  obtain ⟨v4, vs4, d4, ds4, p4, q4, rfl, rfl, rfl, h4, r4⟩ := trodAll_cons r3
  obtain ⟨rfl, rfl, rfl⟩ := trodAll_nil r4
  obtain rfl : args = #[v0, v1, v2, v3, v4] := by cases args; simp_all
  obtain ⟨rfl, rfl⟩ := trodVars_none hV
  have k0 := h0
  have lt0 : ∀ x ∈ p0, x.block < W.heap.size := by obtain ⟨m, hm⟩ := k0; exact DataW.trod_lt m _ _ _ hm
  obtain ⟨kc0, nc0, sc0, rfl, w0⟩ := open_roam (hval 0 23 v0 rfl rfl) h0
  obtain ⟨a1, rfl, rfl, rfl, w1⟩ := open_int Tryd.underlying3 (hval 1 3 v1 rfl rfl) h1
  obtain ⟨a2, rfl, rfl, rfl, w2⟩ := open_int Tryd.underlying3 (hval 2 3 v2 rfl rfl) h2
  obtain ⟨a3, len3, cap3, rfl⟩ := okWide_slice Tryd.underlying47 (hval 3 47 v3 rfl rfl)
  have k3 := h3
  have lt3 : ∀ x ∈ p3, x.block < W.heap.size := by obtain ⟨m, hm⟩ := k3; exact DataW.trod_lt m _ _ _ hm
  obtain ⟨z3, w3⟩ : ∃ zs, IsRow .u8 W a3 len3 cap3 zs := by
    obtain ⟨fuel, hf⟩ := h3
    rcases open_ints Tryd.underlying47 Tryd.underlying5 (by kernel_rfl) hf with ⟨hcs, _⟩ | ⟨x, l, c, zs, hcs, _, hl, hm, hz, _, hcell, hwz⟩
    · simp [Value.cells] at hcs
      obtain ⟨rfl, rfl, rfl⟩ := hcs
      exact ⟨[], .inl ⟨rfl, rfl, rfl, rfl⟩⟩
    · simp [Value.cells] at hcs
      obtain ⟨rfl, rfl, rfl⟩ := hcs
      exact ⟨zs, .inr ⟨_, rfl, hl, hm, by simpa using hz, hcell, hwz⟩⟩
  obtain ⟨a4, rfl, rfl, rfl, w4⟩ := open_int Tryd.underlying48 (hval 4 48 v4 rfl rfl) h4
  clear hA0 hval0
  refine (walk kc0 nc0 sc0 a1 a2 a3 len3 cap3 z3 a4 W w0 w1 w2 w3 w4 (laid_fact hL)).mono fun e W' ⟨he, bel⟩ => ?_
  subst he
  exact ⟨_, rfl, _, _, _, [], _, [], hW', trodAll_mk1 (shut_bool Tryd.underlying4 _), (trodAll_cons_mk (Below.trod laidOut (by kernel_rfl) (of_decide_eq_true (by kernel_rfl)) k0 bel lt0) (trodAll_cons_mk (shut_int Tryd.underlying3 w1) (trodAll_cons_mk (shut_int Tryd.underlying3 w2) (trodAll_cons_mk (Below.trod laidOut (by kernel_rfl) (of_decide_eq_true (by kernel_rfl)) k3 bel lt3) (trodAll_cons_mk (shut_int Tryd.underlying48 w4) trodAll_mk0))))), rfl, bel.frame _, fun h => by cases h⟩

theorem over : Rows.roamHomeRow.holds Tryd.pinned (OpenSpec.ofChange Rows.roamHomeSpec) :=
  OpenClaim.holds_of_wide 5 Tryd.f5 rfl rfl rfl rfl rfl rfl rfl ⟨rfl, rfl, rfl, rfl, rfl⟩ rfl rfl rfl rfl rfl (by kernel_rfl) Tryd.func5 (by kernel_rfl)
    (of_decide_eq_true (by kernel_rfl)) (by unfold Func.isWrapper; first | (rw [if_pos (by decide +kernel)]; kernel_rfl) | (rw [if_neg (by decide +kernel)]; exact ⟨rfl, rfl⟩))
    (fun os started H enc _ => lifted os started H enc)

end Go.Proofs.YtohedeeajcdjcaaDoor.LRoamHome

namespace Go.Proofs.YtohedeeajcdjcaaDoor
theorem roamHome_holds : Rows.RoamHomeCardSaid :=
  Claim7.holds_tied_plain_at .later [] [.data] true (true, "25c53ae29fda08d9d042b4c4856af7eab08bb405629bf16a006be57b24e6dc14") false
    LRoamHome.over (fun _ h => by cases h) (by kernel_rfl) (fun _ h => by cases h) roamHome_row_tie rfl ⟨rfl, rfl⟩ (by kernel_rfl) rfl
    (fun f fn hf hfn => by
      obtain rfl : f = 5 := Option.some.inj ((show Tryd.prog.funcNamed "gurney/gurneylaw09.RoamHome" = some 5 by kernel_rfl).symm.trans hf) |>.symm
      obtain rfl : fn = Tryd.f5 := (Option.some.inj (Tryd.func5.symm.trans hfn)).symm
      exact ⟨by kernel_rfl, fun j t ht => by
        rw [Tryd.params5] at ht
        have hm : t ∈ [23, 3, 3, 47, 48] := by simpa using Array.mem_of_getElem? ht
        have hall : ([23, 3, 3, 47, 48].all fun u => !Tryd.prog.wantsStandIn u) = true := by kernel_rfl
        exact (show Tryd.prog.wantsStandIn t = false by simpa using List.all_eq_true.1 hall t hm)⟩)
    (by kernel_rfl)
#print axioms roamHome_holds
end Go.Proofs.YtohedeeajcdjcaaDoor
