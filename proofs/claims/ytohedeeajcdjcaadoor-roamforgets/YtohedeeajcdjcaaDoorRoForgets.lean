/- The statement RoamForgets: who is forgotten isn't followed, who isn't is, and nobody else comes by it. -/
import Derived.Test.YtohedeeajcdjcaaDoorRoAlive
import Derived.Test.YtohedeeajcdjcaaDoorRoArg
import Derived.Test.YtohedeeajcdjcaaDoorRoFew9
import Derived.Test.YtohedeeajcdjcaaDoorFrmLaid
namespace Go.Proofs.YtohedeeajcdjcaaDoor
open Go.ChangeShapes Go.WideShapes Go.ChangeAt Go.RowKit Go.Joins
open Bt

namespace LRoamForgets

theorem cut_len (p : Sen → Bool) : ∀ l : List Sen, (l.filter (fun s => !p s)).length + (l.filter p).length = l.length
  | [] => rfl
  | s :: l => by
    have := cut_len p l
    cases h : p s <;> simp [h] <;> omega

theorem fg_len (x : Tab) (now : Int) : (forgetX x now).l.length + (goneX x now).length = x.l.length := by
  unfold goneX
  rw [List.length_map]
  exact cut_len (oldS x now) x.l

theorem uniq : ∀ {l : List Sen}, (l.map (fun s => s.tx)).Nodup → ∀ s ∈ l, ∀ s' ∈ l, s.tx = s'.tx → s = s'
  | [], _, s, hs, _, _, _ => by cases hs
  | a :: l, h, s, hs, s', hs', e => by
    rw [List.map_cons, List.nodup_cons] at h
    rcases List.mem_cons.1 hs with q | q
    · rcases List.mem_cons.1 hs' with q' | q'
      · rw [q, q']
      · exact absurd (List.mem_map.2 ⟨s', q', by rw [← e, q]⟩) h.1
    · rcases List.mem_cons.1 hs' with q' | q'
      · exact absurd (List.mem_map.2 ⟨s, q, by rw [e, q']⟩) h.1
      · exact uniq h.2 s q s' q' e

theorem fg_home {x : Tab} (h : x.Ok) (now : Int) {t : Int} (ht : t ∈ goneX x now) : homeB (forgetX x now) t = false := by
  unfold homeB
  cases hf : findT (forgetX x now).l t with
  | none => rfl
  | some i =>
    exfalso
    obtain ⟨hi, e, _⟩ := findT_some hf
    have hm := List.mem_filter.1 (List.getElem_mem hi)
    obtain ⟨s, hs, e2⟩ := List.mem_map.1 ht
    have hs2 := List.mem_filter.1 hs
    have hu := uniq h.once s hs2.1 _ hm.1 (e2.trans e.symm)
    have h1 := hs2.2
    have h2 := hm.2
    rw [← hu] at h2
    simp [h1] at h2

theorem acts_below {w w' : World} {ao : Option Addr} {l : List Act9} (h : ActsAt9 w ao l) (hb : Below w.heap.size w w') : ActsAt9 w' ao l := fun h0 => by
  obtain ⟨b, off, e, hc⟩ := h h0
  exact ⟨b, off, e, fun i hi => by
    obtain ⟨x0, x1, x2, x3, x4⟩ := hc i hi
    exact ⟨cell9 hb x0, cell9 hb x1, cell9 hb x2, cell9 hb x3, cell9 hb x4⟩⟩

open Classical in
set_option maxRecDepth 100000 in
theorem walk_nil (r a m : Int) (ao : Option Addr) (cap : Nat) (l : List Act9) (w : World) (hr : ActsAt9 w ao l) (hW : Wid w) (h : mayR r a m = false) :
    Calls Tryd.prog 8 #[Rm r a m, .slice ao l.length cap] w fun e w' => e = .returned (.bool true) ∧ Below w.heap.size w w' := by
  have NO := Hid.intro (fun w => onew_no r a m h w)
  have B0 := Hid.intro ((Below.refl _ w).alloc (Nat.le_refl _) (.cells #[.int .i64 r, .int .i64 a, .int .i64 m] 23))
  have b0 := Hid.intro (heap_alloc_new w (.cells #[.int .i64 r, .int .i64 a, .int .i64 m] 23))
  have W0 := Hid.intro (hW.below B0.out)
  have HR := Hid.intro hr
  clear h hW hr
  go_enter Tryd.func8, Tryd.ntmps8
  go_wp2_with fail
  refine (alive9_any _ W0.out).mono ?_
  rintro e w1 ⟨rfl, B1⟩
  have b1 := (B1.block _ (lt_of_heap b0.out)).trans b0.out
  have B1H := Hid.intro (B0.out.trans (B1.mono B0.out.size))
  have c0 : w1.cell? ⟨w.heap.size, 0, none⟩ = some (.int .i64 r) := by rw [cell_of_row _ _ 0 _ _ _ b1]; rfl
  have c1 : w1.cell? ⟨w.heap.size, 1, none⟩ = some (.int .i64 a) := by rw [cell_of_row _ _ 1 _ _ _ b1]; rfl
  have c2 : w1.cell? ⟨w.heap.size, 2, none⟩ = some (.int .i64 m) := by rw [cell_of_row _ _ 2 _ _ _ b1]; rfl
  clear b1 B1 B0 W0 b0
  go_wp2_with fail
  refine (NO.out w1).mono ?_
  rintro e w2 ⟨rfl, B2⟩
  have B2H := Hid.intro (B1H.out.trans (B2.mono B1H.out.size))
  have FW := Hid.intro (few9_any ao cap l w2 (acts_below HR.out B2H.out))
  clear B2 B1H NO c0 c1 c2
  generalize l.length = n at *
  go_wp2_with fail
  refine FW.out.mono ?_
  rintro e w3 ⟨rfl, B3⟩
  have B3H := Hid.intro (B2H.out.trans (B3.mono B2H.out.size))
  clear B3 FW
  generalize decide (few9B l) = fb
  cases fb with
  | false =>
    go_wp2
    go_ret
    exact ⟨rfl, B3H.out⟩
  | true =>
    go_wp2
    go_ret
    exact ⟨rfl, B3H.out⟩

open Classical in
set_option maxRecDepth 100000 in
set_option maxHeartbeats 2000000 in
theorem walk_near (r a m : Nat) (ao : Option Addr) (cap : Nat) (l : List Act9) (hmx : l.length ≤ maxLen) (w : World) (hr : ActsAt9 w ao l) (hW : Wid w) (h : mayR r a m = true) :
    Calls Tryd.prog 8 #[Rm r a m, .slice ao l.length cap] w fun e w' => e = .returned (.bool true) ∧ Below w.heap.size w w' := by
  have NW := Hid.intro (fun w => onew_yes r a m h w)
  have hb := mayR_true h
  have B0 := Hid.intro ((Below.refl _ w).alloc (Nat.le_refl _) (.cells #[.int .i64 (r : Int), .int .i64 (a : Int), .int .i64 (m : Int)] 23))
  have b0 := Hid.intro (heap_alloc_new w (.cells #[.int .i64 (r : Int), .int .i64 (a : Int), .int .i64 (m : Int)] 23))
  have W0 := Hid.intro (hW.below B0.out)
  have hsz := World.size_alloc w (.cells #[.int .i64 (r : Int), .int .i64 (a : Int), .int .i64 (m : Int)] 23)
  have HR := Hid.intro hr
  obtain ⟨LL, hLL⟩ : ∃ LL, LL = l.length := ⟨_, rfl⟩
  have HLL := Hid.intro hLL
  have FWA := Hid.intro (fun (W : World) (q : ActsAt9 W ao l) => few9_any ao cap l W q)
  rw [← hLL] at hmx FWA ⊢
  clear h hW hr hLL
  go_enter Tryd.func8, Tryd.ntmps8
  go_wp2_with fail
  refine (alive9_any _ W0.out).mono ?_
  rintro e w1 ⟨rfl, B1⟩
  have b1 := (B1.block _ (lt_of_heap b0.out)).trans b0.out
  have W1 := Hid.intro (W0.out.below B1)
  have B1H := Hid.intro (B0.out.trans (B1.mono B0.out.size))
  have S1 : Hid (w.heap.size < w1.heap.size) := by have := B1.size; show w.heap.size < w1.heap.size; omega
  have c0 : w1.cell? ⟨w.heap.size, 0, none⟩ = some (.int .i64 (r : Int)) := by rw [cell_of_row _ _ 0 _ _ _ b1]; rfl
  have c1 : w1.cell? ⟨w.heap.size, 1, none⟩ = some (.int .i64 (a : Int)) := by rw [cell_of_row _ _ 1 _ _ _ b1]; rfl
  have c2 : w1.cell? ⟨w.heap.size, 2, none⟩ = some (.int .i64 (m : Int)) := by rw [cell_of_row _ _ 2 _ _ _ b1]; rfl
  clear b1 B1 B0 W0 b0 hsz
  go_wp2_with fail
  refine (NW.out w1).mono ?_
  rintro e w2 ⟨b, F, rfl, hS, hF, B2⟩
  have L2 := Hid.intro (tl_new hS hF B2)
  have W2 := Hid.intro (W1.out.below B2)
  have Z2 : Hid ((fun k => k < w1.heap.size) 0) := by obtain ⟨t, fr, q⟩ := W1.out; exact lt_of_heap q
  have BW2 := Hid.intro (B1H.out.trans (B2.mono B1H.out.size))
  have RD2 := Hid.intro (acts_below HR.out BW2.out)
  have FW := Hid.intro (FWA.out w2 RD2.out)
  clear hS hF B2 NW c0 c1 c2 W1 FWA
  go_wp2_with fail
  refine FW.out.mono ?_
  rintro e w3 ⟨rfl, B3⟩
  have L3 := Hid.intro (L2.out.below B3)
  have BW3 := Hid.intro (BW2.out.trans (B3.mono BW2.out.size))
  clear B3 FW
  rcases Classical.em (few9B l) with hfb | hfb
  case inr =>
    rw [decide_eq_false hfb]
    clear hfb
    go_wp2
    go_ret
    exact ⟨rfl, BW3.out⟩
  rw [decide_eq_true hfb]
  have HFB := Hid.intro hfb
  have h80 : LL ≤ 80 := by rw [HLL.out]; exact hfb.1
  clear hfb
  go_wp2_with fail
  go_loopw [6] (fun i wr => ∃ (k : Nat) (x : Tab), k ≤ LL ∧ i = .int .i64 k ∧ TL (fun k => k < w1.heap.size) w2 wr b x) (fun i _ => LL - (intOf i).toNat)
  case atStart => exact ⟨0, _, by omega, rfl, L3.out⟩
  case round =>
    obtain ⟨k, x, hk, rfl, hL⟩ := hrel
    have HL := Hid.intro hL
    by_cases hlt : k < LL
    · have k0 : (0 : Int) ≤ (k : Int) := by omega
      have k1 : (k : Int) < (LL : Int) := by omega
      have hkb : k < l.length := by rw [← HLL.out]; exact hlt
      obtain ⟨bb, off, rfl, hcc⟩ := RD2.out (by omega)
      have hbl : bb < w.heap.size := by
        obtain ⟨b', off', e', hc⟩ := HR.out (by omega)
        cases e'
        exact cell_lt (hc k hkb).1
      have FWK : few9P l[k] := HFB.out.2 _ (List.getElem_mem hkb)
      obtain ⟨x0, x1, x2, x3, x4⟩ := hcc k hkb
      generalize l[k] = A at x0 x1 x2 x3 x4 FWK
      obtain ⟨kd, ⟨tx, an, rs, la⟩⟩ := A
      have hla : 0 ≤ la ∧ la ≤ 1099511627776 := FWK
      dsimp only at x0 x1 x2 x3 x4
      have hbF : bb < w1.heap.size := Nat.lt_trans hbl S1.out
      have y0 := hL.cell x0 hbF
      have y1 := hL.cell x1 hbF
      have y2 := hL.cell x2 hbF
      have y3 := hL.cell x3 hbF
      have y4 := hL.cell x4 hbF
      have BA := (Below.refl _ wr).alloc (Nat.le_refl _) (.cells #[.int .i64 tx, .int .i64 an, .int .i64 rs, .int .i64 la] 41)
      have bA := heap_alloc_new wr (.cells #[.int .i64 tx, .int .i64 an, .int .i64 rs, .int .i64 la] 41)
      have LA := HL.out.grow BA
      have WA := (HL.out.wid W2.out Z2.out).below BA
      have T1 := Hid.intro (tlhear tx an rs la (by omega) LA WA)
      have RB : Hid (∀ w4 y, TL (fun k => k < w1.heap.size ∨ (wr.heap.size ≤ k ∧ k < (wr.alloc (.cells #[.int .i64 tx, .int .i64 an, .int .i64 rs, .int .i64 la] 41)).heap.size)) (wr.alloc (.cells #[.int .i64 tx, .int .i64 an, .int .i64 rs, .int .i64 la] 41)) w4 b y → TL (fun k => k < w1.heap.size) w2 w4 b y) := fun w4 y q => HL.out.rebase BA q (fun _ q => .inl q)
      have sA : wr.heap.size < (wr.alloc (.cells #[.int .i64 tx, .int .i64 an, .int .i64 rs, .int .i64 la] 41)).heap.size := lt_of_heap bA
      have CK := Hid.intro ((BA.cell (cell_lt y0)).trans y0)
      have CL : Hid ((wr.alloc (.cells #[.int .i64 tx, .int .i64 an, .int .i64 rs, .int .i64 la] 41)).cell? ⟨wr.heap.size, 3, none⟩ = some (.int .i64 la)) := by rw [Hid, cell_of_row _ _ 3 _ _ _ bA]; rfl
      have SA := Hid.intro sA
      clear x0 x1 x2 x3 x4 FWK hcc hL BA bA LA WA sA
      go_wp2_with fail
      refine T1.out.mono ?_
      rintro e w4 ⟨rfl, L4⟩
      have R4 := Hid.intro (RB.out _ _ L4)
      have L4H := Hid.intro L4
      have d0 := L4.cell CK.out (.inl hbF)
      have d3 := L4.cell CL.out (.inr ⟨Nat.le_refl _, SA.out⟩)
      clear T1 L4 y0 y1 y2 y3 y4 CK CL
      by_cases hkd : kd = 0
      · subst hkd
        go_wp2
        go_roundw
        case rel => exact ⟨k + 1, _, by omega, by go_num, R4.out⟩
        case measure => simp [intOf]; omega
      have hkd' : (kd == 0) = false := by simpa using hkd
      have T2 := Hid.intro (tllist L4H.out)
      obtain ⟨y, hy⟩ : ∃ y, y = hearX x tx an rs la := ⟨_, rfl⟩
      rw [← hy] at T2 L4H
      have OK := Hid.intro L4H.out.ok
      clear hy R4 hkd
      go_wp2_with fail
      refine T2.out.mono ?_
      rintro e w5 ⟨v5, rfl, s5, B5⟩
      obtain ⟨a5, c5, e5⟩ := s5.len
      subst e5
      have L5 := L4H.out.below B5
      have g3 := (B5.cell (cell_lt d3)).trans d3
      have T3 := Hid.intro (tlforget la (by omega) L5)
      have FL := Hid.intro (fg_len y la)
      obtain ⟨n5, hn5⟩ : ∃ n5, n5 = y.l.length := ⟨_, rfl⟩
      rw [← hn5] at FL ⊢
      have hn8 : n5 ≤ 8 := by have := OK.out.few; have := mayR_true OK.out.may; omega
      clear T2 s5 B5 L5 d0 d3 hn5 L4H
      go_wp2_with fail
      refine T3.out.mono ?_
      rintro e w6 ⟨v6, G, rfl, hG, n6, K6, L6⟩
      have R6 := Hid.intro (RB.out _ _ L6)
      obtain ⟨a6, c6, e6⟩ := n6.len
      subst e6
      have T4 := Hid.intro (tllist K6)
      have K6H := Hid.intro K6
      have N6 := Hid.intro n6
      obtain ⟨GL, hGL⟩ : ∃ GL, GL = (goneX y la).length := ⟨_, rfl⟩
      have HGL := Hid.intro hGL
      rw [← hGL] at FL ⊢
      clear T3 hG n6 K6 L6 g3 hGL RB
      go_wp2_with fail
      refine T4.out.mono ?_
      rintro e w7 ⟨v7, rfl, s7, B7⟩
      obtain ⟨a7, c7, e7⟩ := s7.len
      subst e7
      have K7 := Hid.intro (K6H.out.below B7)
      have N7 := Hid.intro (N6.out.below B7)
      have R7 := Hid.intro (R6.out.below B7)
      obtain ⟨n7, hn7⟩ : ∃ n7, n7 = (forgetX y la).l.length := ⟨_, rfl⟩
      rw [← hn7] at FL ⊢
      have fl := FL.out
      have fl2 : ((n7 : Int) + (GL : Int) == (n5 : Int)) = true := by rw [beq_iff_eq]; omega
      have fl3 : (n7 : Int) + (GL : Int) = (n5 : Int) := by omega
      clear T4 s7 B7 K6H N6 R6 hn7 FL
      have OUT : Hid (∀ t, (ht : t < GL) → homeB (forgetX y la) ((goneX y la)[t]'(by rw [← HGL.out]; exact ht)) = false) := fun t ht => fg_home OK.out la (List.getElem_mem _)
      have hg8 : GL ≤ 8 := by omega
      go_wp2_with fail
      clear fl fl2 fl3
      go_loopw [10] (fun j wq => ∃ t : Nat, t ≤ GL ∧ j = .int .i64 t ∧ Below w7.heap.size w7 wq) (fun j _ => GL - (intOf j).toNat)
      case atStart => exact ⟨0, by omega, rfl, Below.refl _ _⟩
      case round =>
        obtain ⟨t, ht, rfl, hB⟩ := hrel
        have HB := Hid.intro hB
        by_cases htl : t < GL
        · have t0 : (0 : Int) ≤ (t : Int) := by omega
          have t1 : (t : Int) < (GL : Int) := by omega
          have htg : t < (goneX y la).length := by rw [← HGL.out]; exact htl
          obtain ⟨a8, c8, e8, hc8⟩ := N7.out
          obtain ⟨pb, po, ha8, _, hq⟩ := hc8 (by omega)
          cases e8
          subst ha8
          have cg := cell9 hB (hq t htg)
          have T5 := tlhome ((goneX y la)[t]) (K7.out.below hB)
          rw [OUT.out t htl] at T5
          generalize (goneX y la)[t] = g at cg T5
          generalize homeA (forgetX y la) g = hh at T5
          have T5H := Hid.intro T5
          clear hB hq hc8 T5
          go_wp2_with fail
          refine T5H.out.mono ?_
          rintro e w8 ⟨rfl, B8⟩
          have B8H := Hid.intro (HB.out.trans (B8.mono HB.out.size))
          clear B8 T5H cg
          go_wp2
          go_roundw
          case rel => exact ⟨t + 1, by omega, by go_num, B8H.out⟩
          case measure => simp [intOf]; omega
        · have t1 : ¬ (t : Int) < (GL : Int) := by omega
          have R8 := Hid.intro (R7.out.below hB)
          clear hB
          go_wp2
          go_roundw
          case rel => exact ⟨k + 1, _, by omega, by go_num, R8.out⟩
          case measure => simp [intOf]; omega
    · obtain rfl : k = LL := by omega
      have k1 : ¬ (k : Int) < (k : Int) := by omega
      have FIN := Hid.intro (BW2.out.trans (hL.out (B := w.heap.size) BW2.out.size (fun k hk => Nat.lt_trans hk S1.out)))
      clear hL
      go_wp2
      go_ret
      exact ⟨rfl, FIN.out⟩

theorem walk (r a m : Int) (ao : Option Addr) (len cap : Nat) (l : List Act9) (w : World) (_ : (Lit.int .i64 r).wf = true ∧ (Lit.int .i64 a).wf = true ∧ (Lit.int .i64 m).wf = true) (hz : l.length = len ∧ ActsAt9 w ao l ∧ len ≤ maxLen) (hW : Wid w) :
    Calls Tryd.prog 8 #[Rm r a m, .slice ao len cap] w fun e w' => e = .returned (.bool true) ∧ Below w.heap.size w w' := by
  obtain ⟨hl, hr, hmx⟩ := hz
  subst hl
  cases h : mayR r a m with
  | false => exact walk_nil r a m ao cap l w hr hW h
  | true =>
    have hb := mayR_true h
    obtain ⟨R, rfl⟩ := Int.eq_ofNat_of_zero_le (show 0 ≤ r by omega)
    obtain ⟨A, rfl⟩ := Int.eq_ofNat_of_zero_le (show 0 ≤ a by omega)
    obtain ⟨Mg, rfl⟩ := Int.eq_ofNat_of_zero_le (show 0 ≤ m by omega)
    exact walk_near R A Mg ao cap l hmx w hr hW h

set_option maxRecDepth 100000 in
theorem lifted (os : Os) (started : os.Started) (H : Type) (enc : TypeId × Value → H) :
    ReturnsInHanded {} Tryd.checked os 8 .any (fun w args => (Rows.roamForgetsSpec.pre enc Tryd.prog Tryd.f8 [] false w args ∧ laidMetH Tryd.prog LW w) ∧ sizedMet enc Tryd.prog Tryd.f8 (OpenSpec.ofChange Rows.roamForgetsSpec) false w args) (Rows.roamForgetsSpec.post enc Tryd.prog Tryd.f8 false true false false) := by
  refine returnsInHanded_of_change_and (C := Tryd.checked) (X := fun w _ => laidMetH Tryd.prog LW w) (fun _ _ _ hh h => h.of_heap hh) own started (by kernel_rfl) Tryd.func8
    (ChangeSpec.witness_shaped (enc := enc) (C := Tryd.checked) (os := os) (X := fun w _ => laidMetH Tryd.prog LW w) false (World.doorLaid Tryd.prog 400 os) #[.agg #[.int .i64 0, .int .i64 0, .int .i64 0], .slice none 0 0] 8 rfl (World.shaped_of_RefB (by kernel_rfl) (by kernel_rfl)) (by kernel_rfl) (by kernel_rfl) (by kernel_rfl) (door_met os _)) ?_
  intro W base args ds gs before hval0 hW _ _ hL _
  have hval : ∀ (j : Nat) t v, Tryd.f8.params[j]? = some t → args[j]? = some v → Value.okWide Tryd.prog W .any base t v := hval0
  have hW' := hW
  obtain ⟨p, q, hA0, hV, rfl, hfz, hnd⟩ := hW
  have hA : DataW.TrodAll enc Tryd.prog W 0 (fun _ => true) true Tryd.f8.params.toList args.toList ds p := hA0
  rw [Tryd.params8] at hA hval
  obtain ⟨v0, vs0, d0, ds0, p0, q0, hargs, rfl, rfl, h0, r0⟩ := trodAll_cons hA
  obtain ⟨v1, vs1, d1, ds1, p1, q1, rfl, rfl, rfl, h1, r1⟩ := trodAll_cons r0
  obtain ⟨rfl, rfl, rfl⟩ := trodAll_nil r1
  obtain rfl : args = #[v0, v1] := by cases args; simp_all
  obtain ⟨rfl, rfl⟩ := trodVars_none hV
  have k0 := h0
  have lt0 : ∀ x ∈ p0, x.block < W.heap.size := by obtain ⟨m, hm⟩ := k0; exact DataW.trod_lt m _ _ _ hm
  obtain ⟨kc0, nc0, sc0, rfl, w0⟩ := open_roam (hval 0 23 v0 rfl rfl) h0
  have k1 := h1
  have lt1 : ∀ x ∈ p1, x.block < W.heap.size := by obtain ⟨m, hm⟩ := k1; exact DataW.trod_lt m _ _ _ hm
  obtain ⟨a1, len1, cap1, rfl⟩ := okWide_slice Tryd.underlying24 (hval 1 24 v1 rfl rfl)
  obtain ⟨z1, w1⟩ := open_acts h1
  clear hA0 hval0
  refine (walk kc0 nc0 sc0 a1 len1 cap1 z1 W w0 w1 (laid_fact hL)).mono fun e W' ⟨he, bel⟩ => ?_
  subst he
  exact ⟨_, rfl, _, _, _, [], _, [], hW', trodAll_mk1 (shut_bool Tryd.underlying4 _), (trodAll_cons_mk (Below.trod laidOut (by kernel_rfl) (of_decide_eq_true (by kernel_rfl)) k0 bel lt0) (trodAll_cons_mk (Below.trod laidOut (by kernel_rfl) (of_decide_eq_true (by kernel_rfl)) k1 bel lt1) trodAll_mk0)), rfl, bel.frame _, fun h => by cases h⟩

theorem over : Rows.roamForgetsRow.holds Tryd.pinned (OpenSpec.ofChange Rows.roamForgetsSpec) :=
  OpenClaim.holds_of_wide 8 Tryd.f8 rfl rfl rfl rfl rfl rfl rfl ⟨rfl, rfl, rfl, rfl, rfl⟩ rfl rfl rfl rfl rfl (by kernel_rfl) Tryd.func8 (by kernel_rfl)
    (of_decide_eq_true (by kernel_rfl)) (by unfold Func.isWrapper; first | (rw [if_pos (by decide +kernel)]; kernel_rfl) | (rw [if_neg (by decide +kernel)]; exact ⟨rfl, rfl⟩))
    (fun os started H enc _ => lifted os started H enc)

end Go.Proofs.YtohedeeajcdjcaaDoor.LRoamForgets

namespace Go.Proofs.YtohedeeajcdjcaaDoor
theorem roamForgets_holds : Rows.RoamForgetsCardSaid :=
  Claim7.holds_tied_plain_at .later [] [.data] true (true, "25c53ae29fda08d9d042b4c4856af7eab08bb405629bf16a006be57b24e6dc14") false
    LRoamForgets.over (fun _ h => by cases h) (by kernel_rfl) (fun _ h => by cases h) roamForgets_row_tie rfl ⟨rfl, rfl⟩ (by kernel_rfl) rfl
    (fun f fn hf hfn => by
      obtain rfl : f = 8 := Option.some.inj ((show Tryd.prog.funcNamed "gurney/gurneylaw09.RoamForgets" = some 8 by kernel_rfl).symm.trans hf) |>.symm
      obtain rfl : fn = Tryd.f8 := (Option.some.inj (Tryd.func8.symm.trans hfn)).symm
      exact ⟨by kernel_rfl, fun j t ht => by
        rw [Tryd.params8] at ht
        have hm : t ∈ [23, 24] := by simpa using Array.mem_of_getElem? ht
        have hall : ([23, 24].all fun u => !Tryd.prog.wantsStandIn u) = true := by kernel_rfl
        exact (show Tryd.prog.wantsStandIn t = false by simpa using List.all_eq_true.1 hall t hm)⟩)
    (by kernel_rfl)
#print axioms roamForgets_holds
end Go.Proofs.YtohedeeajcdjcaaDoor
