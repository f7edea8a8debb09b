/- The statement RoamOnce: no transmitter is followed twice, nor more than there is room for, and none moves unless it is told. -/
import Derived.Test.YtohedeeajcdjcaaDoorRoAlive
import Derived.Test.YtohedeeajcdjcaaDoorRoArg
import Derived.Test.YtohedeeajcdjcaaDoorRoFew9
import Derived.Test.YtohedeeajcdjcaaDoorFrmLaid
import Derived.Deep.RegionHeld3
namespace Go.Proofs.YtohedeeajcdjcaaDoor
open Go.ChangeShapes Go.WideShapes Go.ChangeAt Go.RowKit Go.Joins
open Bt

namespace LRoamOnce

theorem find_map (l : List Sen) (tx : Int) : findT l tx = (l.map (fun s => s.tx)).findIdx? (fun z => decide (z = tx)) := by
  unfold findT
  rw [List.findIdx?_map]
  rfl

theorem hearOut_two {m : Nat} {s : Sen} {ant rssi : Int} : hearOut m s ant rssi = 2 ∨ hearOut m s ant rssi = 0 := by
  unfold hearOut
  split
  · exact .inl rfl
  · exact .inr rfl

/-- What becomes of a home. -/
theorem once (x : Tab) (tx ant rssi now : Int) :
    (homeB x tx = true ∧ hearT x tx ant rssi = 2 ∧ homeA (hearX x tx ant rssi now) tx = ant) ∨
    (homeB x tx = true ∧ hearT x tx ant rssi = 0 ∧ homeA (hearX x tx ant rssi now) tx = homeA x tx) ∨
    (homeB x tx = true ∧ hearT x tx ant rssi = 3 ∧ homeA (hearX x tx ant rssi now) tx = homeA x tx) ∨
    (homeB x tx = false ∧ hearT x tx ant rssi = 3) ∨
    (homeB x tx = false ∧ hearT x tx ant rssi = 1 ∧ homeA (hearX x tx ant rssi now) tx = ant ∧ homeB (hearX x tx ant rssi now) tx = true) := by
  cases hx : isRx tx ant rssi with
  | false =>
    have h1 : hearT x tx ant rssi = 3 := by unfold hearT; rw [hx]; rfl
    have h2 : hearX x tx ant rssi now = x := by unfold hearX; rw [hx]; rfl
    rw [h1, h2]
    cases homeB x tx with
    | true => exact .inr (.inr (.inl ⟨rfl, rfl, rfl⟩))
    | false => exact .inr (.inr (.inr (.inl ⟨rfl, rfl⟩)))
  | true =>
    cases hf : findT x.l tx with
    | some i =>
      obtain ⟨hi, ht, _⟩ := findT_some hf
      have hB : homeB x tx = true := by unfold homeB; rw [hf]; rfl
      have hg : x.l.getD i ⟨0, 0, 0, 0⟩ = x.l[i] := by simp [hi]
      have hT : hearT x tx ant rssi = hearOut x.margin x.l[i] ant rssi := by unfold hearT; rw [if_pos hx, hf, ← hg]
      have hX : hearX x tx ant rssi now = { x with l := x.l.set i (hearS x.margin x.l[i] ant rssi now) } := by unfold hearX; rw [if_pos hx, hf, ← hg]
      have hf2 : findT (x.l.set i (hearS x.margin x.l[i] ant rssi now)) tx = some i := by
        rw [find_map, set_tx _ _ _ (fun _ => (hearS_tx _ _ _ _ _).1), ← find_map, hf]
      have hA2 : homeA (hearX x tx ant rssi now) tx = (hearS x.margin x.l[i] ant rssi now).ant := by
        rw [hX]
        unfold homeA
        simp only [hf2]
        rw [List.getD_eq_getElem?_getD, List.getElem?_set_self hi]
        rfl
      have hA : homeA x tx = x.l[i].ant := by
        unfold homeA
        simp only [hf]
        rw [hg]
      rw [hT, hA2, hA, hB]
      rcases hearOut_two (m := x.margin) (s := x.l[i]) (ant := ant) (rssi := rssi) with q | q
      · refine .inl ⟨rfl, q, ?_⟩
        unfold hearS
        rw [if_pos (.inl q)]
      · refine .inr (.inl ⟨rfl, q, ?_⟩)
        unfold hearS
        rw [q]
        split
        · rename_i z
          rcases z with z | z
          · cases z
          · exact z.symm
        · rfl
    | none =>
      have hB : homeB x tx = false := by unfold homeB; rw [hf]; rfl
      by_cases hr : x.l.length < x.room
      · have hT : hearT x tx ant rssi = 1 := by unfold hearT; rw [if_pos hx, hf]; exact if_pos hr
        have hX : hearX x tx ant rssi now = { x with l := x.l ++ [⟨tx, ant, rssi, now⟩] } := by unfold hearX; rw [if_pos hx, hf]; exact if_pos hr
        have hf2 : findT (x.l ++ [⟨tx, ant, rssi, now⟩]) tx = some x.l.length := by
          unfold findT at hf ⊢
          rw [List.findIdx?_append, hf]
          simp
        refine .inr (.inr (.inr (.inr ⟨hB, hT, ?_, ?_⟩)))
        · rw [hX]
          unfold homeA
          simp only [hf2]
          simp
        · rw [hX]
          unfold homeB
          simp only [hf2]
          rfl
      · have hT : hearT x tx ant rssi = 3 := by unfold hearT; rw [if_pos hx, hf]; exact if_neg hr
        exact .inr (.inr (.inr (.inl ⟨hB, hT⟩)))

theorem hear_room (x : Tab) (tx ant rssi now : Int) : (hearX x tx ant rssi now).room = x.room := by
  unfold hearX
  split
  · split
    · rfl
    · split <;> rfl
  · rfl

theorem apart {x : Tab} (h : x.Ok) {i j : Nat} (hi : i < x.l.length) (hj : j < x.l.length) (hij : i < j) : ¬ x.l[i].tx = x.l[j].tx := by
  have hn := h.once
  rw [List.Nodup, List.pairwise_iff_getElem] at hn
  have := hn i j (by simpa using hi) (by simpa using hj) hij
  simpa using this

theorem acts_below {w w' : World} {ao : Option Addr} {l : List Act9} (h : ActsAt9 w ao l) (hb : Below w.heap.size w w') : ActsAt9 w' ao l := fun h0 => by
  obtain ⟨b, off, e, hc⟩ := h h0
  exact ⟨b, off, e, fun i hi => by
    obtain ⟨x0, x1, x2, x3, x4⟩ := hc i hi
    exact ⟨cell9 hb x0, cell9 hb x1, cell9 hb x2, cell9 hb x3, cell9 hb x4⟩⟩

open Classical in
set_option maxRecDepth 100000 in
theorem walk_nil (r a m : Int) (ao : Option Addr) (cap : Nat) (l : List Act9) (w : World) (hr : ActsAt9 w ao l) (hW : Wid w) (h : mayR r a m = false) :
    Calls Tryd.prog 4 #[Rm r a m, .slice ao l.length cap] w fun e w' => e = .returned (.bool true) ∧ Below w.heap.size w w' := by
  have NO := Hid.intro (fun w => onew_no r a m h w)
  have B0 := Hid.intro ((Below.refl _ w).alloc (Nat.le_refl _) (.cells #[.int .i64 r, .int .i64 a, .int .i64 m] 23))
  have b0 := Hid.intro (heap_alloc_new w (.cells #[.int .i64 r, .int .i64 a, .int .i64 m] 23))
  have W0 := Hid.intro (hW.below B0.out)
  have HR := Hid.intro hr
  clear h hW hr
  go_enter Tryd.func4, Tryd.ntmps4
  go_wp2_with fail
  refine (alive9_any _ W0.out).mono ?_
  rintro e w1 ⟨rfl, B1⟩
  have b1 := (B1.block _ (lt_of_heap b0.out)).trans b0.out
  have B1H := Hid.intro (B0.out.trans (B1.mono B0.out.size))
  have c0 : w1.cell? ⟨w.heap.size, 0, none⟩ = some (.int .i64 r) := by rw [cell_of_row _ _ 0 _ _ _ b1]; rfl
  have c1 : w1.cell? ⟨w.heap.size, 1, none⟩ = some (.int .i64 a) := by rw [cell_of_row _ _ 1 _ _ _ b1]; rfl
  have c2 : w1.cell? ⟨w.heap.size, 2, none⟩ = some (.int .i64 m) := by rw [cell_of_row _ _ 2 _ _ _ b1]; rfl
  clear b1 B1 B0 W0 b0
  go_wp2_with fail
  refine (NO.out w1).mono ?_
  rintro e w2 ⟨rfl, B2⟩
  have B2H := Hid.intro (B1H.out.trans (B2.mono B1H.out.size))
  have FW := Hid.intro (few9_any ao cap l w2 (acts_below HR.out B2H.out))
  clear B2 B1H NO c0 c1 c2
  generalize l.length = n at *
  go_wp2_with fail
  refine FW.out.mono ?_
  rintro e w3 ⟨rfl, B3⟩
  have B3H := Hid.intro (B2H.out.trans (B3.mono B2H.out.size))
  clear B3 FW
  generalize decide (few9B l) = fb
  cases fb with
  | false =>
    go_wp2
    go_ret
    exact ⟨rfl, B3H.out⟩
  | true =>
    go_wp2
    go_ret
    exact ⟨rfl, B3H.out⟩

open Classical in
set_option maxRecDepth 100000 in
set_option maxHeartbeats 2000000 in
theorem walk_near (r a m : Nat) (ao : Option Addr) (cap : Nat) (l : List Act9) (hmx : l.length ≤ maxLen) (w : World) (hr : ActsAt9 w ao l) (hW : Wid w) (h : mayR r a m = true) :
    Calls Tryd.prog 4 #[Rm r a m, .slice ao l.length cap] w fun e w' => e = .returned (.bool true) ∧ Below w.heap.size w w' := by
  have NW := Hid.intro (fun w => onew_yes r a m h w)
  have hb := mayR_true h
  have B0 := Hid.intro ((Below.refl _ w).alloc (Nat.le_refl _) (.cells #[.int .i64 (r : Int), .int .i64 (a : Int), .int .i64 (m : Int)] 23))
  have b0 := Hid.intro (heap_alloc_new w (.cells #[.int .i64 (r : Int), .int .i64 (a : Int), .int .i64 (m : Int)] 23))
  have W0 := Hid.intro (hW.below B0.out)
  have hsz := World.size_alloc w (.cells #[.int .i64 (r : Int), .int .i64 (a : Int), .int .i64 (m : Int)] 23)
  have HR := Hid.intro hr
  obtain ⟨LL, hLL⟩ : ∃ LL, LL = l.length := ⟨_, rfl⟩
  have HLL := Hid.intro hLL
  have FWA := Hid.intro (fun (W : World) (q : ActsAt9 W ao l) => few9_any ao cap l W q)
  rw [← hLL] at hmx FWA ⊢
  clear h hW hr hLL
  go_enter Tryd.func4, Tryd.ntmps4
  go_wp2_with fail
  refine (alive9_any _ W0.out).mono ?_
  rintro e w1 ⟨rfl, B1⟩
  have b1 := (B1.block _ (lt_of_heap b0.out)).trans b0.out
  have W1 := Hid.intro (W0.out.below B1)
  have B1H := Hid.intro (B0.out.trans (B1.mono B0.out.size))
  have S1 : Hid (w.heap.size < w1.heap.size) := by have := B1.size; show w.heap.size < w1.heap.size; omega
  have c0 : w1.cell? ⟨w.heap.size, 0, none⟩ = some (.int .i64 (r : Int)) := by rw [cell_of_row _ _ 0 _ _ _ b1]; rfl
  have c1 : w1.cell? ⟨w.heap.size, 1, none⟩ = some (.int .i64 (a : Int)) := by rw [cell_of_row _ _ 1 _ _ _ b1]; rfl
  have c2 : w1.cell? ⟨w.heap.size, 2, none⟩ = some (.int .i64 (m : Int)) := by rw [cell_of_row _ _ 2 _ _ _ b1]; rfl
  clear b1 B1 B0 W0 b0 hsz
  go_wp2_with fail
  refine (NW.out w1).mono ?_
  rintro e w2 ⟨b, F, rfl, hS, hF, B2⟩
  have L2 := Hid.intro (tl_new hS hF B2)
  have W2 := Hid.intro (W1.out.below B2)
  have Z2 : Hid ((fun k => k < w1.heap.size) 0) := by obtain ⟨t, fr, q⟩ := W1.out; exact lt_of_heap q
  have BW2 := Hid.intro (B1H.out.trans (B2.mono B1H.out.size))
  have RD2 := Hid.intro (acts_below HR.out BW2.out)
  have C0 : Hid (w2.cell? ⟨w.heap.size, 0, none⟩ = some (.int .i64 (r : Int))) := (B2.cell (p := ⟨w.heap.size, 0, none⟩) (cell_lt c0)).trans c0
  have FW := Hid.intro (FWA.out w2 RD2.out)
  clear hS hF B2 NW c0 c1 c2 W1 FWA
  go_wp2_with fail
  refine FW.out.mono ?_
  rintro e w3 ⟨rfl, B3⟩
  have L3 := Hid.intro (L2.out.below B3)
  have BW3 := Hid.intro (BW2.out.trans (B3.mono BW2.out.size))
  clear B3 FW
  rcases Classical.em (few9B l) with hfb | hfb
  case inr =>
    rw [decide_eq_false hfb]
    clear hfb
    go_wp2
    go_ret
    exact ⟨rfl, BW3.out⟩
  rw [decide_eq_true hfb]
  have HFB := Hid.intro hfb
  have h80 : LL ≤ 80 := by rw [HLL.out]; exact hfb.1
  clear hfb
  go_wp2_with fail
  go_loopw [6] (fun i wr => ∃ (k : Nat) (x : Tab), k ≤ LL ∧ i = .int .i64 k ∧ x.room = r ∧ TL (fun k => k < w1.heap.size) w2 wr b x) (fun i _ => LL - (intOf i).toNat)
  case atStart => exact ⟨0, _, by omega, rfl, rfl, L3.out⟩
  case round =>
    obtain ⟨k, x, hk, rfl, hxr, hL⟩ := hrel
    have HXR := Hid.intro hxr
    clear hxr
    have HL := Hid.intro hL
    by_cases hlt : k < LL
    · have k0 : (0 : Int) ≤ (k : Int) := by omega
      have k1 : (k : Int) < (LL : Int) := by omega
      have hkb : k < l.length := by rw [← HLL.out]; exact hlt
      obtain ⟨bb, off, rfl, hcc⟩ := RD2.out (by omega)
      have hbl : bb < w.heap.size := by
        obtain ⟨b', off', e', hc⟩ := HR.out (by omega)
        cases e'
        exact cell_lt (hc k hkb).1
      have FWK : few9P l[k] := HFB.out.2 _ (List.getElem_mem hkb)
      obtain ⟨x0, x1, x2, x3, x4⟩ := hcc k hkb
      generalize l[k] = A at x0 x1 x2 x3 x4 FWK
      obtain ⟨kd, ⟨tx, an, rs, la⟩⟩ := A
      have hla : 0 ≤ la ∧ la ≤ 1099511627776 := FWK
      dsimp only at x0 x1 x2 x3 x4
      have hbF : bb < w1.heap.size := Nat.lt_trans hbl S1.out
      have y0 := hL.cell x0 hbF
      have y1 := hL.cell x1 hbF
      have y2 := hL.cell x2 hbF
      have y3 := hL.cell x3 hbF
      have y4 := hL.cell x4 hbF
      have BA := (Below.refl _ wr).alloc (Nat.le_refl _) (.cells #[.int .i64 tx, .int .i64 an, .int .i64 rs, .int .i64 la] 41)
      have bA := heap_alloc_new wr (.cells #[.int .i64 tx, .int .i64 an, .int .i64 rs, .int .i64 la] 41)
      have LA := HL.out.grow BA
      have WA := (HL.out.wid W2.out Z2.out).below BA
      have T1 := Hid.intro (tlhome tx LA)
      have LAH := Hid.intro LA
      have WAH := Hid.intro WA
      have RB : Hid (∀ w4 y, TL (fun k => k < w1.heap.size ∨ (wr.heap.size ≤ k ∧ k < (wr.alloc (.cells #[.int .i64 tx, .int .i64 an, .int .i64 rs, .int .i64 la] 41)).heap.size)) (wr.alloc (.cells #[.int .i64 tx, .int .i64 an, .int .i64 rs, .int .i64 la] 41)) w4 b y → TL (fun k => k < w1.heap.size) w2 w4 b y) := fun w4 y q => HL.out.rebase BA q (fun _ q => .inl q)
      have sA : wr.heap.size < (wr.alloc (.cells #[.int .i64 tx, .int .i64 an, .int .i64 rs, .int .i64 la] 41)).heap.size := lt_of_heap bA
      have CK := Hid.intro ((BA.cell (cell_lt y0)).trans y0)
      have CT : Hid ((wr.alloc (.cells #[.int .i64 tx, .int .i64 an, .int .i64 rs, .int .i64 la] 41)).cell? ⟨wr.heap.size, 0, none⟩ = some (.int .i64 tx)) := by rw [Hid, cell_of_row _ _ 0 _ _ _ bA]; rfl
      have CN : Hid ((wr.alloc (.cells #[.int .i64 tx, .int .i64 an, .int .i64 rs, .int .i64 la] 41)).cell? ⟨wr.heap.size, 1, none⟩ = some (.int .i64 an)) := by rw [Hid, cell_of_row _ _ 1 _ _ _ bA]; rfl
      have CS : Hid ((wr.alloc (.cells #[.int .i64 tx, .int .i64 an, .int .i64 rs, .int .i64 la] 41)).cell? ⟨wr.heap.size, 2, none⟩ = some (.int .i64 rs)) := by rw [Hid, cell_of_row _ _ 2 _ _ _ bA]; rfl
      have CL : Hid ((wr.alloc (.cells #[.int .i64 tx, .int .i64 an, .int .i64 rs, .int .i64 la] 41)).cell? ⟨wr.heap.size, 3, none⟩ = some (.int .i64 la)) := by rw [Hid, cell_of_row _ _ 3 _ _ _ bA]; rfl
      have SA := Hid.intro sA
      clear x0 x1 x2 x3 x4 FWK hcc hL BA bA LA WA sA
      have ON := once x tx an rs la
      obtain ⟨was, hwas⟩ : ∃ was, was = homeA x tx := ⟨_, rfl⟩
      obtain ⟨had, hhad⟩ : ∃ had, had = homeB x tx := ⟨_, rfl⟩
      rw [← hwas, ← hhad] at ON T1
      obtain ⟨ou, hou⟩ : ∃ ou, ou = hearT x tx an rs := ⟨_, rfl⟩
      have HOU := Hid.intro hou
      rw [← hou] at ON
      obtain ⟨y, hy⟩ : ∃ y, y = hearX x tx an rs la := ⟨_, rfl⟩
      have HY := Hid.intro hy
      rw [← hy] at ON
      have YR : Hid (y.room = r) := by rw [Hid, hy, hear_room]; exact HXR.out
      obtain ⟨nw, hnw⟩ : ∃ nw, nw = homeA y tx := ⟨_, rfl⟩
      obtain ⟨hs, hhs⟩ : ∃ hs, hs = homeB y tx := ⟨_, rfl⟩
      have HNW := Hid.intro hnw
      have HHS := Hid.intro hhs
      rw [← hnw, ← hhs] at ON
      have ONH := Hid.intro ON
      clear hwas hhad hou hy hnw hhs ON
      go_wp2_with fail
      refine T1.out.mono ?_
      rintro e w4 ⟨rfl, B4⟩
      have L4 := LAH.out.below B4
      have T2 := tlhear tx an rs la (by omega) L4 (WAH.out.below B4)
      rw [← HOU.out, ← HY.out] at T2
      have T2H := Hid.intro T2
      have e0 := L4.cell CT.out (.inr ⟨Nat.le_refl _, SA.out⟩)
      have e1 := L4.cell CN.out (.inr ⟨Nat.le_refl _, SA.out⟩)
      have e2 := L4.cell CS.out (.inr ⟨Nat.le_refl _, SA.out⟩)
      have e3 := L4.cell CL.out (.inr ⟨Nat.le_refl _, SA.out⟩)
      clear T1 T2 L4 B4 y0 y1 y2 y3 y4
      go_wp2_with fail
      refine T2H.out.mono ?_
      rintro e w5 ⟨rfl, L5⟩
      have f0 := L5.cell CT.out (.inr ⟨Nat.le_refl _, SA.out⟩)
      have L5H := Hid.intro L5
      have T3 := tlhome tx L5
      rw [← HNW.out, ← HHS.out] at T3
      have T3H := Hid.intro T3
      clear T2H L5 T3 e0 e1 e2 e3
      go_wp2_with fail
      refine T3H.out.mono ?_
      rintro e w6 ⟨rfl, B6⟩
      have L6 := L5H.out.below B6
      have g1 := L6.cell CN.out (.inr ⟨Nat.le_refl _, SA.out⟩)
      have R6 := RB.out _ _ L6
      have q0 := R6.cell C0.out S1.out
      have T4 := Hid.intro (tllist L6)
      have R6H := Hid.intro R6
      have OKH := Hid.intro L6.ok
      have RL : Hid (y.l.length ≤ r) := by rw [Hid, ← YR.out]; exact OKH.out.few
      clear T3H B6 L6 R6 f0 L5H RB LAH WAH CK CT CN CS CL
      rcases ONH.out with ⟨rfl, rfl, rfl⟩ | ⟨rfl, rfl, rfl⟩ | ⟨rfl, rfl, rfl⟩ | ⟨rfl, rfl⟩ | ⟨rfl, rfl, rfl, rfl⟩
      all_goals
        clear ONH HOU HY HNW HHS
        go_wp2_with fail
        refine T4.out.mono ?_
        rintro e w7 ⟨v7, rfl, s7, B7⟩
        obtain ⟨a7, c7, e7, hc7⟩ := s7
        subst e7
        have R7 := Hid.intro (R6H.out.below B7)
        have q7 := (B7.cell (cell_lt q0)).trans q0
        have HC7 := Hid.intro hc7
        obtain ⟨n7, hn7⟩ : ∃ n7, n7 = y.l.length := ⟨_, rfl⟩
        have HN7 := Hid.intro hn7
        have rl := RL.out
        rw [← hn7] at rl ⊢
        have rl2 : ¬ (r : Int) < (n7 : Int) := by omega
        clear T4 B7 R6H hc7 hn7 q0 g1 RL
        go_wp2_with fail
        clear q7 rl2
        go_loopw [14] (fun j wq => ∃ t : Nat, t ≤ n7 ∧ j = .int .i64 t ∧ Below w7.heap.size w7 wq) (fun j _ => n7 - (intOf j).toNat)
        case atStart => exact ⟨0, by omega, rfl, Below.refl _ _⟩
        case round =>
          obtain ⟨t, ht, rfl, hB⟩ := hrel
          have HB := Hid.intro hB
          clear hB
          by_cases htl : t < n7
          · have t0 : (0 : Int) ≤ (t : Int) := by omega
            have t1 : (t : Int) < (n7 : Int) := by omega
            have htg : t < y.l.length := by rw [← HN7.out]; exact htl
            obtain ⟨pb, po, ha7, _, hq⟩ := HC7.out (by omega)
            subst ha7
            have HQ := Hid.intro hq
            clear hq
            go_wp2_with fail
            go_loopw [15] (fun j' wz => ∃ u : Nat, u ≤ t ∧ j' = .int .i64 u ∧ Below w7.heap.size w7 wz) (fun j' _ => t - (intOf j').toNat)
            case atStart => exact ⟨0, by omega, rfl, HB.out⟩
            case round =>
              obtain ⟨u, hu, rfl, hB2⟩ := hrel
              have HB2 := Hid.intro hB2
              by_cases hul : u < t
              · have u0 : (0 : Int) ≤ (u : Int) := by omega
                have u1 : (u : Int) < (t : Int) := by omega
                have u2 : (u : Int) < (n7 : Int) := by omega
                have hug : u < y.l.length := by omega
                have cu := cell9 hB2 (HQ.out u hug).1
                have ct := cell9 hB2 (HQ.out t htg).1
                have AP := apart OKH.out hug htg hul
                generalize y.l[u].tx = gu at cu AP
                generalize y.l[t].tx = gt at ct AP
                clear hB2
                go_wp2_with fail
                go_region_held3 (fun w' => w'.cell? ⟨pb, po + u * 4, none⟩ = some (.int .i64 gu) ∧ w'.cell? ⟨pb, po + t * 4, none⟩ = some (.int .i64 gt)) (go_keep) (fail)
                have B9 := Hid.intro HB2.out.drew
                clear cu ct
                go_wp2
                go_roundw
                case rel => exact ⟨u + 1, by omega, by go_num, B9.out⟩
                case measure => simp [intOf]; omega
              · have u1 : ¬ (u : Int) < (t : Int) := by omega
                clear hB2
                go_wp2
                go_roundw
                case rel => exact ⟨t + 1, by omega, by go_num, HB2.out⟩
                case measure => simp [intOf]; omega
          · have t1 : ¬ (t : Int) < (n7 : Int) := by omega
            have R8 := Hid.intro (R7.out.below HB.out)
            go_wp2
            go_roundw
            case rel => exact ⟨k + 1, _, by omega, by go_num, YR.out, R8.out⟩
            case measure => simp [intOf]; omega
    · obtain rfl : k = LL := by omega
      have k1 : ¬ (k : Int) < (k : Int) := by omega
      have FIN := Hid.intro (BW2.out.trans (hL.out (B := w.heap.size) BW2.out.size (fun k hk => Nat.lt_trans hk S1.out)))
      clear hL
      go_wp2
      go_ret
      exact ⟨rfl, FIN.out⟩

theorem walk (r a m : Int) (ao : Option Addr) (len cap : Nat) (l : List Act9) (w : World) (_ : (Lit.int .i64 r).wf = true ∧ (Lit.int .i64 a).wf = true ∧ (Lit.int .i64 m).wf = true) (hz : l.length = len ∧ ActsAt9 w ao l ∧ len ≤ maxLen) (hW : Wid w) :
    Calls Tryd.prog 4 #[Rm r a m, .slice ao len cap] w fun e w' => e = .returned (.bool true) ∧ Below w.heap.size w w' := by
  obtain ⟨hl, hr, hmx⟩ := hz
  subst hl
  cases h : mayR r a m with
  | false => exact walk_nil r a m ao cap l w hr hW h
  | true =>
    have hb := mayR_true h
    obtain ⟨R, rfl⟩ := Int.eq_ofNat_of_zero_le (show 0 ≤ r by omega)
    obtain ⟨A, rfl⟩ := Int.eq_ofNat_of_zero_le (show 0 ≤ a by omega)
    obtain ⟨Mg, rfl⟩ := Int.eq_ofNat_of_zero_le (show 0 ≤ m by omega)
    exact walk_near R A Mg ao cap l hmx w hr hW h

set_option maxRecDepth 100000 in
theorem lifted (os : Os) (started : os.Started) (H : Type) (enc : TypeId × Value → H) :
    ReturnsInHanded {} Tryd.checked os 4 .any (fun w args => (Rows.roamOnceSpec.pre enc Tryd.prog Tryd.f4 [] false w args ∧ laidMetH Tryd.prog LW w) ∧ sizedMet enc Tryd.prog Tryd.f4 (OpenSpec.ofChange Rows.roamOnceSpec) false w args) (Rows.roamOnceSpec.post enc Tryd.prog Tryd.f4 false true false false) := by
  refine returnsInHanded_of_change_and (C := Tryd.checked) (X := fun w _ => laidMetH Tryd.prog LW w) (fun _ _ _ hh h => h.of_heap hh) own started (by kernel_rfl) Tryd.func4
    (ChangeSpec.witness_shaped (enc := enc) (C := Tryd.checked) (os := os) (X := fun w _ => laidMetH Tryd.prog LW w) false (World.doorLaid Tryd.prog 400 os) #[.agg #[.int .i64 0, .int .i64 0, .int .i64 0], .slice none 0 0] 8 rfl (World.shaped_of_RefB (by kernel_rfl) (by kernel_rfl)) (by kernel_rfl) (by kernel_rfl) (by kernel_rfl) (door_met os _)) ?_
  intro W base args ds gs before hval0 hW _ _ hL _
  have hval : ∀ (j : Nat) t v, Tryd.f4.params[j]? = some t → args[j]? = some v → Value.okWide Tryd.prog W .any base t v := hval0
  have hW' := hW
  obtain ⟨p, q, hA0, hV, rfl, hfz, hnd⟩ := hW
  have hA : DataW.TrodAll enc Tryd.prog W 0 (fun _ => true) true Tryd.f4.params.toList args.toList ds p := hA0
  rw [Tryd.params4] at hA hval
  obtain ⟨v0, vs0, d0, ds0, p0, q0, hargs, rfl, rfl, h0, r0⟩ := trodAll_cons hA
  obtain ⟨v1, vs1, d1, ds1, p1, q1, rfl, rfl, rfl, h1, r1⟩ := trodAll_cons r0
  obtain ⟨rfl, rfl, rfl⟩ := trodAll_nil r1
  obtain rfl : args = #[v0, v1] := by cases args; simp_all
  obtain ⟨rfl, rfl⟩ := trodVars_none hV
  have k0 := h0
  have lt0 : ∀ x ∈ p0, x.block < W.heap.size := by obtain ⟨m, hm⟩ := k0; exact DataW.trod_lt m _ _ _ hm
  obtain ⟨kc0, nc0, sc0, rfl, w0⟩ := open_roam (hval 0 23 v0 rfl rfl) h0
  have k1 := h1
  have lt1 : ∀ x ∈ p1, x.block < W.heap.size := by obtain ⟨m, hm⟩ := k1; exact DataW.trod_lt m _ _ _ hm
  obtain ⟨a1, len1, cap1, rfl⟩ := okWide_slice Tryd.underlying24 (hval 1 24 v1 rfl rfl)
  obtain ⟨z1, w1⟩ := open_acts h1
  clear hA0 hval0
  refine (walk kc0 nc0 sc0 a1 len1 cap1 z1 W w0 w1 (laid_fact hL)).mono fun e W' ⟨he, bel⟩ => ?_
  subst he
  exact ⟨_, rfl, _, _, _, [], _, [], hW', trodAll_mk1 (shut_bool Tryd.underlying4 _), (trodAll_cons_mk (Below.trod laidOut (by kernel_rfl) (of_decide_eq_true (by kernel_rfl)) k0 bel lt0) (trodAll_cons_mk (Below.trod laidOut (by kernel_rfl) (of_decide_eq_true (by kernel_rfl)) k1 bel lt1) trodAll_mk0)), rfl, bel.frame _, fun h => by cases h⟩

theorem over : Rows.roamOnceRow.holds Tryd.pinned (OpenSpec.ofChange Rows.roamOnceSpec) :=
  OpenClaim.holds_of_wide 4 Tryd.f4 rfl rfl rfl rfl rfl rfl rfl ⟨rfl, rfl, rfl, rfl, rfl⟩ rfl rfl rfl rfl rfl (by kernel_rfl) Tryd.func4 (by kernel_rfl)
    (of_decide_eq_true (by kernel_rfl)) (by unfold Func.isWrapper; first | (rw [if_pos (by decide +kernel)]; kernel_rfl) | (rw [if_neg (by decide +kernel)]; exact ⟨rfl, rfl⟩))
    (fun os started H enc _ => lifted os started H enc)

end Go.Proofs.YtohedeeajcdjcaaDoor.LRoamOnce

namespace Go.Proofs.YtohedeeajcdjcaaDoor
theorem roamOnce_holds : Rows.RoamOnceCardSaid :=
  Claim7.holds_tied_plain_at .later [] [.data] true (true, "25c53ae29fda08d9d042b4c4856af7eab08bb405629bf16a006be57b24e6dc14") false
    LRoamOnce.over (fun _ h => by cases h) (by kernel_rfl) (fun _ h => by cases h) roamOnce_row_tie rfl ⟨rfl, rfl⟩ (by kernel_rfl) rfl
    (fun f fn hf hfn => by
      obtain rfl : f = 4 := Option.some.inj ((show Tryd.prog.funcNamed "gurney/gurneylaw09.RoamOnce" = some 4 by kernel_rfl).symm.trans hf) |>.symm
      obtain rfl : fn = Tryd.f4 := (Option.some.inj (Tryd.func4.symm.trans hfn)).symm
      exact ⟨by kernel_rfl, fun j t ht => by
        rw [Tryd.params4] at ht
        have hm : t ∈ [23, 24] := by simpa using Array.mem_of_getElem? ht
        have hall : ([23, 24].all fun u => !Tryd.prog.wantsStandIn u) = true := by kernel_rfl
        exact (show Tryd.prog.wantsStandIn t = false by simpa using List.all_eq_true.1 hall t hm)⟩)
    (by kernel_rfl)
#print axioms roamOnce_holds
end Go.Proofs.YtohedeeajcdjcaaDoor
