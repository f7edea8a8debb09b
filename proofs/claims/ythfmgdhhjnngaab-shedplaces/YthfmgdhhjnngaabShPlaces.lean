/- The statement ShedPlaces: beds stand in the order of their priorities, those first that came first. -/
import Derived.Test.YthfmgdhhjnngaabShAlive
import Derived.Test.YthfmgdhhjnngaabShArg
import Derived.Test.YthfmgdhhjnngaabShSort
import Derived.Test.YthfmgdhhjnngaabShRng
import Derived.Deep.RegionHeld3
namespace Go.Proofs.Ythfmgdhhjnngaab
open Go.ChangeShapes Go.WideShapes Go.ChangeAt Go.RowKit Go.Joins
open Bt

namespace LShedPlaces

/-- The array of priorities, as far as beds stand there. -/
structure PInv (w : World) (ab : Nat) (x : Ctl) : Prop where
  arr : ∀ j, j < 16 → ∃ v, w.cell? ⟨ab, j, none⟩ = some (.int .i64 v)
  fro : ∀ j, w.frozen? ⟨ab, j, none⟩ = false
  pat : ∀ s ∈ x.beds, ∃ j : Nat, j < 16 ∧ s.bed = (j : Int) ∧ w.cell? ⟨ab, j, none⟩ = some (.int .i64 s.prio)
  sort : SortS x.beds

theorem PInv.kept {w w' : World} {ab : Nat} {x : Ctl} (h : PInv w ab x) (hb : w'.heap[ab]? = w.heap[ab]?) : PInv w' ab x :=
  ⟨fun j hj => by obtain ⟨v, q⟩ := h.arr j hj; exact ⟨v, (World.cell?_of_block (a := ⟨ab, j, none⟩) hb).trans q⟩, fun j => (World.frozen?_of_block (a := ⟨ab, j, none⟩) hb).trans (h.fro j), fun s hs => by
    obtain ⟨j, h1, h2, h3⟩ := h.pat s hs
    exact ⟨j, h1, h2, (World.cell?_of_block (a := ⟨ab, j, none⟩) hb).trans h3⟩, h.sort⟩

/-- A bed more, whose priority is written. -/
theorem PInv.add {w : World} {ab : Nat} {x : Ctl} (h : PInv w ab x) {B : Nat} (hB : B < 16) (p : Int) (e : addE x (B : Int) = 0) : PInv (w.setCell ⟨ab, B, none⟩ (.int .i64 p)) ab (addC x (B : Int) p) := by
  obtain ⟨v, hv⟩ := h.arr B hB
  have same : (w.setCell ⟨ab, B, none⟩ (.int .i64 p)).cell? ⟨ab, B, none⟩ = some (.int .i64 p) := World.cell?_setCell_same' _ _ _ (by rw [hv]; rfl)
  have other : ∀ j, j ≠ B → (w.setCell ⟨ab, B, none⟩ (.int .i64 p)).cell? ⟨ab, j, none⟩ = w.cell? ⟨ab, j, none⟩ := fun j hj => World.cell?_setCell_other _ _ _ _ (fun q => hj (by cases q; rfl))
  have eb : (addC x (B : Int) p).beds = insS x.beds ⟨(B : Int), p, 0⟩ := by unfold addC; rw [if_pos e]
  obtain ⟨e1, _⟩ := addE_zero e
  refine ⟨fun j hj => ?_, fun j => by rw [World.frozen?_setCell]; exact h.fro j, fun s hs => ?_, by rw [eb]; exact ins_sorted h.sort _⟩
  · by_cases q : j = B
    · subst q; exact ⟨_, same⟩
    · obtain ⟨u, hu⟩ := h.arr j hj
      exact ⟨u, (other j q).trans hu⟩
  · rw [eb] at hs
    rcases ins_mem hs with rfl | q
    · exact ⟨B, hB, rfl, same⟩
    · obtain ⟨j, h1, h2, h3⟩ := h.pat s q
      refine ⟨j, h1, h2, (other j (fun r => ?_)).trans h3⟩
      rw [List.any_eq_false] at e1
      exact e1 s q (by simp [isBedS, h2, r])

theorem ord_len (x : Ctl) : (ordS x).length = x.beds.length := by simp [ordS]

theorem ord_get {x : Ctl} {k : Nat} (hk : k < (ordS x).length) : (ordS x)[k] = (x.beds[k]'(by simpa [ordS] using hk)).bed := by simp [ordS]

/-- Two beds next to one another. -/
theorem pair_at {w : World} {ab : Nat} {x : Ctl} {B : Nat} {p : Int} (h : PInv w ab (addC x (B : Int) p)) (hx : SortS x.beds) (hon : ((addC x (B : Int) p).beds.map Sd.bed).Nodup) (e : addE x (B : Int) = 0) {k : Nat} (hk : k + 1 < (ordS (addC x (B : Int) p)).length) :
    ∃ j1 j2 : Nat, ∃ p1 p2 : Int, j1 < 16 ∧ j2 < 16 ∧ (ordS (addC x (B : Int) p))[k] = (j1 : Int) ∧ (ordS (addC x (B : Int) p))[k + 1] = (j2 : Int) ∧ w.cell? ⟨ab, j1, none⟩ = some (.int .i64 p1) ∧ w.cell? ⟨ab, j2, none⟩ = some (.int .i64 p2) ∧ ((p2 < p1) ∨ (p1 = p2 ∧ ¬ (j1 : Int) = (B : Int))) := by
  have hl := ord_len (addC x (B : Int) p)
  have k1 : k < (addC x (B : Int) p).beds.length := by omega
  have k2 : k + 1 < (addC x (B : Int) p).beds.length := by omega
  obtain ⟨j1, a1, a2, a3⟩ := h.pat _ (List.getElem_mem k1)
  obtain ⟨j2, b1, b2, b3⟩ := h.pat _ (List.getElem_mem k2)
  refine ⟨j1, j2, _, _, a1, b1, (ord_get (by omega)).trans a2, (ord_get hk).trans b2, a3, b3, ?_⟩
  have q := List.pairwise_iff_getElem.1 h.sort k (k + 1) k1 k2 (by omega)
  by_cases lt : (addC x (B : Int) p).beds[k + 1].prio < (addC x (B : Int) p).beds[k].prio
  · exact .inl lt
  · refine .inr ⟨by omega, fun r => ?_⟩
    have eb : (addC x (B : Int) p).beds = insS x.beds ⟨(B : Int), p, 0⟩ := by unfold addC; rw [if_pos e]
    have key : ∀ (L : List Sd) (h1 : k < L.length) (h2 : k + 1 < L.length), L = insS x.beds ⟨(B : Int), p, 0⟩ → (L.map Sd.bed).Nodup → L[k].bed = (B : Int) → ¬ L[k + 1].prio < L[k].prio → False := fun L h1 h2 eL hd hb hn => by
      subst eL
      have q := ins_next hx ⟨(B : Int), p, 0⟩ (once_pair hd) h2 hb
      have e3 : (insS x.beds ⟨(B : Int), p, 0⟩)[k].prio = p := by
        have := ins_mem (List.getElem_mem h1)
        rcases this with r3 | r3
        · rw [r3]
        · exfalso
          obtain ⟨e1, _⟩ := addE_zero e
          rw [List.any_eq_false] at e1
          exact e1 _ r3 (by simp [isBedS, hb])
      rw [e3] at hn
      exact hn q
    exact key _ k1 k2 eb hon (by rw [a2, r]) lt

theorem zero16 : ∃ Z : Array Value, (∀ j, j < 16 → Z[j]? = some (.int .i64 0)) ∧ ∀ w : World, Sem.run Try.prog (zeroValue 26) w = .ok (.agg Z) w :=
  ⟨Array.replicate 16 (.int .i64 0), fun x hx => by simp [hx], fun w => by kernel_rfl⟩

set_option maxRecDepth 100000 in
set_option maxHeartbeats 4000000 in
theorem walk_main (calm : Int) (ao : Option Addr) (c : Nat) (l : List Act13) (w : World) (h : ActsAt13 w ao l) :
    Calls Try.prog 3 #[.int .i64 calm, .slice ao l.length c] w fun e w' => e = .returned (.bool true) ∧ Below w.heap.size w w' := by
  have AL := Hid.intro (alive13_any w)
  have HS := Hid.intro h
  obtain ⟨L, hL⟩ : ∃ L, L = l.length := ⟨_, rfl⟩
  have HL' := Hid.intro hL
  rw [← hL]
  clear hL h
  by_cases hc : calm < 1 ∨ 1000 < calm
  · have NN := Hid.intro (hnew_no calm hc)
    clear hc
    go_enter Try.func3, Try.ntmps3
    go_wp2_with fail
    refine AL.out.mono ?_
    rintro e w1 ⟨rfl, B1⟩
    have BH := Hid.intro B1
    clear AL B1
    go_wp2_with fail
    refine (NN.out w1).mono ?_
    rintro e w2 ⟨rfl, B2⟩
    have B2H := Hid.intro (BH.out.trans (B2.mono BH.out.size))
    clear NN BH B2
    go_wp2
    go_ret
    exact ⟨rfl, B2H.out⟩
  · obtain ⟨C, rfl⟩ := Int.eq_ofNat_of_zero_le (show 0 ≤ calm by omega)
    have hC1 : 1 ≤ C := by omega
    have hC2 : C ≤ 1000 := by omega
    have NY := Hid.intro (hnew_yes C hC1 hC2)
    clear hc
    by_cases h100 : (100 : Int) < (L : Int)
    · go_enter Try.func3, Try.ntmps3
      go_wp2_with fail
      refine AL.out.mono ?_
      rintro e w1 ⟨rfl, B1⟩
      have BH := Hid.intro B1
      clear AL B1
      go_wp2_with fail
      refine (NY.out w1).mono ?_
      rintro e w2 ⟨b, T, rfl, hS, hF, B2⟩
      have B2H := Hid.intro (BH.out.trans (B2.mono BH.out.size))
      clear NY BH B2 hS hF
      go_wp2
      go_ret
      exact ⟨rfl, B2H.out⟩
    have hL100 : L ≤ 100 := by omega
    obtain ⟨Z, hZ, z16⟩ := zero16
    have HZ := Hid.intro hZ
    clear hZ
    go_enter Try.func3, Try.ntmps3
    go_wp2_with fail
    refine AL.out.mono ?_
    rintro e w1 ⟨rfl, B1⟩
    have BH := Hid.intro B1
    clear AL B1
    go_wp2_with fail
    refine (NY.out w1).mono ?_
    rintro e w2 ⟨b, T, rfl, hS, hF, B2⟩
    have L2H := Hid.intro (hl_new hS hF B2)
    clear NY hS hF B2
    go_wp2_with fail
    have nbA := heap_alloc_new w2 (.cells Z 26)
    have BA := (Below.refl _ w2).alloc (Nat.le_refl _) (.cells Z 26)
    have sA : (w2.alloc (.cells Z 26)).heap.size = w2.heap.size + 1 := by simp
    have hs2 := L2H.out.chg.size
    have L3H : Hid (HL (fun k => k < w1.heap.size ∨ k = w2.heap.size) (w2.alloc (.cells Z 26)) (w2.alloc (.cells Z 26)) b ⟨C, 0, []⟩) :=
      (L2H.out.grow BA).less (fun k q => q.elim .inl (fun e => .inr (by omega)))
    have P3H : Hid (PInv (w2.alloc (.cells Z 26)) w2.heap.size ⟨C, 0, []⟩) :=
      ⟨fun j hj => ⟨0, by rw [cell_of_row _ _ j _ _ _ nbA]; exact HZ.out j hj⟩, fun j => frozen_of_row _ _ j _ _ nbA, fun s hs => (by cases hs), List.Pairwise.nil⟩
    have B3H : Hid (Below w1.heap.size w1 (w2.alloc (.cells Z 26))) := (L2H.out.out (Nat.le_refl _)).alloc hs2 _
    have hab : w1.heap.size ≤ w2.heap.size := hs2
    clear nbA BA sA L2H HZ z16 hs2
    generalize w2.alloc (.cells Z 26) = w3 at *
    generalize w2.heap.size = ab at *
    go_loopw [7] (fun iv ws => ∃ (t : Nat) (x : Ctl), t ≤ L ∧ iv = .int .i64 t ∧ HL (fun k => k < w1.heap.size ∨ k = ab) ws ws b x ∧ PInv ws ab x ∧ Below w1.heap.size w1 ws) (fun iv _ => L - (intOf iv).toNat)
    case atStart => exact ⟨0, _, by omega, rfl, L3H.out, P3H.out, B3H.out⟩
    case round =>
      clear L3H P3H B3H
      obtain ⟨t, x, ht, rfl, hH, hP, hB⟩ := hrel
      by_cases hlt : t < L
      · have hlt' : t < l.length := by rw [← HL'.out]; exact hlt
        have t0 : (0 : Int) ≤ (t : Int) := by omega
        have t1 : (t : Int) < (L : Int) := by omega
        obtain ⟨pb, off, rfl, hcc⟩ := HS.out (by omega)
        have pbl : pb < w1.heap.size := Nat.lt_of_lt_of_le (cell_lt (hcc t hlt').1) BH.out.size
        have AK := Hid.intro (fun (W : World) (hW : Below w1.heap.size w1 W) => (((hcc t hlt').below BH.out).below hW))
        obtain ⟨d0, d1, d2⟩ := AK.out wr hB
        have HH := Hid.intro hH
        have PH := Hid.intro hP
        have BH3 := Hid.intro hB
        clear hcc hH hP hB
        generalize l[t] = ac at *
        obtain ⟨kd, bd, pr⟩ := ac
        simp only at d0 d1 d2 AK
        by_cases c0 : bd < 0
        · go_wp2
          go_roundw
          case rel => exact ⟨t + 1, x, by omega, by go_num, HH.out, PH.out, BH3.out⟩
          case measure => simp [intOf]; omega
        by_cases c1 : 15 < bd
        · go_wp2
          go_roundw
          case rel => exact ⟨t + 1, x, by omega, by go_num, HH.out, PH.out, BH3.out⟩
          case measure => simp [intOf]; omega
        by_cases c2 : kd = 0
        · obtain ⟨B, rfl⟩ := Int.eq_ofNat_of_zero_le (show 0 ≤ bd by omega)
          have hB16 : B < 16 := by omega
          subst c2
          clear c0 c1
          have b0 : ¬ (B : Int) < 0 := by omega
          have b1 : ¬ (15 : Int) < (B : Int) := by omega
          have OR := Hid.intro (hlorder HH.out)
          have OK1 := Hid.intro HH.out.ok
          go_wp2_with fail
          refine OR.out.mono ?_
          rintro e w4 ⟨v4, rfl, n4, L4, B4⟩
          obtain ⟨oa, oc, rfl⟩ := n4.len
          have B4w := BH3.out.trans (B4.mono BH3.out.size)
          obtain ⟨f0, f1, f2⟩ := AK.out w4 B4w
          have AD := Hid.intro (hladd (B : Int) pr L4)
          have n1 : (ordS x).length ≤ 8 := by rw [ord_len]; exact OK1.out.few
          have OLN := Hid.intro (ord_len x)
          clear OR n4 B4 d0 d1 d2 L4 B4w
          generalize (ordS x).length = m1 at *
          simp only at f0 f1 f2
          by_cases ea : addE x (B : Int) = 0
          · have AK2 := Hid.intro ea
            rw [ea] at AD
            go_wp2_with fail
            refine AD.out.mono ?_
            rintro e w5 ⟨rfl, L5⟩
            have kb5 : w5.heap[ab]? = wr.heap[ab]? := L5.block (.inr rfl)
            have P5 := PH.out.kept kb5
            have B5 := BH3.out.trans (L5.chg.below BH3.out.size (fun k hk => by rcases Nat.lt_or_ge k w1.heap.size with q | q; exact absurd (.inl q) hk; exact q))
            obtain ⟨g0, g1, g2⟩ := AK.out w5 B5
            obtain ⟨v0, hv0⟩ := P5.arr B hB16
            have hfz := P5.fro B
            have P6 := Hid.intro (P5.add hB16 pr AK2.out)
            have L6 := Hid.intro (L5.here.write (p := ⟨ab, B, none⟩) (.inr rfl) (.int .i64 pr))
            have B6 := Hid.intro (B5.setCell (p := ⟨ab, B, none⟩) hab (.int .i64 pr))
            have OR2 := Hid.intro (hlorder L6.out)
            have OK6 := Hid.intro L6.out.ok
            have bi : (0 : Int) ≤ (B : Int) := by omega
            have bj : (B : Int) < 16 := by omega
            simp only at g0 g1 g2
            clear AD f0 f1 f2 L5 kb5 P5 B5 AK
            go_wp2_with fail
            refine OR2.out.mono ?_
            rintro e w7 ⟨v7, rfl, n7, L7, B7⟩
            obtain ⟨oa7, oc7, rfl⟩ := n7.len
            have P7 := Hid.intro (P6.out.kept (B7.block ab (by obtain ⟨v, q⟩ := P6.out.arr 0 (by omega); exact cell_lt q)))
            have L7H := Hid.intro L7.here
            have N7 := Hid.intro n7
            have B7H := Hid.intro (B6.out.trans (B7.mono B6.out.size))
            have OLN7 := Hid.intro (ord_len (addC x (B : Int) pr))
            have e8 : (ordS (addC x (B : Int) pr)).length = m1 + 1 := by
              rw [OLN7.out]
              have eb : (addC x (B : Int) pr).beds = insS x.beds ⟨(B : Int), pr, 0⟩ := by unfold addC; rw [if_pos AK2.out]
              rw [eb, ins_length, ← OLN.out]
            have PA := Hid.intro (fun (k : Nat) (hk : k + 1 < (ordS (addC x (B : Int) pr)).length) => pair_at P7.out PH.out.sort OK6.out.once AK2.out hk)
            clear OR2 n7 L7 B7 hv0 hfz g0 g1 g2 P6 L6 B6 OLN7
            rw [e8]
            have HE8 := Hid.intro e8
            clear e8
            go_wp2_with fail
            generalize wr = wx at *
            go_loopw [11] (fun iv ws => ∃ r : Nat, r + 1 ≤ m1 + 1 ∧ iv = .int .i64 ((r : Int) + 1) ∧ Below w7.heap.size w7 ws) (fun iv _ => m1 + 1 - (intOf iv).toNat)
            case atStart => exact ⟨0, by omega, rfl, Below.refl _ _⟩
            case round =>
              obtain ⟨r, hr, rfl, hBr⟩ := hrel
              by_cases hrn : r + 1 < m1 + 1
              · obtain ⟨j1, j2, p1, p2, a1, a2, a3, a4, a5, a6, a7⟩ := PA.out r (by rw [HE8.out]; exact hrn)
                obtain ⟨pb7, of7, rfl, _, hq7⟩ := N7.out.at.2 (by rw [HE8.out]; omega)
                have k1 := hq7 r (by rw [HE8.out]; omega)
                have k2 := hq7 (r + 1) (by rw [HE8.out]; omega)
                rw [a3] at k1
                rw [a4] at k2
                have x1 := cell_chg (below_chg hBr) k1 id
                have x2 := cell_chg (below_chg hBr) k2 id
                have x3 := cell_chg (below_chg hBr) a5 id
                have x4 := cell_chg (below_chg hBr) a6 id
                have r0 : (0 : Int) ≤ (r : Int) := by omega
                have r1 : (r : Int) < (m1 : Int) + 1 := by omega
                have r2 : (r : Int) + 1 < (m1 : Int) + 1 := by omega
                have r3 : (0 : Int) ≤ (r : Int) + 1 := by omega
                have rw1 : IntKind.i64.wrap ((r : Int) + 1 - 1) = (r : Int) := by rw [IntKind.wrap_i64]; omega
                have rt : ((r : Int) + 1).toNat = r + 1 := by omega
                have q1 : (0 : Int) ≤ (j1 : Int) := by omega
                have q2 : (j1 : Int) < 16 := by omega
                have q3 : (0 : Int) ≤ (j2 : Int) := by omega
                have q4 : (j2 : Int) < 16 := by omega
                have WN : Hid (∀ n, Below w7.heap.size w7 (wr.drewN n)) := fun n => ⟨hBr.os, hBr.tape, hBr.output, hBr.size, hBr.block⟩
                clear k1 k2 a3 a4 a5 a6 hq7 hBr
                rcases a7 with a8 | ⟨a8, a9⟩
                · have e2 : (p1 == p2) = false := by rw [beq_eq_false_iff_ne]; omega
                  go_wp2_with fail
                  have e3 : ¬ p1 < p2 := by omega
                  clear a8
                  go_quiet (fail)
                  go_wp2
                  go_roundw
                  case rel => exact ⟨r + 1, by omega, by go_num, WN.out _⟩
                  case measure => simp [intOf]; omega
                · subst a8
                  have e2 : (p1 == p1) = true := by simp
                  have e4 : ((j1 : Int) == (B : Int)) = false := by rw [beq_eq_false_iff_ne]; exact a9
                  have e3 : ¬ p1 < p1 := by omega
                  clear a9
                  go_wp2_with fail
                  go_quiet (fail)
                  go_wp2
                  go_roundw
                  case rel => exact ⟨r + 1, by omega, by go_num, WN.out _⟩
                  case measure => simp [intOf]; omega
              · obtain rfl : r = m1 := by omega
                have r1 : ¬ (r : Int) + 1 < (r : Int) + 1 := by omega
                have FL := Hid.intro (L7H.out.below hBr).here
                have FP := Hid.intro (P7.out.kept (hBr.block ab (by obtain ⟨v, q⟩ := P7.out.arr 0 (by omega); exact cell_lt q)))
                have FB := Hid.intro (B7H.out.trans (hBr.mono B7H.out.size))
                clear hBr P7 L7H PA N7
                go_wp2
                go_roundw
                case rel => exact ⟨t + 1, _, by omega, by go_num, FL.out, FP.out, FB.out⟩
                case measure => simp [intOf]; omega
          · have ec : addC x (B : Int) pr = x := by unfold addC; rw [if_neg ea]
            rw [ec] at AD
            have ne : (addE x (B : Int) != 0) = true := by simp; exact ea
            clear ec ea
            generalize addE x (B : Int) = er at *
            go_wp2_with fail
            refine AD.out.mono ?_
            rintro e w5 ⟨rfl, L5⟩
            have kb5 : w5.heap[ab]? = wr.heap[ab]? := L5.block (.inr rfl)
            have P5 := Hid.intro (PH.out.kept kb5)
            have B5 := Hid.intro (BH3.out.trans (L5.chg.below BH3.out.size (fun k hk => by rcases Nat.lt_or_ge k w1.heap.size with q | q; exact absurd (.inl q) hk; exact q)))
            have L5H := Hid.intro L5.here
            clear AD f0 f1 f2 L5 kb5 AK
            go_wp2
            go_roundw
            case rel => exact ⟨t + 1, _, by omega, by go_num, L5H.out, P5.out, B5.out⟩
            case measure => simp [intOf]; omega
        · have c3 : (kd != 0) = true := by simp; exact c2
          have c0' : ¬ bd < 0 := c0
          go_wp2
          go_roundw
          case rel => exact ⟨t + 1, x, by omega, by go_num, HH.out, PH.out, BH3.out⟩
          case measure => simp [intOf]; omega
      · obtain rfl : t = L := by omega
        have t1 : ¬ (t : Int) < (t : Int) := by omega
        have FI := Hid.intro (BH.out.trans (hB.mono BH.out.size))
        clear hH hP hB
        go_wp2
        go_ret
        exact ⟨rfl, FI.out⟩

theorem walk (calm : Int) (a : Option Addr) (len cap : Nat) (z : List Act13) (w : World) (_ : (Lit.int .i64 calm).wf = true) (hz : z.length = len ∧ ActsAt13 w a z ∧ len ≤ maxLen) :
    Calls Try.prog 3 #[.int .i64 calm, .slice a len cap] w fun e w' => e = .returned (.bool true) ∧ Below w.heap.size w w' := by
  obtain ⟨rfl, h, _⟩ := hz
  exact walk_main calm a cap z w h

set_option maxRecDepth 100000 in
theorem lifted (os : Os) (started : os.Started) (H : Type) (enc : TypeId × Value → H) :
    ReturnsInHanded {} Try.checked os 3 .any (Rows.shedPlacesSpec.pre6 enc Try.prog Try.f3 Rows.shedPlacesRow.domain false) (Rows.shedPlacesSpec.post enc Try.prog Try.f3 false true false false) := by
  refine returnsInHanded_of_change (C := Try.checked) own started (by kernel_rfl) Try.func3
    (ChangeSpec.witness6 (enc := enc) (C := Try.checked) false ⟨#[], #[.int .i64 0, .slice none 0 0], []⟩ 8 (by kernel_rfl) (by kernel_rfl) (by kernel_rfl) (by kernel_rfl)) ?_
  intro W base args ds gs before hval0 hW hcnd _
  have hval : ∀ (j : Nat) t v, Try.f3.params[j]? = some t → args[j]? = some v → Value.okWide Try.prog W .any base t v := hval0
  have hW' := hW
  obtain ⟨p, q, hA0, hV, rfl, hfz, hnd⟩ := hW
  have hA : DataW.TrodAll enc Try.prog W 0 (fun _ => true) true Try.f3.params.toList args.toList ds p := hA0
  rw [Try.params3] at hA hval
  obtain ⟨v0, vs0, d0, ds0, p0, q0, hargs, rfl, rfl, h0, r0⟩ := trodAll_cons hA
  obtain ⟨v1, vs1, d1, ds1, p1, q1, rfl, rfl, rfl, h1, r1⟩ := trodAll_cons r0
  obtain ⟨rfl, rfl, rfl⟩ := trodAll_nil r1
  obtain rfl : args = #[v0, v1] := by cases args; simp_all
  obtain ⟨rfl, rfl⟩ := trodVars_none hV
  obtain ⟨a0, rfl, rfl, rfl, w0⟩ := open_int Try.underlying3 (hval 0 3 v0 rfl rfl) h0
  have k1 := h1
  have lt1 : ∀ x ∈ p1, x.block < W.heap.size := by obtain ⟨m, hm⟩ := k1; exact DataW.trod_lt m _ _ _ hm
  obtain ⟨a1, len1, cap1, rfl⟩ := okWide_slice Try.underlying22 (hval 1 22 v1 rfl rfl)
  obtain ⟨z1, w1⟩ := open_acts h1
  clear hA0 hval0
  refine (walk a0 a1 len1 cap1 z1 W w0 w1).mono fun e W' ⟨he, bel⟩ => ?_
  subst he
  exact ⟨_, rfl, _, _, _, [], _, [], hW', trodAll_mk1 (shut_bool Try.underlying4 _), (trodAll_cons_mk (shut_int Try.underlying3 w0) (trodAll_cons_mk (Below.trod laidOut (by kernel_rfl) (of_decide_eq_true (by kernel_rfl)) k1 bel lt1) trodAll_mk0)), rfl, bel.frame _, fun h => by cases h⟩

theorem over : Rows.shedPlacesRow.holds Try.pinned (OpenSpec.ofChange Rows.shedPlacesSpec) :=
  OpenClaim.holds_of_wide 3 Try.f3 rfl rfl rfl rfl rfl rfl rfl ⟨rfl, rfl, rfl, rfl, rfl⟩ rfl rfl rfl rfl rfl (by kernel_rfl) Try.func3 (by kernel_rfl)
    (of_decide_eq_true (by kernel_rfl)) (by unfold Func.isWrapper; first | (rw [if_pos (by decide +kernel)]; kernel_rfl) | (rw [if_neg (by decide +kernel)]; exact ⟨rfl, rfl⟩))
    (fun os started H enc _ => lifted os started H enc)

end Go.Proofs.Ythfmgdhhjnngaab.LShedPlaces

namespace Go.Proofs.Ythfmgdhhjnngaab
theorem shedPlaces_holds : Rows.ShedPlacesSaid := LShedPlaces.over
#print axioms shedPlaces_holds
end Go.Proofs.Ythfmgdhhjnngaab
