/- The statement ShedOrder: of beds that were there from the beginning none is shed while one behind it isn't Off. -/
import Derived.Test.YthfmgdhhjnngaaaShAlive
import Derived.Test.YthfmgdhhjnngaaaBoolsArg
import Derived.Test.YthfmgdhhjnngaaaShSort
import Derived.Test.YthfmgdhhjnngaaaShRng
import Derived.Deep.RegionHeld3
namespace Go.Proofs.Ythfmgdhhjnngaaa
open Go.ChangeShapes Go.WideShapes Go.ChangeAt Go.RowKit Go.Joins
open Bt

namespace LShedOrder

/-- The beds stand as stairs. -/
def Stair (l : List Sd) : Prop := ∀ k, (h : k + 1 < l.length) → l[k].lv = 0 ∨ l[k + 1].lv = 3

theorem stair_zero {l : List Sd} (h : ∀ s ∈ l, s.lv = 0) : Stair l := fun _ _ => .inl (h _ (List.getElem_mem _))

theorem stair_shed {l : List Sd} (h : Stair l) : Stair (shedL l) := by
  cases q : upS l with
  | none => rw [shedL_miss q]; exact h
  | some i =>
    obtain ⟨hi, h1, h2⟩ := upS_at q
    rw [shedL_hit q]
    intro k hk
    have hk' : k + 1 < l.length := by simpa using hk
    rw [List.getElem_modify, List.getElem_modify]
    by_cases e1 : i = k
    · subst e1
      rw [if_pos rfl, if_neg (by omega)]
      exact .inr (h2 (i + 1) hk' (by omega))
    · rw [if_neg e1]
      by_cases e2 : i = k + 1
      · subst e2
        rcases h k hk' with r | r
        · exact .inl r
        · exact absurd r h1
      · rw [if_neg e2]
        exact h k hk'

theorem stair_tick {x : Ctl} (h : Stair x.beds) (o : Bool) : Stair (tickC x o).beds := by
  unfold tickC
  split
  · exact stair_shed h
  · split
    · exact stair_zero (fun s hs => by obtain ⟨t, _, rfl⟩ := List.mem_map.1 hs; rfl)
    · exact h

/-- So many beds were put in, with their priorities. -/
structure AddI (C t : Nat) (bs : List Nat) (x : Ctl) : Prop where
  waits : x.waits = C
  len : x.beds.length = t
  at_ : ∀ s ∈ x.beds, ∃ j : Nat, ∃ h : j < bs.length, j < t ∧ s.bed = (j : Int) ∧ s.prio = (bs[j] : Int)
  full : ∀ s ∈ x.beds, s.lv = 0
  sort : SortS x.beds

theorem addI_zero (C : Nat) (bs : List Nat) : AddI C 0 bs ⟨C, 0, []⟩ := ⟨rfl, rfl, fun s hs => (by cases hs), fun s hs => (by cases hs), List.Pairwise.nil⟩

theorem addI_next {C t : Nat} {bs : List Nat} {x : Ctl} (h : AddI C t bs x) (ht : t < bs.length) (h8 : bs.length ≤ 8) : addE x (t : Int) = 0 ∧ AddI C (t + 1) bs (addC x (t : Int) (bs[t] : Int)) := by
  have e : addE x (t : Int) = 0 := by
    unfold addE
    rw [if_neg, if_neg (by rw [h.len]; omega)]
    intro q
    obtain ⟨s, hs, e⟩ := List.any_eq_true.1 q
    obtain ⟨j, _, h2, h3, _⟩ := h.at_ s hs
    simp [isBedS, h3] at e
    omega
  have eb : (addC x (t : Int) (bs[t] : Int)).beds = insS x.beds ⟨(t : Int), (bs[t] : Int), 0⟩ := by unfold addC; rw [if_pos e]
  refine ⟨e, ⟨by unfold addC; rw [if_pos e]; exact h.waits, by rw [eb, ins_length, h.len], fun s hs => ?_, fun s hs => ?_, by rw [eb]; exact ins_sorted h.sort _⟩⟩
  · rw [eb] at hs
    rcases ins_mem hs with rfl | q
    · exact ⟨t, ht, by omega, rfl, rfl⟩
    · obtain ⟨j, h1, h2, h3, h4⟩ := h.at_ s q
      exact ⟨j, h1, by omega, h3, h4⟩
  · rw [eb] at hs
    rcases ins_mem hs with rfl | q
    · rfl
    · exact h.full s q

theorem ord_len (x : Ctl) : (ordS x).length = x.beds.length := by simp [ordS]

theorem ord_get {x : Ctl} {k : Nat} (hk : k < (ordS x).length) : (ordS x)[k] = (x.beds[k]'(by simpa [ordS] using hk)).bed := by simp [ordS]

theorem ord_tick (x : Ctl) (o : Bool) : ordS (tickC x o) = ordS x := tickC_bed x o

/-- Two beds next to one another, as they came. -/
theorem pair_prio {C t : Nat} {bs : List Nat} {x : Ctl} (h : AddI C t bs x) {k : Nat} (hk : k + 1 < (ordS x).length) :
    ∃ j1 j2 : Nat, ∃ h1 : j1 < bs.length, ∃ h2 : j2 < bs.length, (ordS x)[k] = (j1 : Int) ∧ (ordS x)[k + 1] = (j2 : Int) ∧ bs[j2] ≤ bs[j1] := by
  have hl := ord_len x
  have k1 : k < x.beds.length := by omega
  have k2 : k + 1 < x.beds.length := by omega
  obtain ⟨j1, a0, _, a2, a3⟩ := h.at_ _ (List.getElem_mem k1)
  obtain ⟨j2, b0, _, b2, b3⟩ := h.at_ _ (List.getElem_mem k2)
  refine ⟨j1, j2, a0, b0, (ord_get (by omega)).trans a2, (ord_get hk).trans b2, ?_⟩
  have q := List.pairwise_iff_getElem.1 h.sort k (k + 1) k1 k2 (by omega)
  rw [a3, b3] at q
  omega

theorem hllevelB {F : Nat → Prop} {w0 w : World} {b : Nat} {x : Ctl} (bed : Int) (h : HL F w0 w b x) :
    Calls Try.prog 14 #[.pointer (some ⟨b, 0, none⟩), .int .i64 bed] w fun e w' => e = .returned (.int .i64 (levS x bed : Int)) ∧ Below w.heap.size w w' := by
  obtain ⟨S, h1, _⟩ := h
  exact hlevel_any b bed S x w h1

theorem below_of {B : Nat} {F : Nat → Prop} {w0 w1 w : World} {b : Nat} {x : Ctl} (h0 : Below B w0 w1) (hB : B ≤ w0.heap.size) (hF : ∀ k, k < B → F k) (h : HL F w1 w b x) : Below B w0 w :=
  h0.trans (h.chg.below (Nat.le_trans hB h0.size) (fun k hk => by
    rcases Nat.lt_or_ge k B with q | q
    · exact absurd (hF k q) hk
    · exact q))

set_option maxRecDepth 100000 in
set_option maxHeartbeats 4000000 in
theorem walk_main (calm : Int) (ao : Option Addr) (c : Nat) (bs : List Nat) (to : Option Addr) (tc : Nat) (ts : List Bool) (w : World) (hby : ∀ b ∈ bs, b < 256) (hr : Reads w ao bs) (hts : BoolsAt w to ts) :
    Calls Try.prog 6 #[.int .i64 calm, .slice ao bs.length c, .slice to ts.length tc] w fun e w' => e = .returned (.bool true) ∧ Below w.heap.size w w' := by
  have AL := Hid.intro (alive13_any w)
  have HR := Hid.intro hr
  have HBY := Hid.intro hby
  have HT := Hid.intro hts
  obtain ⟨n, hn⟩ : ∃ n, n = bs.length := ⟨_, rfl⟩
  have HN := Hid.intro hn
  obtain ⟨m, hm⟩ : ∃ m, m = ts.length := ⟨_, rfl⟩
  have HM := Hid.intro hm
  rw [← hn, ← hm]
  clear hn hm hr hts hby
  have early : ∀ (d : Prop) [Decidable d], True := fun _ _ => trivial
  clear early
  by_cases n8 : (8 : Int) < (n : Int)
  · by_cases hc : calm < 1 ∨ 1000 < calm
    · have NN := Hid.intro (hnew_no calm hc)
      clear hc
      go_enter Try.func6, Try.ntmps6
      go_wp2_with fail
      refine AL.out.mono ?_
      rintro e w1 ⟨rfl, B1⟩
      have BH := Hid.intro B1
      clear AL B1
      go_wp2_with fail
      refine (NN.out w1).mono ?_
      rintro e w2 ⟨rfl, B2⟩
      have B2H := Hid.intro (BH.out.trans (B2.mono BH.out.size))
      clear NN BH B2
      go_wp2
      go_ret
      exact ⟨rfl, B2H.out⟩
    · obtain ⟨C, rfl⟩ := Int.eq_ofNat_of_zero_le (show 0 ≤ calm by omega)
      have NY := Hid.intro (hnew_yes C (by omega) (by omega))
      clear hc
      go_enter Try.func6, Try.ntmps6
      go_wp2_with fail
      refine AL.out.mono ?_
      rintro e w1 ⟨rfl, B1⟩
      have BH := Hid.intro B1
      clear AL B1
      go_wp2_with fail
      refine (NY.out w1).mono ?_
      rintro e w2 ⟨b, T, rfl, hS, hF, B2⟩
      have B2H := Hid.intro (BH.out.trans (B2.mono BH.out.size))
      clear NY BH B2 hS hF
      go_wp2
      go_ret
      exact ⟨rfl, B2H.out⟩
  by_cases m100 : (100 : Int) < (m : Int)
  · by_cases hc : calm < 1 ∨ 1000 < calm
    · have NN := Hid.intro (hnew_no calm hc)
      clear hc
      go_enter Try.func6, Try.ntmps6
      go_wp2_with fail
      refine AL.out.mono ?_
      rintro e w1 ⟨rfl, B1⟩
      have BH := Hid.intro B1
      clear AL B1
      go_wp2_with fail
      refine (NN.out w1).mono ?_
      rintro e w2 ⟨rfl, B2⟩
      have B2H := Hid.intro (BH.out.trans (B2.mono BH.out.size))
      clear NN BH B2
      go_wp2
      go_ret
      exact ⟨rfl, B2H.out⟩
    · obtain ⟨C, rfl⟩ := Int.eq_ofNat_of_zero_le (show 0 ≤ calm by omega)
      have NY := Hid.intro (hnew_yes C (by omega) (by omega))
      clear hc
      go_enter Try.func6, Try.ntmps6
      go_wp2_with fail
      refine AL.out.mono ?_
      rintro e w1 ⟨rfl, B1⟩
      have BH := Hid.intro B1
      clear AL B1
      go_wp2_with fail
      refine (NY.out w1).mono ?_
      rintro e w2 ⟨b, T, rfl, hS, hF, B2⟩
      have B2H := Hid.intro (BH.out.trans (B2.mono BH.out.size))
      clear NY BH B2 hS hF
      go_wp2
      go_ret
      exact ⟨rfl, B2H.out⟩
  by_cases hc : calm < 1 ∨ 1000 < calm
  · have NN := Hid.intro (hnew_no calm hc)
    clear hc
    go_enter Try.func6, Try.ntmps6
    go_wp2_with fail
    refine AL.out.mono ?_
    rintro e w1 ⟨rfl, B1⟩
    have BH := Hid.intro B1
    clear AL B1
    go_wp2_with fail
    refine (NN.out w1).mono ?_
    rintro e w2 ⟨rfl, B2⟩
    have B2H := Hid.intro (BH.out.trans (B2.mono BH.out.size))
    clear NN BH B2
    go_wp2
    go_ret
    exact ⟨rfl, B2H.out⟩
  obtain ⟨C, rfl⟩ := Int.eq_ofNat_of_zero_le (show 0 ≤ calm by omega)
  have hC1 : 1 ≤ C := by omega
  have hC2 : C ≤ 1000 := by omega
  have NY := Hid.intro (hnew_yes C hC1 hC2)
  have hn8 : n ≤ 8 := by omega
  have hm100 : m ≤ 100 := by omega
  clear hc
  go_enter Try.func6, Try.ntmps6
  go_wp2_with fail
  refine AL.out.mono ?_
  rintro e w1 ⟨rfl, B1⟩
  have BH := Hid.intro B1
  clear AL B1
  go_wp2_with fail
  refine (NY.out w1).mono ?_
  rintro e w2 ⟨b, T, rfl, hS, hF, B2⟩
  have L2H := Hid.intro (hl_new hS hF B2)
  clear NY hS hF B2
  go_wp2_with fail
  go_loopw [8] (fun iv ws => ∃ (t : Nat) (x : Ctl), t ≤ n ∧ iv = .int .i64 t ∧ HL (fun k => k < w1.heap.size) w1 ws b x ∧ AddI C t bs x) (fun iv _ => n - (intOf iv).toNat)
  case atStart => exact ⟨0, _, by omega, rfl, L2H.out, addI_zero C bs⟩
  case round =>
    clear L2H
    obtain ⟨t, x, ht, rfl, hH, hI⟩ := hrel
    by_cases hlt : t < n
    · have hlt' : t < bs.length := by rw [← HN.out]; exact hlt
      have t0 : (0 : Int) ≤ (t : Int) := by omega
      have t1 : (t : Int) < (n : Int) := by omega
      obtain ⟨pb, off, rfl, hcc⟩ := reads_at HR.out (by omega)
      have d0 := hH.cell (cell_chg (below_chg BH.out) (hcc t hlt') id) (Nat.lt_of_lt_of_le (cell_lt (hcc t hlt')) BH.out.size)
      obtain ⟨ae, nI⟩ := addI_next hI hlt' (by rw [← HN.out]; exact hn8)
      have AD := hladd (t : Int) (bs[t] : Int) hH
      rw [ae] at AD
      have ADH := Hid.intro AD
      have NI := Hid.intro nI
      have p256 : bs[t] < 256 := HBY.out _ (List.getElem_mem hlt')
      have p0 : (0 : Int) ≤ (bs[t] : Int) := by omega
      clear hcc AD nI ae hH hI
      generalize bs[t] = pr at *
      generalize addC x (t : Int) (pr : Int) = x2 at *
      go_wp2_with fail
      refine ADH.out.mono ?_
      rintro e w4 ⟨rfl, L4⟩
      have L4H := Hid.intro L4
      clear ADH L4 d0
      go_wp2
      go_roundw
      case rel => exact ⟨t + 1, x2, by omega, by go_num, L4H.out, NI.out⟩
      case measure => simp [intOf]; omega
    · obtain rfl : t = n := by omega
      have t1 : ¬ (t : Int) < (t : Int) := by omega
      have OR := Hid.intro (hlorder hH)
      have AI := Hid.intro hI
      have OLN : Hid ((ordS x).length = t) := (ord_len x).trans hI.len
      have ST := Hid.intro (stair_zero hI.full)
      have HHr := Hid.intro hH
      clear hH hI
      go_wp2_with fail
      refine OR.out.mono ?_
      rintro e w5 ⟨v5, rfl, n5, L5, B5⟩
      obtain ⟨oa, oc, rfl⟩ := n5.len
      have G5 := Hid.intro (L5.grow (Below.refl _ w5))
      have N5 := Hid.intro n5
      have hsz := L5.chg.size
      have B5w := Hid.intro (L5.out (Nat.le_refl _))
      have NCH := Hid.intro (fun (k : Nat) (hk : k < (ordS x).length) (pb off : Nat) (e : oa = some ⟨pb, off, none⟩) => (show w5.cell? ⟨pb, off + k, none⟩ = some (.int .i64 (ordS x)[k]) from by
        obtain ⟨pb', off', e', _, hq⟩ := n5.at.2 (by omega)
        rw [e] at e'
        cases e'
        exact hq k hk))
      have NAD := Hid.intro (fun (q : 0 < t) => (show ∃ pb off, oa = some ⟨pb, off, none⟩ from by
        obtain ⟨pb', off', e', _⟩ := n5.at.2 (by rw [OLN.out]; exact q)
        exact ⟨pb', off', e'⟩))
      have PRC := Hid.intro (fun (j : Nat) (hj : j < bs.length) (pb off : Nat) (e : ao = some ⟨pb, off, none⟩) => (show w5.cell? ⟨pb, off + j, none⟩ = some (.int .u8 (bs[j] : Int)) from by
        obtain ⟨pb', off', e', hq⟩ := reads_at HR.out (by omega)
        rw [e] at e'
        cases e'
        exact L5.cell (cell_chg (below_chg BH.out) (hq j hj) id) (Nat.lt_of_lt_of_le (cell_lt (hq j hj)) BH.out.size)))
      have PAD := Hid.intro (fun (q : 0 < t) => (show ∃ pb off, ao = some ⟨pb, off, none⟩ from by
        obtain ⟨pb', off', e', _⟩ := reads_at HR.out (by rw [← HN.out]; exact q)
        exact ⟨pb', off', e'⟩))
      have TKC := Hid.intro (fun (q : 0 < m) => (show ∃ pb off, to = some ⟨pb, off, none⟩ ∧ pb < w1.heap.size ∧ ∀ j, (hj : j < ts.length) → w5.cell? ⟨pb, off + j, none⟩ = some (.bool ts[j]) from by
        obtain ⟨pb', off', e', hq⟩ := HT.out (by rw [← HM.out]; exact q)
        exact ⟨pb', off', e', Nat.lt_of_lt_of_le (cell_lt (hq 0 (by rw [← HM.out]; exact q))) BH.out.size, fun j hj => L5.cell (cell_chg (below_chg BH.out) (hq j hj) id) (Nat.lt_of_lt_of_le (cell_lt (hq j hj)) BH.out.size)⟩))
      have OKX := Hid.intro L5.ok
      have PP := Hid.intro (fun (k : Nat) (hk : k + 1 < (ordS x).length) => pair_prio AI.out hk)
      have L5G := Hid.intro (HHr.out.grow B5)
      have w5s : wr.heap.size ≤ w5.heap.size := B5.size
      have NR : Hid (NumsAt (fun k => wr.heap.size ≤ k ∧ k < w5.heap.size) w5 (.slice oa (ordS x).length oc) (ordS x)) := n5
      clear OR n5 L5 B5 G5 N5 AI HHr HR HT
      rw [OLN.out]
      generalize wr.heap.size = ws0 at *
      go_wp2_with fail
      generalize wr = wx at *
      go_loopw [10] (fun iv ws => ∃ r : Nat, (r ≤ t ∨ r = 0) ∧ iv = .int .i64 ((r : Int) + 1) ∧ Below w5.heap.size w5 ws) (fun iv _ => t + 1 - (intOf iv).toNat)
      case atStart => exact ⟨0, .inr rfl, rfl, Below.refl _ _⟩
      case round =>
        obtain ⟨r, hr, rfl, hB⟩ := hrel
        by_cases hrn : r + 1 < t
        · obtain ⟨j1, j2, hj1, hj2, a3, a4, a5⟩ := PP.out r (by rw [OLN.out]; exact hrn)
          obtain ⟨pb5, of5, rfl⟩ := NAD.out (by omega)
          obtain ⟨pb, off, rfl⟩ := PAD.out (by omega)
          have k1 := NCH.out r (by rw [OLN.out]; omega) pb5 of5 rfl
          have k2 := NCH.out (r + 1) (by rw [OLN.out]; omega) pb5 of5 rfl
          rw [a3] at k1
          rw [a4] at k2
          have x1 := cell_chg (below_chg hB) k1 id
          have x2 := cell_chg (below_chg hB) k2 id
          have x3 := cell_chg (below_chg hB) (PRC.out j1 hj1 pb off rfl) id
          have x4 := cell_chg (below_chg hB) (PRC.out j2 hj2 pb off rfl) id
          have j1t : j1 < t := by rw [HN.out]; exact hj1
          have j2t : j2 < t := by rw [HN.out]; exact hj2
          have r0 : (0 : Int) ≤ (r : Int) := by omega
          have r1 : (r : Int) < (t : Int) := by omega
          have r2 : (r : Int) + 1 < (t : Int) := by omega
          have r3 : (0 : Int) ≤ (r : Int) + 1 := by omega
          have rw1 : IntKind.i64.wrap ((r : Int) + 1 - 1) = (r : Int) := by rw [IntKind.wrap_i64]; omega
          have rt : ((r : Int) + 1).toNat = r + 1 := by omega
          have q1 : (0 : Int) ≤ (j1 : Int) := by omega
          have q2 : (j1 : Int) < (t : Int) := by omega
          have q3 : (0 : Int) ≤ (j2 : Int) := by omega
          have q4 : (j2 : Int) < (t : Int) := by omega
          have WN : Hid (∀ n, Below w5.heap.size w5 (wr.drewN n)) := fun n => ⟨hB.os, hB.tape, hB.output, hB.size, hB.block⟩
          have A5 := Hid.intro a5
          clear k1 k2 a3 a4 hB a5
          generalize bs[j1] = p1 at *
          generalize bs[j2] = p2 at *
          clear hj1 hj2
          go_wp2_with fail
          have e3 : ¬ (p1 : Int) < (p2 : Int) := by have := A5.out; omega
          go_quiet (fail)
          go_wp2
          go_roundw
          case rel => exact ⟨r + 1, .inl (by omega), by go_num, WN.out _⟩
          case measure => simp [intOf]; omega
        · have r2 : ¬ (r : Int) + 1 < (t : Int) := by omega
          have BR := Hid.intro hB
          have L6 : Hid (HL (fun k => k < w1.heap.size ∨ (ws0 ≤ k ∧ k < w5.heap.size)) w5 wr b x) := L5G.out.below hB
          clear hB PP PRC PAD L5G
          go_wp2_with fail
          generalize wr = wy at *
          go_loopw [11] (fun iv ws => ∃ (t2 : Nat) (x2 : Ctl), t2 ≤ m ∧ iv = .int .i64 t2 ∧ HL (fun k => k < w1.heap.size ∨ (ws0 ≤ k ∧ k < w5.heap.size)) w5 ws b x2 ∧ Stair x2.beds ∧ ordS x2 = ordS x) (fun iv _ => m - (intOf iv).toNat)
          case atStart => exact ⟨0, x, by omega, rfl, L6.out, ST.out, rfl⟩
          case round =>
            clear L6
            obtain ⟨t2, x2, ht2, rfl, hH, hSt, hOr⟩ := hrel
            by_cases hlt2 : t2 < m
            · have hlt2' : t2 < ts.length := by rw [← HM.out]; exact hlt2
              have s0 : (0 : Int) ≤ (t2 : Int) := by omega
              have s1 : (t2 : Int) < (m : Int) := by omega
              obtain ⟨pbT, ofT, rfl, hpT, hcT⟩ := TKC.out (by omega)
              have d0 := hH.cell (hcT t2 hlt2') (.inl hpT)
              have TK := Hid.intro (hltick ts[t2] hH)
              have ST2 := Hid.intro (stair_tick hSt ts[t2])
              have OR2 : Hid (ordS (tickC x2 ts[t2]) = ordS x) := (ord_tick x2 _).trans hOr
              clear hcT hH hSt hOr
              generalize ts[t2] = ov at *
              generalize tickC x2 ov = x3 at *
              generalize tickD x2 ov = td at *
              go_wp2_with fail
              refine TK.out.mono ?_
              rintro e w6 ⟨rfl, L6⟩
              have L6H := Hid.intro L6
              have OK6 := Hid.intro L6.ok
              have N6 := Hid.intro (L6.nums NR.out (fun k hk => .inr hk))
              clear TK L6 d0
              go_wp2_with fail
              generalize wr = wz at *
              go_loopw [12] (fun iv ws => ∃ r : Nat, (r ≤ t ∨ r = 0) ∧ iv = .int .i64 ((r : Int) + 1) ∧ Below w6.heap.size w6 ws) (fun iv _ => t + 1 - (intOf iv).toNat)
              case atStart => exact ⟨0, .inr rfl, rfl, Below.refl _ _⟩
              case round =>
                obtain ⟨q, hq, rfl, hB⟩ := hrel
                by_cases hqn : q + 1 < t
                · obtain ⟨pb6, of6, rfl, _, hq6⟩ := N6.out.at.2 (by rw [OLN.out]; omega)
                  have l1 : q < (ordS x).length := by rw [OLN.out]; omega
                  have l2 : q + 1 < (ordS x).length := by rw [OLN.out]; omega
                  have k1 := cell_chg (below_chg hB) (hq6 q l1) id
                  have k2 := hq6 (q + 1) l2
                  have eo := OR2.out
                  have b3 : x3.beds.length = t := by rw [← ord_len, eo, OLN.out]
                  have g1 : q < x3.beds.length := by omega
                  have g2 : q + 1 < x3.beds.length := by omega
                  have e1 : (ordS x)[q] = x3.beds[q].bed := by
                    have := ord_get (x := x3) (k := q) (by rw [eo]; exact l1)
                    simp only [eo] at this
                    exact this
                  have e2 : (ordS x)[q + 1] = x3.beds[q + 1].bed := by
                    have := ord_get (x := x3) (k := q + 1) (by rw [eo]; exact l2)
                    simp only [eo] at this
                    exact this
                  rw [e1] at k1
                  rw [e2] at k2
                  have LV1 := hllevelB x3.beds[q].bed (L6H.out.below hB)
                  rw [levS_at OK6.out.once g1] at LV1
                  have LV1H := Hid.intro LV1
                  have LV2 := Hid.intro (fun (W : World) (hW : Below w6.heap.size w6 W) => (show Calls Try.prog 14 #[.pointer (some ⟨b, 0, none⟩), .int .i64 x3.beds[q + 1].bed] W fun e w' => e = .returned (.int .i64 (x3.beds[q + 1].lv : Int)) ∧ Below W.heap.size W w' from by
                    have z := hllevelB x3.beds[q + 1].bed (L6H.out.below hW)
                    rw [levS_at OK6.out.once g2] at z
                    exact z))
                  have K2 := Hid.intro (fun (W : World) (hW : Below w6.heap.size w6 W) => cell_chg (below_chg hW) k2 id)
                  have sor := ST2.out q g2
                  have BX := Hid.intro hB
                  have r0 : (0 : Int) ≤ (q : Int) := by omega
                  have r1 : (q : Int) < (t : Int) := by omega
                  have r2' : (q : Int) + 1 < (t : Int) := by omega
                  have r3 : (0 : Int) ≤ (q : Int) + 1 := by omega
                  have rw1 : IntKind.i64.wrap ((q : Int) + 1 - 1) = (q : Int) := by rw [IntKind.wrap_i64]; omega
                  have rt : ((q : Int) + 1).toNat = q + 1 := by omega
                  clear LV1 hB hq6 k2 e1 e2 eo b3
                  generalize x3.beds[q].lv = v1 at *
                  generalize x3.beds[q].bed = bd1 at *
                  generalize x3.beds[q + 1].lv = v2 at *
                  generalize x3.beds[q + 1].bed = bd2 at *
                  clear g1 g2 l1 l2
                  by_cases z1 : v1 = 0
                  · subst z1
                    clear sor
                    go_wp2_with fail
                    refine LV1H.out.mono ?_
                    rintro e w7 ⟨rfl, B7⟩
                    have B7H := Hid.intro (BX.out.trans (B7.mono BX.out.size))
                    clear LV1H B7 BX k1
                    go_wp2
                    go_roundw
                    case rel => exact ⟨q + 1, .inl (by omega), by go_num, B7H.out⟩
                    case measure => simp [intOf]; omega
                  · have z2 : v2 = 3 := sor.resolve_left z1
                    subst z2
                    have z3 : ((v1 : Int) != 0) = true := by simp; omega
                    clear sor z1
                    go_wp2_with fail
                    refine LV1H.out.mono ?_
                    rintro e w7 ⟨rfl, B7⟩
                    have B7w := BX.out.trans (B7.mono BX.out.size)
                    have B7H := Hid.intro B7w
                    have m2 := K2.out w7 B7w
                    have LVX := Hid.intro (LV2.out w7 B7w)
                    clear LV1H B7 BX k1 B7w LV2 K2
                    go_wp2_with fail
                    refine LVX.out.mono ?_
                    rintro e w8 ⟨rfl, B8⟩
                    have B8H := Hid.intro (B7H.out.trans (B8.mono B7H.out.size))
                    clear LVX B8 m2 B7H
                    go_wp2
                    go_roundw
                    case rel => exact ⟨q + 1, .inl (by omega), by go_num, B8H.out⟩
                    case measure => simp [intOf]; omega
                · have r2' : ¬ (q : Int) + 1 < (t : Int) := by omega
                  have LZ := Hid.intro (L6H.out.below hB)
                  clear hB N6 L6H OK6
                  go_wp2
                  go_roundw
                  case rel => exact ⟨t2 + 1, x3, by omega, by go_num, LZ.out, ST2.out, OR2.out⟩
                  case measure => simp [intOf]; omega
            · obtain rfl : t2 = m := by omega
              have s1 : ¬ (t2 : Int) < (t2 : Int) := by omega
              have FI := Hid.intro (BH.out.trans ((below_of B5w.out (Nat.le_refl _) (fun k q => .inl q) hH).mono BH.out.size))
              clear hH hSt hOr
              go_wp2
              go_ret
              exact ⟨by simp, FI.out⟩

theorem walk (calm : Int) (a : Option Addr) (len cap : Nat) (z : List Int) (a' : Option Addr) (len' cap' : Nat) (z' : List Bool) (w : World) (_ : (Lit.int .i64 calm).wf = true) (hz : IsRow .u8 w a len cap z) (hz' : z'.length = len' ∧ BoolsAt w a' z' ∧ len' ≤ maxLen) :
    Calls Try.prog 6 #[.int .i64 calm, .slice a len cap, .slice a' len' cap'] w fun e w' => e = .returned (.bool true) ∧ Below w.heap.size w w' := by
  obtain ⟨bs, rfl, h1, h2⟩ := hz.bytes
  obtain ⟨rfl, h, _⟩ := hz'
  exact walk_main calm a cap bs a' cap' z' w h1 h2 h

set_option maxRecDepth 100000 in
theorem lifted (os : Os) (started : os.Started) (H : Type) (enc : TypeId × Value → H) :
    ReturnsInHanded {} Try.checked os 6 .any (Rows.shedOrderSpec.pre6 enc Try.prog Try.f6 Rows.shedOrderRow.domain false) (Rows.shedOrderSpec.post enc Try.prog Try.f6 false true false false) := by
  refine returnsInHanded_of_change (C := Try.checked) own started (by kernel_rfl) Try.func6
    (ChangeSpec.witness6 (enc := enc) (C := Try.checked) false ⟨#[], #[.int .i64 0, .slice none 0 0, .slice none 0 0], []⟩ 8 (by kernel_rfl) (by kernel_rfl) (by kernel_rfl) (by kernel_rfl)) ?_
  intro W base args ds gs before hval0 hW hcnd _
  have hval : ∀ (j : Nat) t v, Try.f6.params[j]? = some t → args[j]? = some v → Value.okWide Try.prog W .any base t v := hval0
  have hW' := hW
  obtain ⟨p, q, hA0, hV, rfl, hfz, hnd⟩ := hW
  have hA : DataW.TrodAll enc Try.prog W 0 (fun _ => true) true Try.f6.params.toList args.toList ds p := hA0
  rw [Try.params6] at hA hval
  obtain ⟨v0, vs0, d0, ds0, p0, q0, hargs, rfl, rfl, h0, r0⟩ := trodAll_cons hA
  obtain ⟨v1, vs1, d1, ds1, p1, q1, rfl, rfl, rfl, h1, r1⟩ := trodAll_cons r0
  obtain ⟨v2, vs2, d2, ds2, p2, q2, rfl, rfl, rfl, h2, r2⟩ := trodAll_cons r1
  obtain ⟨rfl, rfl, rfl⟩ := trodAll_nil r2
  obtain rfl : args = #[v0, v1, v2] := by cases args; simp_all
  obtain ⟨rfl, rfl⟩ := trodVars_none hV
  obtain ⟨a0, rfl, rfl, rfl, w0⟩ := open_int Try.underlying3 (hval 0 3 v0 rfl rfl) h0
  obtain ⟨a1, len1, cap1, rfl⟩ := okWide_slice Try.underlying43 (hval 1 43 v1 rfl rfl)
  have k1 := h1
  have lt1 : ∀ x ∈ p1, x.block < W.heap.size := by obtain ⟨m, hm⟩ := k1; exact DataW.trod_lt m _ _ _ hm
  obtain ⟨z1, w1⟩ : ∃ zs, IsRow .u8 W a1 len1 cap1 zs := by
    obtain ⟨fuel, hf⟩ := h1
    rcases open_ints Try.underlying43 Try.underlying5 (by kernel_rfl) hf with ⟨hcs, _⟩ | ⟨x, l, c, zs, hcs, _, hl, hm, hz, _, hcell, hwz⟩
    · simp [Value.cells] at hcs
      obtain ⟨rfl, rfl, rfl⟩ := hcs
      exact ⟨[], .inl ⟨rfl, rfl, rfl, rfl⟩⟩
    · simp [Value.cells] at hcs
      obtain ⟨rfl, rfl, rfl⟩ := hcs
      exact ⟨zs, .inr ⟨_, rfl, hl, hm, by simpa using hz, hcell, hwz⟩⟩
  have k2 := h2
  have lt2 : ∀ x ∈ p2, x.block < W.heap.size := by obtain ⟨m, hm⟩ := k2; exact DataW.trod_lt m _ _ _ hm
  obtain ⟨a2, len2, cap2, rfl⟩ := okWide_slice Try.underlying44 (hval 2 44 v2 rfl rfl)
  obtain ⟨z2, w2⟩ := open_bools h2
  clear hA0 hval0
  refine (walk a0 a1 len1 cap1 z1 a2 len2 cap2 z2 W w0 w1 w2).mono fun e W' ⟨he, bel⟩ => ?_
  subst he
  exact ⟨_, rfl, _, _, _, [], _, [], hW', trodAll_mk1 (shut_bool Try.underlying4 _), (trodAll_cons_mk (shut_int Try.underlying3 w0) (trodAll_cons_mk (Below.trod laidOut (by kernel_rfl) (of_decide_eq_true (by kernel_rfl)) k1 bel lt1) (trodAll_cons_mk (Below.trod laidOut (by kernel_rfl) (of_decide_eq_true (by kernel_rfl)) k2 bel lt2) trodAll_mk0))), rfl, bel.frame _, fun h => by cases h⟩

theorem over : Rows.shedOrderRow.holds Try.pinned (OpenSpec.ofChange Rows.shedOrderSpec) :=
  OpenClaim.holds_of_wide 6 Try.f6 rfl rfl rfl rfl rfl rfl rfl ⟨rfl, rfl, rfl, rfl, rfl⟩ rfl rfl rfl rfl rfl (by kernel_rfl) Try.func6 (by kernel_rfl)
    (of_decide_eq_true (by kernel_rfl)) (by unfold Func.isWrapper; first | (rw [if_pos (by decide +kernel)]; kernel_rfl) | (rw [if_neg (by decide +kernel)]; exact ⟨rfl, rfl⟩))
    (fun os started H enc _ => lifted os started H enc)

end Go.Proofs.Ythfmgdhhjnngaaa.LShedOrder

namespace Go.Proofs.Ythfmgdhhjnngaaa
theorem shedOrder_holds : Rows.ShedOrderSaid := LShedOrder.over
#print axioms shedOrder_holds
end Go.Proofs.Ythfmgdhhjnngaaa
