/- The document's own controller of layer 13, in memory; Find, Level. -/
import Derived.Test.YthfmgdhhjnngaaaShRefP
import Derived.Laws.OwnMore
namespace Go.Proofs.Ythfmgdhhjnngaaa
open Go.RowKit
open Bt

/-- The document's controller: its own block, its three lists. -/
structure RH (S : Nat → Prop) (w : World) (b : Nat) (wt cl : Int) (vb vp vl : Value) (lb lp ll : List Int) : Prop where
  head : w.heap[b]? = some (.cells #[.int .i64 wt, .int .i64 cl, vb, vp, vl] 36 (0, 0))
  ob : w.ownsRow 0 3 1 vb lb.length (lb.map Nv)
  op : w.ownsRow 0 3 1 vp lp.length (lp.map Nv)
  ol : w.ownsRow 0 3 1 vl ll.length (ll.map Nv)
  ab : ∀ k, vl.ownBlock = some k → vb.ownBlock ≠ some k
  ap : ∀ k, vl.ownBlock = some k → vp.ownBlock ≠ some k
  inB : S b
  inb : ∀ k, vb.ownBlock = some k → S k
  inp : ∀ k, vp.ownBlock = some k → S k
  inl : ∀ k, vl.ownBlock = some k → S k
  lt : ∀ k, S k → k < w.heap.size

/-- The lists of a controller. -/
def lbS (x : Ctl) : List Int := x.beds.map Sd.bed
def lpS (x : Ctl) : List Int := x.beds.map Sd.prio
def llS (x : Ctl) : List Int := x.beds.map (fun s => (s.lv : Int))

def RCt (S : Nat → Prop) (w : World) (b : Nat) (x : Ctl) : Prop := (∃ vb vp vl, RH S w b x.waits x.calm vb vp vl (lbS x) (lpS x) (llS x)) ∧ x.Ok

variable {S T : Nat → Prop} {w w' w1 : World} {b : Nat} {wt cl : Int} {vb vp vl v : Value} {lb lp ll l : List Int} {x : Ctl}

theorem RH.kept (h : RH S w b wt cl vb vp vl lb lp ll) (hc : Chg T w w') (hT : ∀ k, S k → ¬ T k) : RH S w' b wt cl vb vp vl lb lp ll :=
  ⟨(hc.block b (h.lt b h.inB) (hT b h.inB)).trans h.head, ownsRow_keep h.ob fun k hk => hc.block k (World.ownsRow.lt h.ob k hk).2 (hT k (h.inb k hk)), ownsRow_keep h.op fun k hk => hc.block k (World.ownsRow.lt h.op k hk).2 (hT k (h.inp k hk)), ownsRow_keep h.ol fun k hk => hc.block k (World.ownsRow.lt h.ol k hk).2 (hT k (h.inl k hk)),
    h.ab, h.ap, h.inB, h.inb, h.inp, h.inl, fun k hk => Nat.lt_of_lt_of_le (h.lt k hk) hc.size⟩

theorem RH.below (h : RH S w b wt cl vb vp vl lb lp ll) (hb : Below w.heap.size w w') : RH S w' b wt cl vb vp vl lb lp ll := h.kept (below_chg hb) (fun _ _ => id)

theorem RCt.kept (h : RCt S w b x) (hc : Chg T w w') (hT : ∀ k, S k → ¬ T k) : RCt S w' b x := by
  obtain ⟨⟨vb, vp, vl, h⟩, ok⟩ := h
  exact ⟨⟨vb, vp, vl, h.kept hc hT⟩, ok⟩

theorem RCt.below (h : RCt S w b x) (hb : Below w.heap.size w w') : RCt S w' b x := h.kept (below_chg hb) (fun _ _ => id)

theorem RCt.lt (h : RCt S w b x) : ∀ k, S k → k < w.heap.size := by obtain ⟨⟨vb, vp, vl, h⟩, _⟩ := h; exact h.lt

theorem RH.cells (h : RH S w b wt cl vb vp vl lb lp ll) : w.cell? ⟨b, 0, none⟩ = some (.int .i64 wt) ∧ w.cell? ⟨b, 1, none⟩ = some (.int .i64 cl) ∧ w.cell? ⟨b, 2, none⟩ = some vb ∧ w.cell? ⟨b, 3, none⟩ = some vp ∧ w.cell? ⟨b, 4, none⟩ = some vl ∧ (∀ j, w.frozen? ⟨b, j, none⟩ = false) :=
  ⟨by rw [cell_of_row w _ 0 _ _ _ h.head]; rfl, by rw [cell_of_row w _ 1 _ _ _ h.head]; rfl, by rw [cell_of_row w _ 2 _ _ _ h.head]; rfl, by rw [cell_of_row w _ 3 _ _ _ h.head]; rfl, by rw [cell_of_row w _ 4 _ _ _ h.head]; rfl, fun j => frozen_of_row w b j _ _ h.head⟩

theorem row_ne (h : w.ownsRow 0 3 1 v l.length (l.map Nv)) {c : Array Value} (hd : w.heap[b]? = some (.cells c 36 (0, 0))) : v.ownBlock ≠ some b := row_not_block h hd (by decide)

/-- What lies where a list is. -/
theorem row_at {n c g : Nat} (h : w.ownsRow 0 3 1 (.slice (some ⟨g, 0, none⟩) n c) n (l.map Nv)) {i : Nat} (hi : i < l.length) : w.cell? ⟨g, i, none⟩ = some (.int .i64 l[i]) := by
  have hl : l.length = n := by have := h.1; simpa using this
  rw [h.cellAt i (by omega)]
  simp [hi]

theorem chg_head (w : World) (b j : Nat) (v : Value) : Chg (fun k => k = b) w (w.setCell ⟨b, j, none⟩ v) := Chg.setCell (S := fun k => k = b) (Chg.refl _ w) (p := ⟨b, j, none⟩) (fun _ => rfl) v

theorem RH.setCalm (h : RH S w b wt cl vb vp vl lb lp ll) (n : Int) : RH S (w.setCell ⟨b, 1, none⟩ (.int .i64 n)) b wt n vb vp vl lb lp ll ∧ Chg S w (w.setCell ⟨b, 1, none⟩ (.int .i64 n)) := by
  have hc := chg_head w b 1 (.int .i64 n)
  refine ⟨⟨by rw [heap_setCell_same w b 1 _ _ _ h.head]; rfl, ownsRow_keep h.ob fun k hk => hc.block k (World.ownsRow.lt h.ob k hk).2 (fun e => row_ne h.ob h.head (by rw [← e]; exact hk)), ownsRow_keep h.op fun k hk => hc.block k (World.ownsRow.lt h.op k hk).2 (fun e => row_ne h.op h.head (by rw [← e]; exact hk)), ownsRow_keep h.ol fun k hk => hc.block k (World.ownsRow.lt h.ol k hk).2 (fun e => row_ne h.ol h.head (by rw [← e]; exact hk)),
    h.ab, h.ap, h.inB, h.inb, h.inp, h.inl, fun k hk => Nat.lt_of_lt_of_le (h.lt k hk) hc.size⟩, hc.mono (fun k e _ => by rw [e]; exact h.inB)⟩

/-- Its levels are written. -/
theorem RH.setLv {g c n : Nat} (h : RH S w b wt cl vb vp (.slice (some ⟨g, 0, none⟩) n c) lb lp ll) (i : Nat) (u : Int) :
    RH S (w.setCell ⟨g, i, none⟩ (.int .i64 u)) b wt cl vb vp (.slice (some ⟨g, 0, none⟩) n c) lb lp (ll.set i u) ∧ Chg S w (w.setCell ⟨g, i, none⟩ (.int .i64 u)) := by
  have hc : Chg (fun k => k = g) w (w.setCell ⟨g, i, none⟩ (.int .i64 u)) := Chg.setCell (S := fun k => k = g) (Chg.refl _ w) (p := ⟨g, i, none⟩) (fun _ => rfl) _
  obtain rfl : n = ll.length := by obtain ⟨_, _, e, _⟩ := ownsRow_form h.ol; cases e; rfl
  have hgb : g ≠ b := fun e => row_ne h.ol h.head (by rw [e]; rfl)
  have st := (World.ownsRow.stored h.ol i (.int .i64 u)).1
  refine ⟨⟨(hc.block b (h.lt b h.inB) (fun e => hgb e.symm)).trans h.head, ownsRow_keep h.ob fun k hk => hc.block k (World.ownsRow.lt h.ob k hk).2 (fun e => h.ab g rfl (by rw [← e]; exact hk)), ownsRow_keep h.op fun k hk => hc.block k (World.ownsRow.lt h.op k hk).2 (fun e => h.ap g rfl (by rw [← e]; exact hk)), ?_,
    h.ab, h.ap, h.inB, h.inb, h.inp, h.inl, fun k hk => Nat.lt_of_lt_of_le (h.lt k hk) hc.size⟩, hc.mono (fun k e _ => by rw [e]; exact h.inl g rfl)⟩
  rw [List.length_set, List.map_set]
  exact st

/-- A list is another one, in new memory. -/
theorem RH.setB (h : RH S w b wt cl vb vp vl lb lp ll) (hn : NewI w w1 v l) : RH (fun k => S k ∨ (w.heap.size ≤ k ∧ k < w1.heap.size)) (w1.setCell ⟨b, 2, none⟩ v) b wt cl v vp vl l lp ll ∧ Chg S w (w1.setCell ⟨b, 2, none⟩ v) := by
  obtain ⟨o, hb, hg⟩ := hn
  have h1 := h.below hb
  have hc := chg_head w1 b 2 v
  have hs := hb.size
  refine ⟨⟨by rw [heap_setCell_same w1 b 2 _ _ _ h1.head]; rfl, ownsRow_keep o fun k hk => hc.block k (World.ownsRow.lt o k hk).2 (fun e => row_ne o h1.head (by rw [← e]; exact hk)), ownsRow_keep h1.op fun k hk => hc.block k (World.ownsRow.lt h1.op k hk).2 (fun e => row_ne h1.op h1.head (by rw [← e]; exact hk)), ownsRow_keep h1.ol fun k hk => hc.block k (World.ownsRow.lt h1.ol k hk).2 (fun e => row_ne h1.ol h1.head (by rw [← e]; exact hk)),
    fun k hk q => by have := hg k q; have := h.lt k (h.inl k hk); omega, h.ap, .inl h.inB, fun k hk => .inr ⟨hg k hk, (World.ownsRow.lt o k hk).2⟩, fun k hk => .inl (h.inp k hk), fun k hk => .inl (h.inl k hk), fun k hk => ?_⟩, ((below_chg hb).mono (fun _ f _ => f.elim)).trans hc (fun k e _ => by rw [e]; exact h.inB)⟩
  rcases hk with q | q
  · exact Nat.lt_of_lt_of_le (h.lt k q) (Nat.le_trans hs hc.size)
  · exact Nat.lt_of_lt_of_le q.2 hc.size

theorem RH.setP (h : RH S w b wt cl vb vp vl lb lp ll) (hn : NewI w w1 v l) : RH (fun k => S k ∨ (w.heap.size ≤ k ∧ k < w1.heap.size)) (w1.setCell ⟨b, 3, none⟩ v) b wt cl vb v vl lb l ll ∧ Chg S w (w1.setCell ⟨b, 3, none⟩ v) := by
  obtain ⟨o, hb, hg⟩ := hn
  have h1 := h.below hb
  have hc := chg_head w1 b 3 v
  have hs := hb.size
  refine ⟨⟨by rw [heap_setCell_same w1 b 3 _ _ _ h1.head]; rfl, ownsRow_keep h1.ob fun k hk => hc.block k (World.ownsRow.lt h1.ob k hk).2 (fun e => row_ne h1.ob h1.head (by rw [← e]; exact hk)), ownsRow_keep o fun k hk => hc.block k (World.ownsRow.lt o k hk).2 (fun e => row_ne o h1.head (by rw [← e]; exact hk)), ownsRow_keep h1.ol fun k hk => hc.block k (World.ownsRow.lt h1.ol k hk).2 (fun e => row_ne h1.ol h1.head (by rw [← e]; exact hk)),
    h.ab, fun k hk q => by have := hg k q; have := h.lt k (h.inl k hk); omega, .inl h.inB, fun k hk => .inl (h.inb k hk), fun k hk => .inr ⟨hg k hk, (World.ownsRow.lt o k hk).2⟩, fun k hk => .inl (h.inl k hk), fun k hk => ?_⟩, ((below_chg hb).mono (fun _ f _ => f.elim)).trans hc (fun k e _ => by rw [e]; exact h.inB)⟩
  rcases hk with q | q
  · exact Nat.lt_of_lt_of_le (h.lt k q) (Nat.le_trans hs hc.size)
  · exact Nat.lt_of_lt_of_le q.2 hc.size

theorem RH.setL (h : RH S w b wt cl vb vp vl lb lp ll) (hn : NewI w w1 v l) : RH (fun k => S k ∨ (w.heap.size ≤ k ∧ k < w1.heap.size)) (w1.setCell ⟨b, 4, none⟩ v) b wt cl vb vp v lb lp l ∧ Chg S w (w1.setCell ⟨b, 4, none⟩ v) := by
  obtain ⟨o, hb, hg⟩ := hn
  have h1 := h.below hb
  have hc := chg_head w1 b 4 v
  have hs := hb.size
  refine ⟨⟨by rw [heap_setCell_same w1 b 4 _ _ _ h1.head]; rfl, ownsRow_keep h1.ob fun k hk => hc.block k (World.ownsRow.lt h1.ob k hk).2 (fun e => row_ne h1.ob h1.head (by rw [← e]; exact hk)), ownsRow_keep h1.op fun k hk => hc.block k (World.ownsRow.lt h1.op k hk).2 (fun e => row_ne h1.op h1.head (by rw [← e]; exact hk)), ownsRow_keep o fun k hk => hc.block k (World.ownsRow.lt o k hk).2 (fun e => row_ne o h1.head (by rw [← e]; exact hk)),
    fun k hk q => by have := hg k hk; have := h.lt k (h.inb k q); omega, fun k hk q => by have := hg k hk; have := h.lt k (h.inp k q); omega, .inl h.inB, fun k hk => .inl (h.inb k hk), fun k hk => .inl (h.inp k hk), fun k hk => .inr ⟨hg k hk, (World.ownsRow.lt o k hk).2⟩, fun k hk => ?_⟩, ((below_chg hb).mono (fun _ f _ => f.elim)).trans hc (fun k e _ => by rw [e]; exact h.inB)⟩
  rcases hk with q | q
  · exact Nat.lt_of_lt_of_le (h.lt k q) (Nat.le_trans hs hc.size)
  · exact Nat.lt_of_lt_of_le q.2 hc.size

/-- What a call leaves. -/
def LeftRC (S : Nat → Prop) (w w' : World) (b : Nat) (x : Ctl) : Prop := ∃ S', RCt S' w' b x ∧ Chg S w w' ∧ ∀ k, S' k → S k ∨ w.heap.size ≤ k

set_option maxRecDepth 100000 in
set_option maxHeartbeats 1000000 in
theorem refFind13_any (b : Nat) (bed : Int) (S : Nat → Prop) (x : Ctl) (w : World) (h : RCt S w b x) :
    Calls Try.prog 30 #[.pointer (some ⟨b, 0, none⟩), .int .i64 bed] w fun e w' => e = .returned (.int .i64 (posS (isBedS bed) x.beds)) ∧ w = w' := by
  obtain ⟨⟨vb, vp, vl, h⟩, ok⟩ := h
  have hf := ok.few
  obtain ⟨_, _, c2, _, _, _⟩ := h.cells
  obtain ⟨ao, c, rfl, hz⟩ := ownsRow_form h.ob
  have hl : (lbS x).length = x.beds.length := by simp [lbS]
  have HA := Hid.intro (fun t (ht : t < (lbS x).length) (g : Nat) (e : ao = some ⟨g, 0, none⟩) => (show w.cell? ⟨g, t, none⟩ = some (.int .i64 (lbS x)[t]) from by subst e; exact row_at h.ob ht))
  have HZ := Hid.intro hz
  have HL := Hid.intro hl
  rw [hl] at c2
  obtain ⟨P, hP⟩ : ∃ P, P = posS (isBedS bed) x.beds := ⟨_, rfl⟩
  have HP := Hid.intro hP
  rw [← hP]
  obtain ⟨n, hn⟩ : ∃ n, n = x.beds.length := ⟨_, rfl⟩
  have HN := Hid.intro hn
  rw [← hn] at c2 hf
  clear h hz hl ok hP hn
  go_enter Try.func30, Try.ntmps30
  go_wp2_with fail
  go_loop [5] (fun iv => ∃ t : Nat, t ≤ n ∧ iv = .int .i64 t ∧ ∀ j, (hj : j < x.beds.length) → j < t → isBedS bed x.beds[j] = false) (fun iv => n - (intOf iv).toNat)
  case atStart => exact ⟨0, by omega, rfl, fun j _ hj => absurd hj (Nat.not_lt_zero _)⟩
  case round =>
    obtain ⟨t, ht, rfl, hno⟩ := hrel
    have HNO := Hid.intro hno
    clear hno
    by_cases hlt : t < n
    · have hlt' : t < x.beds.length := by rw [← HN.out]; exact hlt
      have hlt2 : t < (lbS x).length := by rw [HL.out]; exact hlt'
      obtain ⟨g, rfl⟩ := HZ.out.resolve_left (by omega)
      have d0 := HA.out t hlt2 g rfl
      have ed : (lbS x)[t] = x.beds[t].bed := by simp [lbS]
      rw [ed] at d0
      have t0 : (0 : Int) ≤ (t : Int) := by omega
      have t1 : (t : Int) < (n : Int) := by omega
      by_cases e : x.beds[t].bed = bed
      · have HIT : Hid (P = (t : Int)) := by
          rw [Hid, HP.out]
          exact posS_hit hlt' (by simp [isBedS, e]) (fun j hj => HNO.out j (by omega) hj)
        rw [e] at d0
        clear e ed
        go_wp2
        go_ret
        exact ⟨by rw [HIT.out]; rfl, rfl⟩
      · have NX : Hid (∀ j, (hj : j < x.beds.length) → j < t + 1 → isBedS bed x.beds[j] = false) := fun j hj h => by
          by_cases q : j < t
          · exact HNO.out j hj q
          · obtain rfl : j = t := by omega
            simp [isBedS, e]
        have e' : (x.beds[t].bed == bed) = false := by rw [beq_eq_false_iff_ne]; exact e
        clear e ed
        generalize x.beds[t].bed = bb at *
        go_wp2
        go_round
        case rel => exact ⟨t + 1, by omega, by go_num, NX.out⟩
        case measure => simp [intOf]; omega
    · obtain rfl : t = n := by omega
      have t1 : ¬ (t : Int) < (t : Int) := by omega
      have MI : Hid (P = -1) := by
        rw [Hid, HP.out]
        exact posS_miss (fun j hj => HNO.out j hj (by have := HN.out; omega))
      go_wp2
      go_ret
      exact ⟨by rw [MI.out]; rfl, rfl⟩

theorem refLevel13_any (b : Nat) (bed : Int) (S : Nat → Prop) (x : Ctl) (w : World) (h : RCt S w b x) :
    Calls Try.prog 20 #[.pointer (some ⟨b, 0, none⟩), .int .i64 bed] w fun e w' => e = .returned (.int .i64 (levS x bed : Int)) ∧ Below w.heap.size w w' := by
  have FI := Hid.intro (refFind13_any b bed S x w h)
  obtain ⟨⟨vb, vp, vl, h⟩, ok⟩ := h
  have hf := ok.few
  rcases levS_pos x bed with ⟨e1, e2⟩ | ⟨i, hi, e1, e2⟩
  · rw [e2]
    rw [e1] at FI
    clear h e1 e2
    go_enter Try.func20, Try.ntmps20
    go_wp2_with fail
    refine FI.out.mono ?_
    rintro e w2 ⟨rfl, rfl⟩
    go_wp2
    go_ret
    exact ⟨rfl, Below.refl _ _⟩
  · rw [e2]
    rw [e1] at FI
    have hl : (llS x).length = x.beds.length := by simp [llS]
    have hi' : i < (llS x).length := by omega
    obtain ⟨_, _, _, _, k4, _⟩ := h.cells
    obtain ⟨ao, c, rfl, hz⟩ := ownsRow_form h.ol
    obtain ⟨g, rfl⟩ := hz.resolve_left (by omega)
    have d0 := row_at h.ol hi'
    have ed : (llS x)[i] = (x.beds[i].lv : Int) := by simp [llS]
    rw [ed] at d0
    rw [hl] at k4
    have i0 : (0 : Int) ≤ (i : Int) := by omega
    have i1 : (i : Int) < (x.beds.length : Int) := by omega
    generalize x.beds[i].lv = lv at *
    generalize x.beds.length = n at *
    clear h e1 e2 ed hi' hi hz hl ok
    go_enter Try.func20, Try.ntmps20
    go_wp2_with fail
    refine FI.out.mono ?_
    rintro e w2 ⟨rfl, rfl⟩
    go_wp2
    go_ret
    exact ⟨rfl, Below.refl _ _⟩

end Go.Proofs.Ythfmgdhhjnngaaa
