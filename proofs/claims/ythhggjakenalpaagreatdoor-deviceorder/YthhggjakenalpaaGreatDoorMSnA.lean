/- Several texts, one behind the other: SnVal SnFl SnK1 SnFts. -/
import Derived.Test.YthhggjakenalpaaGreatDoorFrmBase
import Derived.Test.YthhggjakenalpaaGreatDoorRsVal
import Derived.Test.YthhggjakenalpaaGreatDoorMPlain
import Derived.Laws.OwnMore
import Derived.Deep.AppendLies
/- Links, and lists of frames in memory. -/
namespace Go.Proofs.YthhggjakenalpaaGreatDoor
set_option maxRecDepth 100000
open Go.RowKit
open Bt

/-- A link as a value. -/
abbrev Lk (k n s wt ms : Int) : Value := .agg #[.int .i64 k, .int .i64 n, .int .i64 s, .int .i64 wt, .int .i64 ms]

/-- A list of frames, its block in R, what they carry in Q. -/
def FrsAt (R Q : Nat → Prop) (w : World) (v : Value) (fs : List FrV) : Prop :=
  ∃ ao cap, v = .slice ao fs.length cap ∧ (0 < fs.length → ∃ pb off, ao = some ⟨pb, off, none⟩ ∧ R pb ∧ ∀ t, (ht : t < fs.length) → ∃ a c,
    w.cell? ⟨pb, off + t * 6, none⟩ = some (.int .i64 fs[t].tx) ∧ w.cell? ⟨pb, off + t * 6 + 1, none⟩ = some (.int .i64 fs[t].sq) ∧ w.cell? ⟨pb, off + t * 6 + 2, none⟩ = some (.int .i64 fs[t].an) ∧
    w.cell? ⟨pb, off + t * 6 + 3, none⟩ = some (.int .i64 fs[t].rs) ∧ w.cell? ⟨pb, off + t * 6 + 4, none⟩ = some (.int .i64 fs[t].kd) ∧ w.cell? ⟨pb, off + t * 6 + 5, none⟩ = some (.slice a fs[t].data.length c) ∧
    Reads w a fs[t].data ∧ Room a c fs[t].data.length ∧ (0 < fs[t].data.length → ∀ ad, a = some ad → Q ad.block))

theorem reads_empty {w : World} {ao : Option Addr} : Reads w ao [] := fun h => by simp at h

theorem FrsAt.kept {R Q S : Nat → Prop} {w w' : World} {v : Value} {fs : List FrV} (h : FrsAt R Q w v fs) (hc : Chg S w w') (hR : ∀ k, R k → ¬ S k) (hQ : ∀ k, Q k → ¬ S k) : FrsAt R Q w' v fs := by
  obtain ⟨ao, cap, e, h⟩ := h
  refine ⟨ao, cap, e, fun h0 => ?_⟩
  obtain ⟨pb, off, ha, hb, hp⟩ := h h0
  refine ⟨pb, off, ha, hb, fun t ht => ?_⟩
  obtain ⟨a, c, c0, c1, c2, c3, c4, c5, r, m, n⟩ := hp t ht
  refine ⟨a, c, cell_chg hc c0 (hR _ hb), cell_chg hc c1 (hR _ hb), cell_chg hc c2 (hR _ hb), cell_chg hc c3 (hR _ hb), cell_chg hc c4 (hR _ hb), cell_chg hc c5 (hR _ hb), ?_, m, n⟩
  rcases Nat.eq_zero_or_pos fs[t].data.length with q | q
  · rw [List.eq_nil_of_length_eq_zero q]; exact reads_empty
  · exact r.kept hc (fun ad ha => hQ _ (n q ad ha))

theorem FrsAt.below {R Q : Nat → Prop} {w w' : World} {v : Value} {fs : List FrV} (h : FrsAt R Q w v fs) (hb : Below w.heap.size w w') : FrsAt R Q w' v fs := h.kept (below_chg hb) (fun _ _ => id) (fun _ _ => id)

theorem FrsAt.mono {R R' Q Q' : Nat → Prop} {w : World} {v : Value} {fs : List FrV} (h : FrsAt R Q w v fs) (hR : ∀ k, R k → R' k) (hQ : ∀ k, Q k → Q' k) : FrsAt R' Q' w v fs := by
  obtain ⟨ao, cap, e, hp⟩ := h
  refine ⟨ao, cap, e, fun h0 => ?_⟩
  obtain ⟨pb, off, ha, hb, hq⟩ := hp h0
  refine ⟨pb, off, ha, hR _ hb, fun t ht => ?_⟩
  obtain ⟨a, c, c0, c1, c2, c3, c4, c5, r, m, n⟩ := hq t ht
  exact ⟨a, c, c0, c1, c2, c3, c4, c5, r, m, fun h1 ad h2 => hQ _ (n h1 ad h2)⟩

theorem FrsAt.len {R Q : Nat → Prop} {w : World} {v : Value} {fs : List FrV} (h : FrsAt R Q w v fs) : ∃ ao cap, v = .slice ao fs.length cap := by
  obtain ⟨ao, cap, e, _⟩ := h
  exact ⟨ao, cap, e⟩

end Go.Proofs.YthhggjakenalpaaGreatDoor

/- Flights in memory: their cells one behind the other, their shards. -/
namespace Go.Proofs.YthhggjakenalpaaGreatDoor
set_option maxRecDepth 100000
open Go.RowKit
open Bt

/-- A flight's cells. -/
def fcell (P : Nat → Flt) (lv : Nat → Value) (i : Nat) : List Value := [.int .i64 ((P i).group : Int), .int .i64 ((P i).sent : Int), .int .i64 (P i).last, lv i, .bool (P i).there, .bool (P i).gone]

def fcells (P : Nat → Flt) (lv : Nat → Value) : Nat → List Value
  | 0 => []
  | t + 1 => fcells P lv t ++ fcell P lv t

theorem fcells_length (P : Nat → Flt) (lv : Nat → Value) (t : Nat) : (fcells P lv t).length = t * 6 := by
  induction t with
  | zero => rfl
  | succ t ih => rw [fcells, List.length_append, ih]; simp [fcell]; omega

theorem fcells_congr {P P' : Nat → Flt} {lv lv' : Nat → Value} {t : Nat} (h : ∀ i, i < t → P i = P' i ∧ lv i = lv' i) : fcells P lv t = fcells P' lv' t := by
  induction t with
  | zero => rfl
  | succ t ih => rw [fcells, fcells, ih (fun i hi => h i (by omega)), fcell, fcell, (h t (by omega)).1, (h t (by omega)).2]

theorem fcells_at (P : Nat → Flt) (lv : Nat → Value) {t i j : Nat} (h : i < t) (hj : j < 6) : (fcells P lv t)[i * 6 + j]? = (fcell P lv i)[j]? := by
  induction t with
  | zero => omega
  | succ t ih =>
    rw [fcells]
    have hl := fcells_length P lv t
    by_cases e : i < t
    · rw [List.getElem?_append_left (by omega)]
      exact ih e
    · obtain rfl : i = t := by omega
      rw [List.getElem?_append_right (by omega), hl, Nat.add_sub_cancel_left]

/-- A flight's shards in memory: their blocks in S, away from D. -/
def RowsIn (S D : Nat → Prop) (w : World) (v : Value) (L : List (List Nat)) : Prop :=
  ∃ (mb off mc : Nat) (A : Nat → Option Addr) (C : Nat → Nat), v = .slice (some ⟨mb, off, none⟩) L.length mc ∧ (S mb ∧ ¬ D mb) ∧ ∀ r, r < L.length → w.cell? ⟨mb, off + r, none⟩ = some (.slice (A r) (L.getD r []).length (C r)) ∧ Reads w (A r) (L.getD r []) ∧ Room (A r) (C r) (L.getD r []).length ∧ ∀ ad, A r = some ad → S ad.block ∧ ¬ D ad.block

theorem RowsIn.kept {S D T : Nat → Prop} {w w' : World} {v : Value} {L : List (List Nat)} (h : RowsIn S D w v L) (hc : Chg T w w') (hT : ∀ k, S k → ¬ D k → ¬ T k) : RowsIn S D w' v L := by
  obtain ⟨mb, off, mc, A, C, e, hm, hr⟩ := h
  refine ⟨mb, off, mc, A, C, e, hm, fun r hl => ?_⟩
  obtain ⟨q1, q2, q3, q4⟩ := hr r hl
  exact ⟨cell_chg hc q1 (hT _ hm.1 hm.2), q2.kept hc (fun ad ha => hT _ (q4 ad ha).1 (q4 ad ha).2), q3, q4⟩

theorem RowsIn.mono {S S' D D' : Nat → Prop} {w : World} {v : Value} {L : List (List Nat)} (h : RowsIn S D w v L) (hS : ∀ k, S k → ¬ D k → S' k ∧ ¬ D' k) : RowsIn S' D' w v L := by
  obtain ⟨mb, off, mc, A, C, e, hm, hr⟩ := h
  refine ⟨mb, off, mc, A, C, e, hS _ hm.1 hm.2, fun r hl => ?_⟩
  obtain ⟨q1, q2, q3, q4⟩ := hr r hl
  exact ⟨q1, q2, q3, fun ad ha => hS _ (q4 ad ha).1 (q4 ad ha).2⟩

/-- The sender's own block and its flights' block. -/
def headD (b : Nat) (v : Value) : Nat → Prop := fun k => k = b ∨ v.ownBlock = some k

theorem info_frm : (Tryz.prog.info? 55).map (fun i => (i.zero, i.size, i.bytes)) = some (some (.agg ZC), 6, 64) := by kernel_rfl

theorem fcells_one {P : Nat → Flt} {lv : Nat → Value} {n : Nat} (h : ∀ i, i < n → (lv i).oneCell' = true) : ∀ u ∈ fcells P lv n, u.oneCell' = true := by
  induction n with
  | zero => intro u hu; cases hu
  | succ n ih =>
    intro u hu
    rw [fcells] at hu
    rcases List.mem_append.1 hu with q | q
    · exact ih (fun i hi => h i (by omega)) u q
    · simp only [fcell, List.mem_cons, List.not_mem_nil, or_false] at q
      rcases q with rfl | rfl | rfl | rfl | rfl | rfl
      · rfl
      · rfl
      · rfl
      · exact h n (by omega)
      · rfl
      · rfl

theorem fcells_set (P : Nat → Flt) (lv : Nat → Value) {n i : Nat} (f : Flt) :
    (((((((fcells P lv n).set (i * 6) (.int .i64 (f.group : Int))).set (i * 6 + 1) (.int .i64 (f.sent : Int))).set (i * 6 + 2) (.int .i64 f.last)).set (i * 6 + 3) (lv i)).set (i * 6 + 4) (.bool f.there)).set (i * 6 + 5) (.bool f.gone)) = fcells (fun k => if k = i then f else P k) lv n := by
  apply List.ext_getElem?
  intro j
  have hl := fcells_length P lv n
  have hl2 := fcells_length (fun k => if k = i then f else P k) lv n
  by_cases hj : j < n * 6
  · have hj6 : j = (j / 6) * 6 + j % 6 := by omega
    have hq : j / 6 < n := by omega
    have hm : j % 6 < 6 := Nat.mod_lt _ (by decide)
    have e2 : (fcells (fun k => if k = i then f else P k) lv n)[j]? = (fcell (fun k => if k = i then f else P k) lv (j / 6))[j % 6]? := by
      conv => lhs; rw [hj6]
      exact fcells_at _ lv hq hm
    have e1 : (fcells P lv n)[j]? = (fcell P lv (j / 6))[j % 6]? := by
      conv => lhs; rw [hj6]
      exact fcells_at P lv hq hm
    rw [e2]
    simp only [List.getElem?_set, List.length_set, hl]
    by_cases e : j / 6 = i
    · have hc : fcell (fun k => if k = i then f else P k) lv (j / 6) = [.int .i64 (f.group : Int), .int .i64 (f.sent : Int), .int .i64 f.last, lv i, .bool f.there, .bool f.gone] := by rw [e]; simp [fcell]
      rw [hc]
      have cases6 : j % 6 = 0 ∨ j % 6 = 1 ∨ j % 6 = 2 ∨ j % 6 = 3 ∨ j % 6 = 4 ∨ j % 6 = 5 := by omega
      rcases cases6 with q | q | q | q | q | q
      · rw [q, if_neg (by omega), if_neg (by omega), if_neg (by omega), if_neg (by omega), if_neg (by omega), if_pos (by omega), if_pos (by omega)]; rfl
      · rw [q, if_neg (by omega), if_neg (by omega), if_neg (by omega), if_neg (by omega), if_pos (by omega), if_pos (by omega)]; rfl
      · rw [q, if_neg (by omega), if_neg (by omega), if_neg (by omega), if_pos (by omega), if_pos (by omega)]; rfl
      · rw [q, if_neg (by omega), if_neg (by omega), if_pos (by omega), if_pos (by omega)]; rfl
      · rw [q, if_neg (by omega), if_pos (by omega), if_pos (by omega)]; rfl
      · rw [q, if_pos (by omega), if_pos (by omega)]; rfl
    · rw [if_neg (by omega), if_neg (by omega), if_neg (by omega), if_neg (by omega), if_neg (by omega), if_neg (by omega), e1]
      unfold fcell
      simp only [if_neg e]
  · rw [List.getElem?_eq_none (by simp only [List.length_set]; omega), List.getElem?_eq_none (by omega)]

theorem set_sameF {l : List Value} {i : Nat} {u : Value} (h : l[i]? = some u) : l.set i u = l := by
  apply List.ext_getElem?
  intro j
  rw [List.getElem?_set]
  split
  · rename_i e
    subst e
    split
    · exact h.symm
    · rw [List.getElem?_eq_none (by omega)]
  · rfl

/-- A flight of which so often, when last, and whether it was given up are written. -/
theorem fcells_set3 (P : Nat → Flt) (lv : Nat → Value) {n i : Nat} (f : Flt) (hi : i < n) (hg : f.group = (P i).group) (ht : f.there = (P i).there) :
    ((((fcells P lv n).set (i * 6 + 5) (.bool f.gone)).set (i * 6 + 1) (.int .i64 (f.sent : Int))).set (i * 6 + 2) (.int .i64 f.last)) = fcells (fun k => if k = i then f else P k) lv n := by
  rw [← fcells_set P lv f]
  have c0 : (fcells P lv n)[i * 6]? = some (.int .i64 (f.group : Int)) := by have := fcells_at P lv hi (j := 0) (by omega); rw [hg]; exact this
  have c3 : (fcells P lv n)[i * 6 + 3]? = some (lv i) := fcells_at P lv hi (j := 3) (by omega)
  have c4 : (fcells P lv n)[i * 6 + 4]? = some (.bool f.there) := by have := fcells_at P lv hi (j := 4) (by omega); rw [ht]; exact this
  generalize fcells P lv n = l at c0 c3 c4 ⊢
  rw [set_sameF c0]
  have d3 : ((l.set (i * 6 + 1) (.int .i64 (f.sent : Int))).set (i * 6 + 2) (.int .i64 f.last))[i * 6 + 3]? = some (lv i) := by
    rw [List.getElem?_set_ne (by omega), List.getElem?_set_ne (by omega)]; exact c3
  rw [set_sameF d3]
  have d4 : ((l.set (i * 6 + 1) (.int .i64 (f.sent : Int))).set (i * 6 + 2) (.int .i64 f.last))[i * 6 + 4]? = some (.bool f.there) := by
    rw [List.getElem?_set_ne (by omega), List.getElem?_set_ne (by omega)]; exact c4
  rw [set_sameF d4]
  rw [List.set_comm _ _ (by omega : i * 6 + 5 ≠ i * 6 + 1)]
  rw [List.set_comm _ _ (by omega : i * 6 + 5 ≠ i * 6 + 2)]

theorem fcells_set2 (P : Nat → Flt) (lv : Nat → Value) {n i : Nat} (f : Flt) (hi : i < n) (hg : f.group = (P i).group) (ht : f.there = (P i).there) (ho : f.gone = (P i).gone) :
    (((fcells P lv n).set (i * 6 + 1) (.int .i64 (f.sent : Int))).set (i * 6 + 2) (.int .i64 f.last)) = fcells (fun k => if k = i then f else P k) lv n := by
  rw [← fcells_set3 P lv f hi hg ht]
  have c5 : (fcells P lv n)[i * 6 + 5]? = some (.bool f.gone) := by have := fcells_at P lv hi (j := 5) (by omega); rw [ho]; exact this
  rw [set_sameF c5]

/-- A new flight. -/
def newF (x : Snd) (bs : List Nat) : Flt := ⟨x.next, 0, 0, encL x.K x.N x.S bs, false, false⟩

end Go.Proofs.YthhggjakenalpaaGreatDoor

/- Package sender: a sender in memory. -/
namespace Go.Proofs.YthhggjakenalpaaGreatDoor
set_option maxRecDepth 100000
open Go.RowKit
open Bt

/-- A sender: its own block, its flights' list, each flight's shards. -/
structure NS (M : Nat) (S : Nat → Prop) (w : World) (b : Nat) (v : Value) (n : Nat) (P : Nat → Flt) (lv : Nat → Value) (x : Snd) : Prop where
  head : w.heap[b]? = some (.cells #[.int .i64 (x.tx : Int), .int .i64 (x.next : Int), .int .i64 (x.lost : Int), .int .i64 (x.K : Int), .int .i64 (x.N : Int), .int .i64 (x.S : Int), .int .i64 (x.wait : Int), .int .i64 (x.most : Int), v] 118 (0, 0))
  fl : x.fl = (List.range n).map P
  own : w.ownsRow 0 129 6 v n (fcells P lv n)
  rows : ∀ i, i < n → RowsIn S (headD b v) w (lv i) (P i).rows
  inB : S b
  inV : ∀ k, v.ownBlock = some k → S k ∧ k ≠ b
  zero : n = 0 → v = .slice none 0 0
  lt : ∀ k, S k → k < w.heap.size
  ok : x.Ok M

def Sndr (M : Nat) (S : Nat → Prop) (w : World) (b : Nat) (x : Snd) : Prop := ∃ v n P lv, NS M S w b v n P lv x

variable {M : Nat} {S : Nat → Prop} {w w' : World} {b n : Nat} {v : Value} {P : Nat → Flt} {lv : Nat → Value} {x : Snd}

theorem NS.kept {T : Nat → Prop} (h : NS M S w b v n P lv x) (hc : Chg T w w') (hT : ∀ k, S k → ¬ T k) : NS M S w' b v n P lv x :=
  ⟨(hc.block b (h.lt b h.inB) (hT b h.inB)).trans h.head, h.fl, ownsRow_keep h.own fun k hk => hc.block k (World.ownsRow.lt h.own k hk).2 (hT k (h.inV k hk).1), fun i hi => (h.rows i hi).kept hc (fun k hk _ => hT k hk),
    h.inB, h.inV, h.zero, fun k hk => Nat.lt_of_lt_of_le (h.lt k hk) hc.size, h.ok⟩

theorem NS.below (h : NS M S w b v n P lv x) (hb : Below w.heap.size w w') : NS M S w' b v n P lv x := h.kept (below_chg hb) (fun _ _ => id)

theorem Sndr.kept {T : Nat → Prop} (h : Sndr M S w b x) (hc : Chg T w w') (hT : ∀ k, S k → ¬ T k) : Sndr M S w' b x := by
  obtain ⟨v, n, P, lv, h⟩ := h
  exact ⟨v, n, P, lv, h.kept hc hT⟩

theorem NS.more {M' : Nat} (h : NS M S w b v n P lv x) (hM : M ≤ M') : NS M' S w b v n P lv x :=
  ⟨h.head, h.fl, h.own, h.rows, h.inB, h.inV, h.zero, h.lt, h.ok.more hM⟩

theorem Sndr.ok (h : Sndr M S w b x) : x.Ok M := by
  obtain ⟨v, n, P, lv, h⟩ := h
  exact h.ok

theorem Sndr.lt (h : Sndr M S w b x) : ∀ k, S k → k < w.heap.size := by
  obtain ⟨v, n, P, lv, h⟩ := h
  exact h.lt

theorem Sndr.more {M' : Nat} (h : Sndr M S w b x) (hM : M ≤ M') : Sndr M' S w b x := by
  obtain ⟨v, n, P, lv, h⟩ := h
  exact ⟨v, n, P, lv, h.more hM⟩

theorem NS.len (h : NS M S w b v n P lv x) : x.fl.length = n := by rw [h.fl]; simp

theorem NS.cells (h : NS M S w b v n P lv x) : w.cell? ⟨b, 0, none⟩ = some (.int .i64 (x.tx : Int)) ∧ w.cell? ⟨b, 1, none⟩ = some (.int .i64 (x.next : Int)) ∧ w.cell? ⟨b, 2, none⟩ = some (.int .i64 (x.lost : Int)) ∧ w.cell? ⟨b, 3, none⟩ = some (.int .i64 (x.K : Int)) ∧ w.cell? ⟨b, 4, none⟩ = some (.int .i64 (x.N : Int)) ∧ w.cell? ⟨b, 5, none⟩ = some (.int .i64 (x.S : Int)) ∧ w.cell? ⟨b, 6, none⟩ = some (.int .i64 (x.wait : Int)) ∧ w.cell? ⟨b, 7, none⟩ = some (.int .i64 (x.most : Int)) ∧ w.cell? ⟨b, 8, none⟩ = some v :=
  ⟨by rw [cell_of_row w _ 0 _ _ _ h.head]; rfl, by rw [cell_of_row w _ 1 _ _ _ h.head]; rfl, by rw [cell_of_row w _ 2 _ _ _ h.head]; rfl, by rw [cell_of_row w _ 3 _ _ _ h.head]; rfl, by rw [cell_of_row w _ 4 _ _ _ h.head]; rfl, by rw [cell_of_row w _ 5 _ _ _ h.head]; rfl, by rw [cell_of_row w _ 6 _ _ _ h.head]; rfl, by rw [cell_of_row w _ 7 _ _ _ h.head]; rfl, by rw [cell_of_row w _ 8 _ _ _ h.head]; rfl⟩

/-- Where the flights lie. -/
theorem NS.form (h : NS M S w b v n P lv x) : ∃ ao c, v = .slice ao n c ∧ (n = 0 ∨ ∃ g, ao = some ⟨g, 0, none⟩) := ownsRow_form h.own

theorem NS.flight {g c : Nat} (h : NS M S w b (.slice (some ⟨g, 0, none⟩) n c) n P lv x) {i : Nat} (hi : i < n) : w.cell? ⟨g, i * 6, none⟩ = some (.int .i64 ((P i).group : Int)) ∧ w.cell? ⟨g, i * 6 + 1, none⟩ = some (.int .i64 ((P i).sent : Int)) ∧ w.cell? ⟨g, i * 6 + 2, none⟩ = some (.int .i64 (P i).last) ∧ w.cell? ⟨g, i * 6 + 3, none⟩ = some (lv i) ∧ w.cell? ⟨g, i * 6 + 4, none⟩ = some (.bool (P i).there) ∧ w.cell? ⟨g, i * 6 + 5, none⟩ = some (.bool (P i).gone) := by
  have q : ∀ j, j < 6 → w.cell? ⟨g, i * 6 + j, none⟩ = (fcell P lv i)[j]? := fun j hj => by
    rw [h.own.cellAt (i * 6 + j) (by omega)]
    exact fcells_at P lv hi hj
  exact ⟨q 0 (by omega), q 1 (by omega), q 2 (by omega), q 3 (by omega), q 4 (by omega), q 5 (by omega)⟩

theorem NS.mem (h : NS M S w b v n P lv x) {i : Nat} (hi : i < n) : P i ∈ x.fl := by rw [h.fl]; exact List.mem_map.2 ⟨i, List.mem_range.2 hi, rfl⟩

theorem NS.ofOk (h : NS M S w b v n P lv x) {i : Nat} (hi : i < n) : (P i).Ok x.N x.S := h.ok.each _ (h.mem hi)

theorem info_nflt : (Tryz.prog.info? 129).map (fun i => (i.zero, i.size, i.bytes)) = some (some (.agg #[.int .i64 0, .int .i64 0, .int .i64 0, .slice none 0 0, .bool false, .bool false]), 6, 56) := by kernel_rfl

/-- What a call leaves: but for the sender's own blocks, and new ones, all as it was. -/
def LeftN (M : Nat) (S : Nat → Prop) (w w' : World) (b : Nat) (x : Snd) : Prop := ∃ S', Sndr M S' w' b x ∧ Chg S w w' ∧ ∀ k, S' k → S k ∨ w.heap.size ≤ k

end Go.Proofs.YthhggjakenalpaaGreatDoor

/- Frames that are being made: their cells one behind the other; a list of them whose data lie in new memory. -/
namespace Go.Proofs.YthhggjakenalpaaGreatDoor
set_option maxRecDepth 100000
open Go.RowKit
open Bt

def fr0 : FrV := ⟨0, 0, 0, 0, 0, []⟩

def frcell (fs : List FrV) (ad : Nat → Option Addr) (cp : Nat → Nat) (i : Nat) : List Value := [.int .i64 (fs.getD i fr0).tx, .int .i64 (fs.getD i fr0).sq, .int .i64 (fs.getD i fr0).an, .int .i64 (fs.getD i fr0).rs, .int .i64 (fs.getD i fr0).kd, .slice (ad i) (fs.getD i fr0).data.length (cp i)]

def frcells (fs : List FrV) (ad : Nat → Option Addr) (cp : Nat → Nat) : Nat → List Value
  | 0 => []
  | t + 1 => frcells fs ad cp t ++ frcell fs ad cp t

theorem frcells_length (fs : List FrV) (ad : Nat → Option Addr) (cp : Nat → Nat) (t : Nat) : (frcells fs ad cp t).length = t * 6 := by
  induction t with
  | zero => rfl
  | succ t ih => rw [frcells, List.length_append, ih]; simp [frcell]; omega

theorem frcells_congr {fs fs' : List FrV} {ad ad' : Nat → Option Addr} {cp cp' : Nat → Nat} {t : Nat} (h : ∀ i, i < t → fs.getD i fr0 = fs'.getD i fr0 ∧ ad i = ad' i ∧ cp i = cp' i) : frcells fs ad cp t = frcells fs' ad' cp' t := by
  induction t with
  | zero => rfl
  | succ t ih => rw [frcells, frcells, ih (fun i hi => h i (by omega)), frcell, frcell, (h t (by omega)).1, (h t (by omega)).2.1, (h t (by omega)).2.2]

theorem frcells_at (fs : List FrV) (ad : Nat → Option Addr) (cp : Nat → Nat) {t i j : Nat} (h : i < t) (hj : j < 6) : (frcells fs ad cp t)[i * 6 + j]? = (frcell fs ad cp i)[j]? := by
  induction t with
  | zero => omega
  | succ t ih =>
    rw [frcells]
    have hl := frcells_length fs ad cp t
    by_cases e : i < t
    · rw [List.getElem?_append_left (by omega)]
      exact ih e
    · obtain rfl : i = t := by omega
      rw [List.getElem?_append_right (by omega), hl, Nat.add_sub_cancel_left]

theorem fr_snoc {fs : List FrV} {f : FrV} {i : Nat} (h : i < fs.length) : (fs ++ [f]).getD i fr0 = fs.getD i fr0 := by
  rw [List.getD_eq_getElem?_getD, List.getElem?_append_left h, ← List.getD_eq_getElem?_getD]

theorem fr_last (fs : List FrV) (f : FrV) : (fs ++ [f]).getD fs.length fr0 = f := by
  rw [List.getD_eq_getElem?_getD, List.getElem?_append_right (Nat.le_refl _)]; simp


theorem fr_left {fs gs : List FrV} {i : Nat} (h : i < fs.length) : (fs ++ gs).getD i fr0 = fs.getD i fr0 := by
  rw [List.getD_eq_getElem?_getD, List.getElem?_append_left h, ← List.getD_eq_getElem?_getD]

theorem fr_right {fs gs : List FrV} {i : Nat} (h : fs.length ≤ i) : (fs ++ gs).getD i fr0 = gs.getD (i - fs.length) fr0 := by
  rw [List.getD_eq_getElem?_getD, List.getElem?_append_right h, ← List.getD_eq_getElem?_getD]

/-- Two lists one behind the other. -/
def apA {α : Type} (n : Nat) (f g : Nat → α) (i : Nat) : α := if i < n then f i else g (i - n)

theorem frcells_app (fs gs : List FrV) (ad ad2 : Nat → Option Addr) (cp cp2 : Nat → Nat) (t : Nat) :
    frcells (fs ++ gs) (apA fs.length ad ad2) (apA fs.length cp cp2) (fs.length + t) = frcells fs ad cp fs.length ++ frcells gs ad2 cp2 t := by
  induction t with
  | zero =>
    rw [Nat.add_zero, frcells, List.append_nil]
    exact frcells_congr fun i hi => ⟨fr_left hi, if_pos hi, if_pos hi⟩
  | succ t ih =>
    rw [← Nat.add_assoc, frcells, ih, frcells, List.append_assoc]
    congr 2
    unfold frcell
    rw [fr_right (Nat.le_add_right _ _), Nat.add_sub_cancel_left]
    unfold apA
    rw [if_neg (by omega), if_neg (by omega), Nat.add_sub_cancel_left]

theorem frcells_one (fs : List FrV) (ad : Nat → Option Addr) (cp : Nat → Nat) (t : Nat) : ∀ u ∈ frcells fs ad cp t, u.oneCell' = true := by
  induction t with
  | zero => intro u hu; cases hu
  | succ t ih =>
    intro u hu
    rw [frcells] at hu
    rcases List.mem_append.1 hu with q | q
    · exact ih u q
    · simp only [frcell, List.mem_cons, List.not_mem_nil, or_false] at q
      rcases q with rfl | rfl | rfl | rfl | rfl | rfl <;> rfl

/-- What frames carry: where it lies, from B on. -/
def DatsAt (B : Nat) (w : World) (fs : List FrV) (ad : Nat → Option Addr) (cp : Nat → Nat) : Prop :=
  ∀ i, i < fs.length → Reads w (ad i) (fs.getD i fr0).data ∧ Room (ad i) (cp i) (fs.getD i fr0).data.length ∧ (0 < (fs.getD i fr0).data.length → ∀ a, ad i = some a → B ≤ a.block)

/-- Frames so far: the list's block its own, what they carry in new memory. -/
structure FtsN (B : Nat) (w : World) (v : Value) (fs : List FrV) (ad : Nat → Option Addr) (cp : Nat → Nat) : Prop where
  own : w.ownsRow 0 55 6 v fs.length (frcells fs ad cp fs.length)
  ap : ∀ k, v.ownBlock = some k → B ≤ k
  dat : DatsAt B w fs ad cp
  ne : ∀ i, i < fs.length → 0 < (fs.getD i fr0).data.length → ∀ a, ad i = some a → v.ownBlock ≠ some a.block

variable {B : Nat} {w w' wr : World} {v : Value} {fs : List FrV} {ad : Nat → Option Addr} {cp : Nat → Nat}

theorem FtsN.start : FtsN B w (.slice none 0 0) [] ad cp := ⟨World.ownsRow_nil _ _ _ _, fun k h => by simp [Value.ownBlock] at h, fun i h => by simp at h, fun i h => by simp at h⟩

theorem reads_ltN {w : World} {ad : Addr} {bs : List Nat} (h : Reads w (some ad) bs) (h0 : 0 < bs.length) : ad.block < w.heap.size := by
  obtain ⟨b, off, e, hc⟩ := reads_at h h0
  cases e
  exact cell_lt (hc 0 h0)

theorem reads_keptN {T : Nat → Prop} {w w' : World} {ao : Option Addr} {bs : List Nat} (h : Reads w ao bs) (hc : Chg T w w') (hT : 0 < bs.length → ∀ a, ao = some a → ¬ T a.block) : Reads w' ao bs := by
  rcases Nat.eq_zero_or_pos bs.length with q | q
  · rw [List.eq_nil_of_length_eq_zero q]; exact reads_empty
  · exact h.kept hc (hT q)

theorem FtsN.kept {T : Nat → Prop} (h : FtsN B w v fs ad cp) (hc : Chg T w w') (h1 : ∀ k, B ≤ k → ¬ T k) : FtsN B w' v fs ad cp :=
  ⟨ownsRow_keep h.own fun k hk => hc.block k (World.ownsRow.lt h.own k hk).2 (h1 k (h.ap k hk)), h.ap, fun i hi => ⟨reads_keptN (h.dat i hi).1 hc (fun q a ha => h1 _ ((h.dat i hi).2.2 q a ha)), (h.dat i hi).2⟩, h.ne⟩

theorem FtsN.below (h : FtsN B w v fs ad cp) (hb : Below w.heap.size w w') : FtsN B w' v fs ad cp := h.kept (below_chg hb) (fun _ _ => id)

/-- Frames more: what the new ones carry lies from H on, behind the list's block. -/
theorem FtsN.appS {H : Nat} {W w7 : World} {g7 c7 : Nat} {gs : List FrV} {ad2 : Nat → Option Addr} {cp2 : Nat → Nat} (h : FtsN B W v fs ad cp) (hH : H ≤ W.heap.size) (hB : B ≤ H) (hv : ∀ k, v.ownBlock = some k → k < H)
    (hown : w7.ownsRow 0 55 6 (.slice (some ⟨g7, 0, none⟩) (fs.length + gs.length) c7) (fs.length + gs.length) (frcells fs ad cp fs.length ++ frcells gs ad2 cp2 gs.length))
    (hgrow : W.grownBy w7 v.ownBlock) (hat : v.ownBlock = some g7 ∨ g7 = W.heap.size) (hd : DatsAt H W gs ad2 cp2) :
    FtsN B w7 (.slice (some ⟨g7, 0, none⟩) (fs.length + gs.length) c7) (fs ++ gs) (apA fs.length ad ad2) (apA fs.length cp cp2) := by
  have CW : Chg (fun q => v.ownBlock = some q) W w7 := (Chg.refl (fun _ => False) W |>.mono (fun _ q _ => q.elim)).grown hgrow (fun q hq _ => hq)
  have hl : (fs ++ gs).length = fs.length + gs.length := by simp
  refine ⟨?_, fun k hk => ?_, fun i hi => ?_, fun i hi q a ha => ?_⟩
  · rw [hl, frcells_app]
    exact hown
  · obtain rfl : g7 = k := by simpa [Value.ownBlock] using hk
    rcases hat with q | q
    · exact h.ap _ q
    · omega
  · by_cases e : i < fs.length
    · rw [fr_left e]
      simp only [apA, if_pos e]
      have := h.dat i e
      exact ⟨reads_keptN this.1 CW (fun q a ha => fun q2 => h.ne i e q a ha q2), this.2⟩
    · rw [fr_right (by omega)]
      simp only [apA, if_neg e]
      have := hd (i - fs.length) (by omega)
      refine ⟨reads_keptN this.1 CW (fun q a ha q2 => ?_), this.2.1, fun q a ha => Nat.le_trans hB (this.2.2 q a ha)⟩
      have := this.2.2 q a ha
      have := hv _ q2
      omega
  · intro hk
    have hg : g7 = a.block := by simpa [Value.ownBlock] using hk
    by_cases e : i < fs.length
    · rw [fr_left e] at q
      simp only [apA, if_pos e] at ha
      rcases hat with q2 | q2
      · exact h.ne i e q a ha (by rw [← hg]; exact q2)
      · have hr := (h.dat i e).1
        rw [ha] at hr
        have := reads_ltN hr q
        omega
    · rw [fr_right (by omega)] at q
      simp only [apA, if_neg e] at ha
      have hh := hd (i - fs.length) (by omega)
      have h2 := hh.2.2 q a ha
      rcases hat with q2 | q2
      · have := hv _ q2; omega
      · have hr := hh.1
        rw [ha] at hr
        have := reads_ltN hr q
        omega

theorem FtsN.frs (h : FtsN B w v fs ad cp) : FrsAt (fun k => B ≤ k ∧ k < w.heap.size) (fun k => B ≤ k) w v fs := by
  obtain ⟨ao, cap, rfl, hf⟩ := ownsRow_form h.own
  refine ⟨ao, cap, rfl, fun h0 => ?_⟩
  rcases hf with hf | ⟨g, rfl⟩
  · omega
  · refine ⟨g, 0, rfl, ⟨h.ap g rfl, (World.ownsRow.lt h.own g rfl).2⟩, fun i hi => ?_⟩
    have e : fs[i] = fs.getD i fr0 := by simp [hi]
    have q : ∀ j, j < 6 → w.cell? ⟨g, i * 6 + j, none⟩ = (frcell fs ad cp i)[j]? := fun j hj => by
      rw [h.own.cellAt (i * 6 + j) (by omega)]
      exact frcells_at fs ad cp hi hj
    obtain ⟨r1, r2, r3⟩ := h.dat i hi
    rw [e]
    simp only [Nat.zero_add]
    exact ⟨ad i, cp i, q 0 (by omega), q 1 (by omega), q 2 (by omega), q 3 (by omega), q 4 (by omega), q 5 (by omega), r1, r2, fun hp a ha => r3 hp a ha⟩

/-- A frame is written. -/
theorem frcells_set (fs : List FrV) (ad : Nat → Option Addr) (cp : Nat → Nat) {n i : Nat} (f : FrV) (a : Option Addr) (c : Nat) (hf : i < fs.length) :
    (((((((frcells fs ad cp n).set (i * 6) (.int .i64 f.tx)).set (i * 6 + 1) (.int .i64 f.sq)).set (i * 6 + 2) (.int .i64 f.an)).set (i * 6 + 3) (.int .i64 f.rs)).set (i * 6 + 4) (.int .i64 f.kd)).set (i * 6 + 5) (.slice a f.data.length c)) = frcells (fs.set i f) (fun k => if k = i then a else ad k) (fun k => if k = i then c else cp k) n := by
  apply List.ext_getElem?
  intro j
  have hl := frcells_length fs ad cp n
  have hl2 := frcells_length (fs.set i f) (fun k => if k = i then a else ad k) (fun k => if k = i then c else cp k) n
  by_cases hj : j < n * 6
  · have hj6 : j = (j / 6) * 6 + j % 6 := by omega
    have hq : j / 6 < n := by omega
    have hm : j % 6 < 6 := Nat.mod_lt _ (by decide)
    have e2 : (frcells (fs.set i f) (fun k => if k = i then a else ad k) (fun k => if k = i then c else cp k) n)[j]? = (frcell (fs.set i f) (fun k => if k = i then a else ad k) (fun k => if k = i then c else cp k) (j / 6))[j % 6]? := by
      conv => lhs; rw [hj6]
      exact frcells_at _ _ _ hq hm
    have e1 : (frcells fs ad cp n)[j]? = (frcell fs ad cp (j / 6))[j % 6]? := by
      conv => lhs; rw [hj6]
      exact frcells_at _ _ _ hq hm
    rw [e2]
    simp only [List.getElem?_set, List.length_set, hl]
    by_cases e : j / 6 = i
    · have hg : (fs.set i f).getD i fr0 = f := by rw [List.getD_eq_getElem?_getD, List.getElem?_set_self hf]; rfl
      have hc : frcell (fs.set i f) (fun k => if k = i then a else ad k) (fun k => if k = i then c else cp k) (j / 6) = [.int .i64 f.tx, .int .i64 f.sq, .int .i64 f.an, .int .i64 f.rs, .int .i64 f.kd, .slice a f.data.length c] := by rw [e]; unfold frcell; rw [hg]; simp
      rw [hc]
      have cases6 : j % 6 = 0 ∨ j % 6 = 1 ∨ j % 6 = 2 ∨ j % 6 = 3 ∨ j % 6 = 4 ∨ j % 6 = 5 := by omega
      rcases cases6 with q | q | q | q | q | q
      · rw [q, if_neg (by omega), if_neg (by omega), if_neg (by omega), if_neg (by omega), if_neg (by omega), if_pos (by omega), if_pos (by omega)]; rfl
      · rw [q, if_neg (by omega), if_neg (by omega), if_neg (by omega), if_neg (by omega), if_pos (by omega), if_pos (by omega)]; rfl
      · rw [q, if_neg (by omega), if_neg (by omega), if_neg (by omega), if_pos (by omega), if_pos (by omega)]; rfl
      · rw [q, if_neg (by omega), if_neg (by omega), if_pos (by omega), if_pos (by omega)]; rfl
      · rw [q, if_neg (by omega), if_pos (by omega), if_pos (by omega)]; rfl
      · rw [q, if_pos (by omega), if_pos (by omega)]; rfl
    · rw [if_neg (by omega), if_neg (by omega), if_neg (by omega), if_neg (by omega), if_neg (by omega), if_neg (by omega), e1]
      unfold frcell
      have hg : (fs.set i f).getD (j / 6) fr0 = fs.getD (j / 6) fr0 := by rw [List.getD_eq_getElem?_getD, List.getElem?_set_ne (fun q => e q.symm), ← List.getD_eq_getElem?_getD]
      rw [hg]
      simp only [if_neg e]
  · rw [List.getElem?_eq_none (by simp only [List.length_set]; omega), List.getElem?_eq_none (by omega)]

end Go.Proofs.YthhggjakenalpaaGreatDoor
