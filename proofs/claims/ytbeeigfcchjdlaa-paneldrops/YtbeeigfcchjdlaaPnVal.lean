/- Alarms as cells; a panel in memory, the program's and the document's. -/
import Derived.Test.YtbeeigfcchjdlaaPnPure
import Derived.Test.YtbeeigfcchjdlaaApRow
import Derived.Test.YtbeeigfcchjdlaaOwnG
namespace Go.Proofs.Ytbeeigfcchjdlaa
open Go.RowKit
open Pn

/-- An alarm as a value. -/
abbrev Avv (a : Al) : Value := .agg #[.int .i64 a.bed, .int .i64 a.kind, .int .i64 a.since, .bool a.on, .bool a.acked]

def acell (x : Al) : List Value := [.int .i64 x.bed, .int .i64 x.kind, .int .i64 x.since, .bool x.on, .bool x.acked]

def acells (l : List Al) : List Value := l.flatMap acell

theorem acells_append (l m : List Al) : acells (l ++ m) = acells l ++ acells m := by simp [acells]

theorem acells_length (l : List Al) : (acells l).length = l.length * 5 := by
  induction l with
  | nil => rfl
  | cons b l ih => rw [show acells (b :: l) = acell b ++ acells l from rfl, List.length_append, ih, List.length_cons]; simp [acell]; omega

theorem acells_at (l : List Al) {i j : Nat} (h : i < l.length) (hj : j < 5) : (acells l)[i * 5 + j]? = (acell l[i])[j]? := by
  induction l generalizing i with
  | nil => exact absurd h (by simp)
  | cons b l ih =>
    rw [show acells (b :: l) = acell b ++ acells l from rfl]
    have hs : (acell b).length = 5 := rfl
    cases i with
    | zero => rw [List.getElem?_append_left (by omega)]; simp
    | succ i =>
      rw [List.getElem?_append_right (by omega), hs, show (i + 1) * 5 + j - 5 = i * 5 + j by omega]
      exact ih (by simpa using h)

theorem acell_onecell (b : Al) : ∀ u ∈ acell b, u.oneCell' = true := by
  intro u hb
  simp only [acell, List.mem_cons, List.not_mem_nil, or_false] at hb
  rcases hb with rfl | rfl | rfl | rfl | rfl <;> rfl

theorem acells_onecell (l : List Al) : ∀ u ∈ acells l, u.oneCell' = true := by
  intro u hu
  obtain ⟨b, _, hb⟩ := List.mem_flatMap.1 hu
  exact acell_onecell b u hb

theorem acells_set (l : List Al) {i k : Nat} (hi : i < l.length) (hk : k < 5) {y : Al} {v : Value} (hy : acell y = (acell l[i]).set k v) : (acells l).set (i * 5 + k) v = acells (l.set i y) := by
  induction l generalizing i with
  | nil => exact absurd hi (by simp)
  | cons b l ih =>
    rw [show acells (b :: l) = acell b ++ acells l from rfl]
    have hs : (acell b).length = 5 := rfl
    cases i with
    | zero =>
      rw [List.set_append_left _ _ (by omega), Nat.zero_mul, Nat.zero_add]
      rw [show ((b :: l).set 0 y) = y :: l from rfl, show acells (y :: l) = acell y ++ acells l from rfl, hy]
      rfl
    | succ i =>
      rw [List.set_append_right _ _ (by omega), hs, show (i + 1) * 5 + k - 5 = i * 5 + k by omega, ih (by simpa using hi) hy]
      rfl

/-- One alarm's cells. -/
def AlAt (w : World) (g o : Nat) (x : Al) : Prop := w.cell? ⟨g, o, none⟩ = some (.int .i64 x.bed) ∧ w.cell? ⟨g, o + 1, none⟩ = some (.int .i64 x.kind) ∧ w.cell? ⟨g, o + 2, none⟩ = some (.int .i64 x.since) ∧ w.cell? ⟨g, o + 3, none⟩ = some (.bool x.on) ∧ w.cell? ⟨g, o + 4, none⟩ = some (.bool x.acked)

theorem AlAt.chg {S : Nat → Prop} {w w' : World} {b o : Nat} {a : Al} (h : AlAt w b o a) (hc : Chg S w w') (hb : ¬ S b) : AlAt w' b o a := ⟨cell_chg hc h.1 hb, cell_chg hc h.2.1 hb, cell_chg hc h.2.2.1 hb, cell_chg hc h.2.2.2.1 hb, cell_chg hc h.2.2.2.2 hb⟩

theorem al_at {w : World} {e : TypeId} {L : List Al} {n c g : Nat} (h : w.ownsRow 0 e 5 (.slice (some ⟨g, 0, none⟩) n c) n (acells L)) {t : Nat} (ht : t < L.length) : AlAt w g (t * 5) L[t] := by
  have hl : L.length = n := by have := h.1; rw [acells_length] at this; omega
  have q : ∀ j, j < 5 → w.cell? ⟨g, t * 5 + j, none⟩ = (acell L[t])[j]? := fun j hj => by
    rw [h.cellAt (t * 5 + j) (by omega)]
    exact acells_at L ht hj
  exact ⟨q 0 (by omega), q 1 (by omega), q 2 (by omega), q 3 (by omega), q 4 (by omega)⟩

theorem frozen_ownA {w : World} {e : TypeId} {sz g n c : Nat} {xs : List Value} (h : w.ownsRow 0 e sz (.slice (some ⟨g, 0, none⟩) n c) n xs) (j : Nat) : w.frozen? ⟨g, j, none⟩ = false := by
  rcases h.2 with ⟨e, _⟩ | ⟨g', c', cur, e, _, hg, _⟩
  · cases e
  · cases e
    exact frozen_of_row w g j _ _ hg

/-- An alarm's five cells written. -/
def setAC (w : World) (g o : Nat) (a : Al) : World := ((((w.setCell ⟨g, o, none⟩ (.int .i64 a.bed)).setCell ⟨g, o + 1, none⟩ (.int .i64 a.kind)).setCell ⟨g, o + 2, none⟩ (.int .i64 a.since)).setCell ⟨g, o + 3, none⟩ (.bool a.on)).setCell ⟨g, o + 4, none⟩ (.bool a.acked)

theorem acells_put (l : List Al) {i : Nat} (hi : i < l.length) (s : Al) :
    ((((((acells l).set (i * 5) (.int .i64 s.bed)).set (i * 5 + 1) (.int .i64 s.kind)).set (i * 5 + 2) (.int .i64 s.since)).set (i * 5 + 3) (.bool s.on)).set (i * 5 + 4) (.bool s.acked)) = acells (l.set i s) := by
  have h0 := acells_set l (i := i) (k := 0) (y := { l[i] with bed := s.bed }) (v := .int .i64 s.bed) hi (by omega) rfl
  rw [Nat.add_zero] at h0
  rw [h0]
  have hi1 : i < (l.set i { l[i] with bed := s.bed }).length := by simpa using hi
  rw [acells_set _ (k := 1) (y := { l[i] with bed := s.bed, kind := s.kind }) hi1 (by omega) (by simp [acell]), List.set_set]
  have hi2 : i < (l.set i { l[i] with bed := s.bed, kind := s.kind }).length := by simpa using hi
  rw [acells_set _ (k := 2) (y := { l[i] with bed := s.bed, kind := s.kind, since := s.since }) hi2 (by omega) (by simp [acell]), List.set_set]
  have hi3 : i < (l.set i { l[i] with bed := s.bed, kind := s.kind, since := s.since }).length := by simpa using hi
  rw [acells_set _ (k := 3) (y := { l[i] with bed := s.bed, kind := s.kind, since := s.since, on := s.on }) hi3 (by omega) (by simp [acell]), List.set_set]
  have hi4 : i < (l.set i { l[i] with bed := s.bed, kind := s.kind, since := s.since, on := s.on }).length := by simpa using hi
  rw [acells_set _ (k := 4) (y := s) hi4 (by omega) (by simp [acell]), List.set_set]

theorem owns_setAC {w : World} {e : TypeId} {g c n i : Nat} {l : List Al} (hi : i < l.length) (h : w.ownsRow 0 e 5 (.slice (some ⟨g, 0, none⟩) n c) n (acells l)) (a : Al) : (setAC w g (i * 5) a).ownsRow 0 e 5 (.slice (some ⟨g, 0, none⟩) n c) n (acells (l.set i a)) := by
  rw [← acells_put l hi a]
  exact (World.ownsRow.stored (World.ownsRow.stored (World.ownsRow.stored (World.ownsRow.stored (World.ownsRow.stored h _ _).1 _ _).1 _ _).1 _ _).1 _ _).1

theorem chg_setAC (w : World) (g o : Nat) (a : Al) : Chg (fun k => k = g) w (setAC w g o a) :=
  (((((Chg.refl (fun k => k = g) w).setCell (p := ⟨g, o, none⟩) (fun _ => rfl) _).setCell (p := ⟨g, o + 1, none⟩) (fun _ => rfl) _).setCell (p := ⟨g, o + 2, none⟩) (fun _ => rfl) _).setCell (p := ⟨g, o + 3, none⟩) (fun _ => rfl) _).setCell (p := ⟨g, o + 4, none⟩) (fun _ => rfl) _

theorem info_al : (Try.prog.info? 42).map (fun i => (i.zero, i.size, i.bytes)) = some (some (.agg #[.int .i64 0, .int .i64 0, .int .i64 0, .bool false, .bool false]), 5, 32) := by kernel_rfl

theorem elem_al : ElemT 30 42 5 := by
  obtain ⟨i, hi, hz0, hz1, hz2⟩ := info_parts info_al
  exact ⟨Try.underlying30, ⟨i, _, 32, hi, hz0, hz1, hz2, rfl, by omega⟩, by omega⟩

theorem info_sh : (Try.prog.info? 48).map (fun i => (i.zero, i.size, i.bytes)) = some (some (.agg #[.int .i64 0, .int .i64 0, .int .i64 0, .bool false, .bool false]), 5, 32) := by kernel_rfl

theorem elem_sh : ElemT 45 48 5 := by
  obtain ⟨i, hi, hz0, hz1, hz2⟩ := info_parts info_sh
  exact ⟨Try.underlying45, ⟨i, _, 32, hi, hz0, hz1, hz2, rfl, by omega⟩, by omega⟩

/-- A panel: its own block (of the type tp), and its list (of elements of the type te). -/
structure PnS (tp te : TypeId) (S : Nat → Prop) (w : World) (b : Nat) (v : Value) (L : List Al) (u : Int) : Prop where
  head : w.heap[b]? = some (.cells #[v, .int .i64 u] tp (0, 0))
  own : w.ownsRow 0 te 5 v L.length (acells L)
  inB : S b
  inV : ∀ k, v.ownBlock = some k → S k
  lt : ∀ k, S k → k < w.heap.size
  ok : OkA L
  ne : te ≠ tp

/-- The same, as something that owns its blocks. -/
def PO (tp te : TypeId) (b : Nat) (L : List Al) (u : Int) : (Nat → Prop) → World → Prop := fun S w => ∃ v, PnS tp te S w b v L u

variable {tp te : TypeId} {S T : Nat → Prop} {w w' : World} {b : Nat} {v : Value} {L : List Al} {u : Int}

theorem PnS.kept (h : PnS tp te S w b v L u) (hc : Chg T w w') (hT : ∀ k, S k → ¬ T k) : PnS tp te S w' b v L u :=
  ⟨(hc.block b (h.lt b h.inB) (hT b h.inB)).trans h.head, ownsRow_keep h.own fun k hk => hc.block k (World.ownsRow.lt h.own k hk).2 (hT k (h.inV k hk)), h.inB, h.inV, fun k hk => Nat.lt_of_lt_of_le (h.lt k hk) hc.size, h.ok, h.ne⟩

theorem PnS.below (h : PnS tp te S w b v L u) (hb : Below w.heap.size w w') : PnS tp te S w' b v L u := h.kept (below_chg hb) (fun _ _ => id)

theorem po_owned (tp te : TypeId) (b : Nat) (L : List Al) (u : Int) : Owned (PO tp te b L u) := ⟨fun ⟨v, h⟩ hc hT => ⟨v, h.kept hc hT⟩, fun ⟨_, h⟩ => h.lt⟩

theorem PnS.same (h : PnS tp te S w b v L u) (hb : Below w.heap.size w w') : LeftG (PO tp te b L u) S w w' :=
  ⟨S, ⟨v, h.below hb⟩, (below_chg hb).mono (fun _ f _ => f.elim), fun _ hk => .inl hk⟩

theorem PnS.cells (h : PnS tp te S w b v L u) : w.cell? ⟨b, 0, none⟩ = some v ∧ w.frozen? ⟨b, 0, none⟩ = false ∧ w.cell? ⟨b, 1, none⟩ = some (.int .i64 u) ∧ w.frozen? ⟨b, 1, none⟩ = false :=
  ⟨by rw [cell_of_row w _ 0 _ _ _ h.head]; rfl, frozen_of_row w b 0 _ _ h.head, by rw [cell_of_row w _ 1 _ _ _ h.head]; rfl, frozen_of_row w b 1 _ _ h.head⟩

/-- What a look at a list behind a call leaves. -/
theorem left_fromA {P : (Nat → Prop) → World → Prop} {S : Nat → Prop} {w w1 w2 : World} (hb : Below w.heap.size w w1) (h : LeftG P S w1 w2) : LeftG P S w w2 := by
  obtain ⟨S', h1, h2, h3⟩ := h
  exact ⟨S', h1, ((below_chg hb).mono (fun _ f _ => f.elim)).trans h2 (fun _ q _ => q), fun k hk => (h3 k hk).imp id (fun q => Nat.le_trans hb.size q)⟩

theorem left_thenA {P Q : (Nat → Prop) → World → Prop} {S : Nat → Prop} {w w1 w2 : World} (h : LeftG P S w w1) (hq : ∀ S', P S' w1 → LeftG Q S' w1 w2) : LeftG Q S w w2 := by
  obtain ⟨S', h1, h2, h3⟩ := h
  obtain ⟨S2, q1, q2, q3⟩ := hq S' h1
  refine ⟨S2, q1, h2.trans q2 (fun k hk hlt => ?_), fun k hk => ?_⟩
  · rcases h3 k hk with r | r
    · exact r
    · omega
  · rcases q3 k hk with r | r
    · exact h3 k r
    · exact .inr (Nat.le_trans h2.size r)

/-- The time until which it is silent is written. -/
theorem PnS.until (h : PnS tp te S w b v L u) (u' : Int) : PnS tp te S (w.setCell ⟨b, 1, none⟩ (.int .i64 u')) b v L u' ∧ Chg S w (w.setCell ⟨b, 1, none⟩ (.int .i64 u')) := by
  have hc : Chg (fun k => k = b) w (w.setCell ⟨b, 1, none⟩ (.int .i64 u')) := Chg.setCell (S := fun k => k = b) (Chg.refl _ w) (p := ⟨b, 1, none⟩) (fun _ => rfl) _
  refine ⟨⟨by rw [heap_setCell_same w b 1 _ _ _ h.head]; rfl, ?_, h.inB, h.inV, fun k hk => Nat.lt_of_lt_of_le (h.lt k hk) hc.size, h.ok, h.ne⟩, hc.mono (fun k e _ => by rw [e]; exact h.inB)⟩
  exact ownsRow_keep h.own fun k hk => hc.block k (World.ownsRow.lt h.own k hk).2 (fun q => row_not_block h.own h.head h.ne (by rw [← q]; exact hk))

/-- One of its cells is written. -/
theorem PnS.put {g c n i k : Nat} {y : Al} {x : Value} (h : PnS tp te S w b (.slice (some ⟨g, 0, none⟩) n c) L u) (hi : i < L.length) (hk : k < 5) (hy : acell y = (acell L[i]).set k x) :
    (w.setCell ⟨g, i * 5 + k, none⟩ x).heap[b]? = some (.cells #[.slice (some ⟨g, 0, none⟩) n c, .int .i64 u] tp (0, 0)) ∧ (w.setCell ⟨g, i * 5 + k, none⟩ x).ownsRow 0 te 5 (.slice (some ⟨g, 0, none⟩) n c) L.length (acells (L.set i y)) ∧ Chg S w (w.setCell ⟨g, i * 5 + k, none⟩ x) := by
  have hc : Chg (fun k => k = g) w (w.setCell ⟨g, i * 5 + k, none⟩ x) := Chg.setCell (S := fun k => k = g) (Chg.refl _ w) (p := ⟨g, i * 5 + k, none⟩) (fun _ => rfl) _
  obtain rfl : n = L.length := by obtain ⟨_, _, e, _⟩ := ownsRow_form h.own; cases e; rfl
  have hgb : g ≠ b := fun e => row_not_block h.own h.head h.ne (by rw [← e]; rfl)
  have st := (World.ownsRow.stored h.own (i * 5 + k) x).1
  rw [acells_set L hi hk hy] at st
  exact ⟨(hc.block b (h.lt b h.inB) (fun e => hgb e.symm)).trans h.head, st, hc.mono (fun k e _ => by rw [e]; exact h.inV g rfl)⟩

/-- An alarm of it is written. -/
theorem PnS.putAll {g c n i : Nat} {y : Al} (h : PnS tp te S w b (.slice (some ⟨g, 0, none⟩) n c) L u) (hi : i < L.length) (ok : OkA (L.set i y)) :
    PnS tp te S (setAC w g (i * 5) y) b (.slice (some ⟨g, 0, none⟩) n c) (L.set i y) u ∧ Chg S w (setAC w g (i * 5) y) := by
  have hc := chg_setAC w g (i * 5) y
  obtain rfl : n = L.length := by obtain ⟨_, _, e, _⟩ := ownsRow_form h.own; cases e; rfl
  have hgb : g ≠ b := fun e => row_not_block h.own h.head h.ne (by rw [← e]; rfl)
  have st := owns_setAC hi h.own y
  refine ⟨⟨(hc.block b (h.lt b h.inB) (fun e => hgb e.symm)).trans h.head, ?_, h.inB, h.inV, fun k hk => Nat.lt_of_lt_of_le (h.lt k hk) hc.size, ok, h.ne⟩, hc.mono (fun k e _ => by rw [e]; exact h.inV g rfl)⟩
  rw [List.length_set]
  exact st

/-- Its list is another one, in new memory. -/
theorem PnS.laid {ws : World} {v' : Value} {L' : List Al} {n : Nat} (h : PnS tp te S w b v L u) (hN : NewR te 5 w.heap.size w n (acells L') ws v') (hn : n = L'.length) (ok : OkA L') :
    (ws.cell? ⟨b, 0, none⟩ = some v ∧ ws.frozen? ⟨b, 0, none⟩ = false) ∧ LeftG (PO tp te b L' u) S w (ws.setCell ⟨b, 0, none⟩ v') := by
  subst hn
  have h1 := h.below hN.below
  have C : Chg (fun k => k = b) ws (ws.setCell ⟨b, 0, none⟩ v') := (Chg.refl _ ws).setCell (S := fun k => k = b) (p := ⟨b, 0, none⟩) (fun _ => rfl) _
  have s1 := hN.below.size
  have s2 := C.size
  refine ⟨⟨h1.cells.1, h1.cells.2.1⟩, fun k => (S k ∨ w.heap.size ≤ k) ∧ k < ws.heap.size, ⟨v', ⟨by rw [heap_setCell_same ws b 0 _ _ v' h1.head]; rfl, ?_, ⟨.inl h.inB, by have := h.lt b h.inB; omega⟩, fun k hk => ⟨.inr (hN.ge k hk), (World.ownsRow.lt hN.own k hk).2⟩, fun k hk => by have := hk.2; omega, ok, h.ne⟩⟩, ?_, fun k hk => hk.1⟩
  · exact ownsRow_keep hN.own fun k hk => C.block k (World.ownsRow.lt hN.own k hk).2 (fun q => row_not_block hN.own h1.head h.ne (by rw [← q]; exact hk))
  · exact ((below_chg hN.below).mono (fun _ f _ => f.elim)).trans C (fun k hk _ => by subst hk; exact h.inB)

theorem po_new (tp te : TypeId) (hne : te ≠ tp) (w : World) : PO tp te w.heap.size [] 0 (fun k => k = w.heap.size) (w.alloc (.cells #[.slice none 0 0, .int .i64 0] tp)) :=
  ⟨.slice none 0 0, ⟨heap_alloc_new w _, own_noneR _ _ _, rfl, fun k hk => (by cases hk), fun k hk => (by rw [hk]; simp), okA_nil, hne⟩⟩

end Go.Proofs.Ytbeeigfcchjdlaa
