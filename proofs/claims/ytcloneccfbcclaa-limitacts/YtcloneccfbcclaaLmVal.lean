/- Limits in memory: values, lists of limits, lists of owners; the map's keys. -/
import Derived.Test.YtcloneccfbcclaaBase
import Derived.Test.YtcloneccfbcclaaLmPure
import Derived.Test.YtcloneccfbcclaaMapR
import Derived.Laws.OwnMore
import Derived.Laws.AppendOwnNone
namespace Go.Proofs.Ytcloneccfbcclaa
open Go.RowKit
open Bt

/-- A limit as a value. -/
abbrev Lv (l : Lm) : Value := .agg #[.int .i64 l.bed, .int .i64 l.kind, .int .i64 l.lo, .int .i64 l.hi, .int .i64 l.cnt]

/-- What is kept, as a value. -/
abbrev Kv (x : Kp) : Value := .agg #[.int .i64 x.lm.bed, .int .i64 x.lm.kind, .int .i64 x.lm.lo, .int .i64 x.lm.hi, .int .i64 x.lm.cnt, .int .i64 (x.n : Int)]

/-- An owner as a value. -/
def ownV (k : Int × Int) : Value := .agg #[.int .i64 k.1, .int .i64 k.2]

def okO (k : Int × Int) : Prop := (Lit.int .i64 k.1).wf = true ∧ (Lit.int .i64 k.2).wf = true

theorem own_key (x : Int × Int) (h : okO x) : ∃ l, keyOf Try.prog 62 (ownV x) = some l := by
  obtain ⟨x1, x2⟩ := x
  obtain ⟨h1, h2⟩ := h
  have u := Try.underlying62
  have c2 : Try.prog.cellsOf 62 = 2 := by kernel_rfl
  have c1 : Try.prog.cellsOf 3 = 1 := by kernel_rfl
  have k1 : Try.prog.keyType 62 = true := by kernel_rfl
  have f1 : (ownV (x1, x2)).formed Try.prog 62 = true := by simp [ownV, Value.formed, u, c2]
  obtain ⟨d, hd⟩ : ∃ d, Try.prog.types.size = d + 1 := Nat.exists_eq_succ_of_ne_zero (Nat.ne_of_gt (of_decide_eq_true (by kernel_rfl)))
  have h3 : Try.prog.keyLits (Try.prog.types.size + 1) 62 (ownV (x1, x2)).cells.toList = some [.int .i64 x1, .int .i64 x2] := by
    rw [hd]
    simp [Program.keyLits, u, c2, c1, Try.underlying3, ownV, Value.cells, h1, h2]
  unfold keyOf
  rw [u]
  simp only [k1, f1, h3]
  exact ⟨_, rfl⟩

theorem own_by : KeyBy 62 ownV okO :=
  ⟨Maps.Keyed.of_law (deep_law_laid (P := Try.prog) (by kernel_rfl) (m := 2) (by omega) (of_decide_eq_true (by kernel_rfl)) (by kernel_rfl) (by rw [Try.underlying62])),
    own_key, fun x y h => by
      obtain ⟨x1, x2⟩ := x
      obtain ⟨y1, y2⟩ := y
      simpa [ownV] using h⟩

theorem wf_small {n : Int} (h1 : -1000000 ≤ n) (h2 : n ≤ 1000000) : (Lit.int .i64 n).wf = true := by
  have a : IntKind.i64.min = -9223372036854775808 := by decide
  have b : IntKind.i64.max = 9223372036854775807 := by decide
  simp [Lit.wf, a, b]
  omega

/-- The map of a table. -/
def fM (L : List Kp) : Int × Int → Option Value := fun k => (findK L k.1 k.2).map fun x => Kv x

theorem fM_nil : fM [] = fun _ => none := rfl

/-- The cells of owners. -/
def ocell (k : Int × Int) : List Value := [.int .i64 k.1, .int .i64 k.2]

def ocells (l : List (Int × Int)) : List Value := l.flatMap ocell

theorem ocells_append (a b : List (Int × Int)) : ocells (a ++ b) = ocells a ++ ocells b := by simp [ocells]

theorem ocells_one (b : Int × Int) : ocells [b] = ocell b := by simp [ocells]

theorem ocells_length (l : List (Int × Int)) : (ocells l).length = l.length * 2 := by
  induction l with
  | nil => rfl
  | cons b l ih => rw [show ocells (b :: l) = ocell b ++ ocells l from rfl, List.length_append, ih, List.length_cons]; simp [ocell]; omega

theorem ocells_at (l : List (Int × Int)) {i j : Nat} (h : i < l.length) (hj : j < 2) : (ocells l)[i * 2 + j]? = (ocell l[i])[j]? := by
  induction l generalizing i with
  | nil => exact absurd h (by simp)
  | cons b l ih =>
    rw [show ocells (b :: l) = ocell b ++ ocells l from rfl]
    have hs : (ocell b).length = 2 := rfl
    cases i with
    | zero => rw [List.getElem?_append_left (by omega)]; simp
    | succ i =>
      rw [List.getElem?_append_right (by omega), hs, show (i + 1) * 2 + j - 2 = i * 2 + j by omega]
      exact ih (by simpa using h)

theorem ocells_onecell (l : List (Int × Int)) : ∀ u ∈ ocells l, u.oneCell' = true := by
  intro u hu
  obtain ⟨b, _, hb⟩ := List.mem_flatMap.1 hu
  simp only [ocell, List.mem_cons, List.not_mem_nil, or_false] at hb
  rcases hb with rfl | rfl <;> rfl

/-- One is written anew. -/
def setO (L : List Value) (i : Nat) (a : Int × Int) : List Value := (L.set (i * 2) (.int .i64 a.1)).set (i * 2 + 1) (.int .i64 a.2)

theorem ocells_set (l : List (Int × Int)) {i : Nat} (a : Int × Int) : setO (ocells l) i a = ocells (l.set i a) := by
  apply List.ext_getElem?
  intro j
  have hl := ocells_length l
  have hl2 := ocells_length (l.set i a)
  rw [List.length_set] at hl2
  unfold setO
  by_cases hj : j < l.length * 2
  · have hj6 : j = (j / 2) * 2 + j % 2 := by omega
    have hq : j / 2 < l.length := by omega
    have hm : j % 2 < 2 := Nat.mod_lt _ (by decide)
    have e2 : (ocells (l.set i a))[j]? = (ocell ((l.set i a)[j / 2]'(by simpa using hq)))[j % 2]? := by
      conv => lhs; rw [hj6]
      exact ocells_at _ (by simpa using hq) hm
    have e1 : (ocells l)[j]? = (ocell l[j / 2])[j % 2]? := by
      conv => lhs; rw [hj6]
      exact ocells_at l hq hm
    rw [e2]
    simp only [List.getElem?_set, List.length_set, hl, List.getElem_set]
    have cases2 : j % 2 = 0 ∨ j % 2 = 1 := by omega
    by_cases e : i = j / 2
    · rw [if_pos e]
      rcases cases2 with q | q
      · rw [q, if_neg (by omega), if_pos (by omega), if_pos (by omega)]; rfl
      · rw [q, if_pos (by omega), if_pos (by omega)]; rfl
    · rw [if_neg e, if_neg (by omega), if_neg (by omega), e1]
  · rw [List.getElem?_eq_none (by simp only [List.length_set]; omega), List.getElem?_eq_none (by omega)]

/-- Writing one's two cells. -/
def setOC (w : World) (g o : Nat) (a : Int × Int) : World := (w.setCell ⟨g, o, none⟩ (.int .i64 a.1)).setCell ⟨g, o + 1, none⟩ (.int .i64 a.2)

theorem owns_setOC {w : World} {g c n i : Nat} {l : List (Int × Int)} (h : w.ownsRow 0 62 2 (.slice (some ⟨g, 0, none⟩) n c) n (ocells l)) (a : Int × Int) : (setOC w g (i * 2) a).ownsRow 0 62 2 (.slice (some ⟨g, 0, none⟩) n c) n (ocells (l.set i a)) := by
  rw [← ocells_set]
  unfold setOC setO
  exact (World.ownsRow.stored (World.ownsRow.stored h (i * 2) _).1 (i * 2 + 1) _).1

theorem chg_setOC (w : World) (g o : Nat) (a : Int × Int) : Chg (fun k => k = g) w (setOC w g o a) := by
  unfold setOC
  exact ((Chg.refl (fun k => k = g) w).setCell (fun _ => rfl) _).setCell (fun _ => rfl) _

/-- One owner's cells. -/
def OwAt (w : World) (b o : Nat) (a : Int × Int) : Prop := w.cell? ⟨b, o, none⟩ = some (.int .i64 a.1) ∧ w.cell? ⟨b, o + 1, none⟩ = some (.int .i64 a.2)

theorem ow_of_owns {w : World} {g c : Nat} {l : List (Int × Int)} (h : w.ownsRow 0 62 2 (.slice (some ⟨g, 0, none⟩) l.length c) l.length (ocells l)) {i : Nat} (hi : i < l.length) : OwAt w g (i * 2) l[i] := by
  have hl := ocells_length l
  have q : ∀ j, j < 2 → w.cell? ⟨g, i * 2 + j, none⟩ = (ocell l[i])[j]? := fun j hj => by
    rw [h.cellAt (i * 2 + j) (by omega)]
    exact ocells_at l hi hj
  exact ⟨q 0 (by omega), q 1 (by omega)⟩

theorem OwAt.chg {S : Nat → Prop} {w w' : World} {b o : Nat} {a : Int × Int} (h : OwAt w b o a) (hc : Chg S w w') (hb : ¬ S b) : OwAt w' b o a := ⟨cell_chg hc h.1 hb, cell_chg hc h.2 hb⟩

theorem info_own : (Try.prog.info? 62).map (fun i => (i.zero, i.size, i.bytes)) = some (some (.agg #[.int .i64 0, .int .i64 0]), 2, 16) := by kernel_rfl

/-! ### Lists of limits -/

/-- One limit's cells. -/
def LmAt (w : World) (b o : Nat) (l : Lm) : Prop := w.cell? ⟨b, o, none⟩ = some (.int .i64 l.bed) ∧ w.cell? ⟨b, o + 1, none⟩ = some (.int .i64 l.kind) ∧ w.cell? ⟨b, o + 2, none⟩ = some (.int .i64 l.lo) ∧ w.cell? ⟨b, o + 3, none⟩ = some (.int .i64 l.hi) ∧ w.cell? ⟨b, o + 4, none⟩ = some (.int .i64 l.cnt)

theorem LmAt.chg {S : Nat → Prop} {w w' : World} {b o : Nat} {l : Lm} (h : LmAt w b o l) (hc : Chg S w w') (hb : ¬ S b) : LmAt w' b o l := by
  obtain ⟨c0, c1, c2, c3, c4⟩ := h
  exact ⟨cell_chg hc c0 hb, cell_chg hc c1 hb, cell_chg hc c2 hb, cell_chg hc c3 hb, cell_chg hc c4 hb⟩

theorem LmAt.below {w w' : World} {b o : Nat} {l : Lm} (h : LmAt w b o l) (hb : Below w.heap.size w w') : LmAt w' b o l := h.chg (below_chg hb) id

/-- A list of limits, its block in R. -/
def LmsAt (R : Nat → Prop) (w : World) (v : Value) (l : List Lm) : Prop :=
  ∃ ao cap, v = .slice ao l.length cap ∧ (l.length ≤ cap ∧ (ao = none → cap = 0)) ∧ (0 < l.length → ∃ pb off, ao = some ⟨pb, off, none⟩ ∧ R pb ∧ ∀ t, (ht : t < l.length) → LmAt w pb (off + t * 5) l[t])

theorem LmsAt.kept {R S : Nat → Prop} {w w' : World} {v : Value} {l : List Lm} (h : LmsAt R w v l) (hc : Chg S w w') (hR : ∀ k, R k → ¬ S k) : LmsAt R w' v l := by
  obtain ⟨ao, cap, e, r, h⟩ := h
  refine ⟨ao, cap, e, r, fun h0 => ?_⟩
  obtain ⟨pb, off, ha, hb, hp⟩ := h h0
  exact ⟨pb, off, ha, hb, fun t ht => (hp t ht).chg hc (hR _ hb)⟩

theorem LmsAt.below {R : Nat → Prop} {w w' : World} {v : Value} {l : List Lm} (h : LmsAt R w v l) (hb : Below w.heap.size w w') : LmsAt R w' v l := h.kept (below_chg hb) (fun _ _ => id)

theorem LmsAt.mono {R R' : Nat → Prop} {w : World} {v : Value} {l : List Lm} (h : LmsAt R w v l) (hR : ∀ k, R k → R' k) : LmsAt R' w v l := by
  obtain ⟨ao, cap, e, r, hp⟩ := h
  refine ⟨ao, cap, e, r, fun h0 => ?_⟩
  obtain ⟨pb, off, ha, hb, hq⟩ := hp h0
  exact ⟨pb, off, ha, hR _ hb, hq⟩

theorem LmsAt.len {R : Nat → Prop} {w : World} {v : Value} {l : List Lm} (h : LmsAt R w v l) : ∃ ao cap, v = .slice ao l.length cap := by
  obtain ⟨ao, cap, e, _⟩ := h
  exact ⟨ao, cap, e⟩

theorem LmsAt.at {R : Nat → Prop} {w : World} {ao : Option Addr} {n c : Nat} {l : List Lm} (h : LmsAt R w (.slice ao n c) l) {t : Nat} (ht : t < l.length) : ∃ pb off, ao = some ⟨pb, off, none⟩ ∧ R pb ∧ LmAt w pb (off + t * 5) l[t] := by
  obtain ⟨ao', cap, e, r, hp⟩ := h
  simp only [Value.slice.injEq] at e
  obtain ⟨rfl, _, _⟩ := e
  obtain ⟨pb, off, ha, hb, hq⟩ := hp (by omega)
  exact ⟨pb, off, ha, hb, hq t ht⟩

theorem lms_nil (R : Nat → Prop) (w : World) : LmsAt R w (.slice none 0 0) [] := ⟨none, 0, rfl, ⟨Nat.le_refl _, fun _ => rfl⟩, fun q => absurd q (by simp)⟩

/-- The cells of limits. -/
def lcell (l : Lm) : List Value := [.int .i64 l.bed, .int .i64 l.kind, .int .i64 l.lo, .int .i64 l.hi, .int .i64 l.cnt]

def lcells (l : List Lm) : List Value := l.flatMap lcell

theorem lcells_append (a b : List Lm) : lcells (a ++ b) = lcells a ++ lcells b := by simp [lcells]

theorem lcells_one (b : Lm) : lcells [b] = lcell b := by simp [lcells]

theorem lcells_length (l : List Lm) : (lcells l).length = l.length * 5 := by
  induction l with
  | nil => rfl
  | cons b l ih => rw [show lcells (b :: l) = lcell b ++ lcells l from rfl, List.length_append, ih, List.length_cons]; simp [lcell]; omega

theorem lcells_at (l : List Lm) {i j : Nat} (h : i < l.length) (hj : j < 5) : (lcells l)[i * 5 + j]? = (lcell l[i])[j]? := by
  induction l generalizing i with
  | nil => exact absurd h (by simp)
  | cons b l ih =>
    rw [show lcells (b :: l) = lcell b ++ lcells l from rfl]
    have hs : (lcell b).length = 5 := rfl
    cases i with
    | zero => rw [List.getElem?_append_left (by omega)]; simp
    | succ i =>
      rw [List.getElem?_append_right (by omega), hs, show (i + 1) * 5 + j - 5 = i * 5 + j by omega]
      exact ih (by simpa using h)

theorem lcells_onecell (l : List Lm) : ∀ u ∈ lcells l, u.oneCell' = true := by
  intro u hu
  obtain ⟨b, _, hb⟩ := List.mem_flatMap.1 hu
  simp only [lcell, List.mem_cons, List.not_mem_nil, or_false] at hb
  rcases hb with rfl | rfl | rfl | rfl | rfl <;> rfl

theorem ownsRow_roomL {w : World} {e : TypeId} {sz n cap : Nat} {ao : Option Addr} {xs : List Value} (h : w.ownsRow 0 e sz (.slice ao n cap) n xs) : n ≤ cap ∧ (ao = none → cap = 0) := by
  rcases h.2 with ⟨h', _⟩ | ⟨g', cap', _, h', _, _, hn, hm, _⟩
  · simp only [Value.slice.injEq] at h'
    obtain ⟨_, rfl, rfl⟩ := h'
    exact ⟨Nat.le_refl _, fun _ => rfl⟩
  · simp only [Value.slice.injEq] at h'
    obtain ⟨rfl, _, rfl⟩ := h'
    exact ⟨hn, fun q => by cases q⟩

/-- Where they lie. -/
theorem lms_of_owns {w : World} {v : Value} {l : List Lm} (h : w.ownsRow 0 30 5 v l.length (lcells l)) {R : Nat → Prop} (hR : ∀ k, v.ownBlock = some k → R k) : LmsAt R w v l := by
  obtain ⟨ao, c, rfl, hf⟩ := ownsRow_form h
  refine ⟨ao, c, rfl, ownsRow_roomL h, fun h0 => ?_⟩
  obtain ⟨g, rfl⟩ := hf.resolve_left (by omega)
  refine ⟨g, 0, rfl, hR g rfl, fun t ht => ?_⟩
  have q : ∀ j, j < 5 → w.cell? ⟨g, 0 + t * 5 + j, none⟩ = (lcell l[t])[j]? := fun j hj => by
    rw [Nat.zero_add, h.cellAt (t * 5 + j) (by omega)]
    exact lcells_at l ht hj
  exact ⟨q 0 (by omega), q 1 (by omega), q 2 (by omega), q 3 (by omega), q 4 (by omega)⟩

/-- A block of limits. -/
theorem lms_block {w : World} {g : Nat} {l : List Lm} {t : TypeId} {fr : Nat × Nat} (h : w.heap[g]? = some (.cells (lcells l).toArray t fr)) {c : Nat} (hc : l.length ≤ c) : LmsAt (fun k => k = g) w (.slice (some ⟨g, 0, none⟩) l.length c) l := by
  refine ⟨_, c, rfl, ⟨hc, fun q => by cases q⟩, fun h0 => ⟨g, 0, rfl, rfl, fun t ht => ?_⟩⟩
  have q : ∀ j, j < 5 → w.cell? ⟨g, 0 + t * 5 + j, none⟩ = (lcell l[t])[j]? := fun j hj => by
    rw [Nat.zero_add, cell_of_row _ _ _ _ _ _ h, ← lcells_at l ht hj]
    simp
  exact ⟨q 0 (by omega), q 1 (by omega), q 2 (by omega), q 3 (by omega), q 4 (by omega)⟩

theorem info_lim : (Try.prog.info? 30).map (fun i => (i.zero, i.size, i.bytes)) = some (some (.agg #[.int .i64 0, .int .i64 0, .int .i64 0, .int .i64 0, .int .i64 0]), 5, 40) := by kernel_rfl

end Go.Proofs.Ytcloneccfbcclaa
