/- Package shed: a controller in memory; within, Looked, New, Calm. -/
import Derived.Test.YthfmgdhhjnngaaaBase
import Derived.Test.YthfmgdhhjnngaaaShPure
import Derived.Laws.OwnMore
namespace Go.Proofs.Ythfmgdhhjnngaaa
open Go.RowKit
open Bt

/-- A bed's pointer. -/
abbrev Pv (q : Nat) : Value := .pointer (some ⟨q, 0, none⟩)

/-- A bed that stands, as it lies at its block. -/
def SdAt (w : World) (q : Nat) (s : Sd) : Prop := w.heap[q]? = some (.cells #[.int .i64 s.bed, .int .i64 s.prio, .int .i64 (s.lv : Int)] 57 (0, 0))

theorem SdAt.cells {w : World} {q : Nat} {s : Sd} (h : SdAt w q s) : w.cell? ⟨q, 0, none⟩ = some (.int .i64 s.bed) ∧ w.cell? ⟨q, 1, none⟩ = some (.int .i64 s.prio) ∧ w.cell? ⟨q, 2, none⟩ = some (.int .i64 (s.lv : Int)) ∧ w.frozen? ⟨q, 2, none⟩ = false :=
  ⟨by rw [cell_of_row w _ 0 _ _ _ h]; rfl, by rw [cell_of_row w _ 1 _ _ _ h]; rfl, by rw [cell_of_row w _ 2 _ _ _ h]; rfl, frozen_of_row w q 2 _ _ h⟩

theorem SdAt.chg {S : Nat → Prop} {w w' : World} {q : Nat} {s : Sd} (h : SdAt w q s) (hc : Chg S w w') (hq : ¬ S q) : SdAt w' q s := (hc.block q (lt_of_heap h) hq).trans h

theorem SdAt.below {w w' : World} {q : Nat} {s : Sd} (h : SdAt w q s) (hb : Below w.heap.size w w') : SdAt w' q s := h.chg (below_chg hb) id

theorem SdAt.set {w : World} {q : Nat} {s : Sd} (h : SdAt w q s) (n : Nat) : SdAt (w.setCell ⟨q, 2, none⟩ (.int .i64 (n : Int))) q { s with lv := n } := by
  unfold SdAt
  rw [heap_setCell_same w q 2 _ _ _ h]
  rfl

/-- The pointers' cells. -/
def pcells (zs : List (Nat × Sd)) : List Value := zs.map fun z => Pv z.1

theorem pcells_length (zs : List (Nat × Sd)) : (pcells zs).length = zs.length := by simp [pcells]

theorem pcells_one (zs : List (Nat × Sd)) : ∀ u ∈ pcells zs, u.oneCell' = true := by
  intro u hu
  obtain ⟨z, _, rfl⟩ := List.mem_map.1 hu
  rfl

theorem pcells_at {zs : List (Nat × Sd)} {i : Nat} (hi : i < zs.length) : (pcells zs)[i]? = some (Pv zs[i].1) := by simp [pcells, hi]

/-- A controller: its own block, its list of pointers, the beds' blocks. -/
structure CS (S : Nat → Prop) (w : World) (b : Nat) (v : Value) (zs : List (Nat × Sd)) (x : Ctl) : Prop where
  head : w.heap[b]? = some (.cells #[.int .i64 (x.waits : Int), .int .i64 (x.calm : Int), v] 52 (0, 0))
  beds : x.beds = zs.map Prod.snd
  own : w.ownsRow 0 55 1 v zs.length (pcells zs)
  each : ∀ z ∈ zs, SdAt w z.1 z.2
  dist : (zs.map Prod.fst).Nodup
  inB : S b
  inV : ∀ k, v.ownBlock = some k → S k
  inP : ∀ z ∈ zs, S z.1
  lt : ∀ k, S k → k < w.heap.size
  ok : x.Ok

def Ctr (S : Nat → Prop) (w : World) (b : Nat) (x : Ctl) : Prop := ∃ v zs, CS S w b v zs x

variable {S T : Nat → Prop} {w w' : World} {b : Nat} {v : Value} {zs : List (Nat × Sd)} {x : Ctl}

theorem CS.kept (h : CS S w b v zs x) (hc : Chg T w w') (hT : ∀ k, S k → ¬ T k) : CS S w' b v zs x :=
  ⟨(hc.block b (h.lt b h.inB) (hT b h.inB)).trans h.head, h.beds, ownsRow_keep h.own fun k hk => hc.block k (World.ownsRow.lt h.own k hk).2 (hT k (h.inV k hk)), fun z hz => (h.each z hz).chg hc (hT _ (h.inP z hz)), h.dist,
    h.inB, h.inV, h.inP, fun k hk => Nat.lt_of_lt_of_le (h.lt k hk) hc.size, h.ok⟩

theorem CS.below (h : CS S w b v zs x) (hb : Below w.heap.size w w') : CS S w' b v zs x := h.kept (below_chg hb) (fun _ _ => id)

theorem Ctr.kept (h : Ctr S w b x) (hc : Chg T w w') (hT : ∀ k, S k → ¬ T k) : Ctr S w' b x := by
  obtain ⟨v, zs, h⟩ := h
  exact ⟨v, zs, h.kept hc hT⟩

theorem Ctr.below (h : Ctr S w b x) (hb : Below w.heap.size w w') : Ctr S w' b x := h.kept (below_chg hb) (fun _ _ => id)

theorem Ctr.ok (h : Ctr S w b x) : x.Ok := by obtain ⟨v, zs, h⟩ := h; exact h.ok

theorem Ctr.lt (h : Ctr S w b x) : ∀ k, S k → k < w.heap.size := by obtain ⟨v, zs, h⟩ := h; exact h.lt

theorem CS.len (h : CS S w b v zs x) : x.beds.length = zs.length := by rw [h.beds]; simp

theorem CS.few (h : CS S w b v zs x) : zs.length ≤ 8 := by rw [← h.len]; exact h.ok.few

theorem CS.cells (h : CS S w b v zs x) : w.cell? ⟨b, 0, none⟩ = some (.int .i64 (x.waits : Int)) ∧ w.cell? ⟨b, 1, none⟩ = some (.int .i64 (x.calm : Int)) ∧ w.cell? ⟨b, 2, none⟩ = some v ∧ (∀ j, w.frozen? ⟨b, j, none⟩ = false) :=
  ⟨by rw [cell_of_row w _ 0 _ _ _ h.head]; rfl, by rw [cell_of_row w _ 1 _ _ _ h.head]; rfl, by rw [cell_of_row w _ 2 _ _ _ h.head]; rfl, fun j => frozen_of_row w b j _ _ h.head⟩

/-- The list's block is another than the controller's, and than each bed's. -/
theorem CS.apart (h : CS S w b v zs x) : v.ownBlock ≠ some b ∧ ∀ z ∈ zs, v.ownBlock ≠ some z.1 ∧ z.1 ≠ b :=
  ⟨row_not_block h.own h.head (by decide), fun z hz => ⟨row_not_block h.own (h.each z hz) (by decide), fun e => by
    have h1 := h.each z hz
    unfold SdAt at h1
    rw [e, h.head] at h1
    simp only [Option.some.injEq, Obj.cells.injEq] at h1
    exact absurd h1.2.1 (by decide)⟩⟩

theorem CS.form (h : CS S w b v zs x) : ∃ ao c, v = .slice ao zs.length c ∧ (zs.length = 0 ∨ ∃ g, ao = some ⟨g, 0, none⟩) := ownsRow_form h.own

theorem CS.at {g c n : Nat} (h : CS S w b (.slice (some ⟨g, 0, none⟩) n c) zs x) {i : Nat} (hi : i < zs.length) : w.cell? ⟨g, i, none⟩ = some (Pv zs[i].1) := by
  obtain ⟨ao, c', e, _⟩ := h.form
  cases e
  have q := h.own.cellAt i (by omega)
  rw [q]
  exact pcells_at hi

/-- What a call leaves: but for the controller's own blocks, and new ones, all as it was. -/
def LeftC (S : Nat → Prop) (w w' : World) (b : Nat) (x : Ctl) : Prop := ∃ S', Ctr S' w' b x ∧ Chg S w w' ∧ ∀ k, S' k → S k ∨ w.heap.size ≤ k

theorem LeftC.same (h : Ctr S w b x) (hb : Below w.heap.size w w') : LeftC S w w' b x := ⟨S, h.below hb, (below_chg hb).mono (fun _ f _ => f.elim), fun _ => .inl⟩

theorem hwithin_any (n f t : Int) (w : World) :
    Calls Try.prog 24 #[.int .i64 n, .int .i64 f, .int .i64 t] w fun e w' => e = .returned (.bool (decide (f ≤ n) && decide (n ≤ t))) ∧ w = w' := by
  by_cases h : f ≤ n
  · have e : (decide (f ≤ n) && decide (n ≤ t)) = decide (n ≤ t) := by rw [decide_eq_true h, Bool.true_and]
    rw [e]
    go_enter Try.func24, Try.ntmps24
    go_wp2
    go_ret
    exact ⟨rfl, rfl⟩
  · have e : (decide (f ≤ n) && decide (n ≤ t)) = false := by rw [decide_eq_false h, Bool.false_and]
    rw [e]
    go_enter Try.func24, Try.ntmps24
    go_wp2
    go_ret
    exact ⟨rfl, rfl⟩

theorem hnew_yes (c : Nat) (h1 : 1 ≤ c) (h2 : c ≤ 1000) (w : World) :
    Calls Try.prog 10 #[.int .i64 (c : Int)] w fun e w' => ∃ b F, e = .returned (.pointer (some ⟨b, 0, none⟩)) ∧ Ctr F w' b ⟨c, 0, []⟩ ∧ (∀ k, F k → w.heap.size ≤ k) ∧ Below w.heap.size w w' := by
  have HB := Hid.intro ((Below.refl _ w).alloc (Nat.le_refl _) (.cells #[.int .i64 (c : Int), .int .i64 0, .slice none 0 0] 52))
  have Q0 : Hid (Ctr (fun k => k = w.heap.size) (w.alloc (.cells #[.int .i64 (c : Int), .int .i64 0, .slice none 0 0] 52)) w.heap.size ⟨c, 0, []⟩) :=
    ⟨.slice none 0 0, [], heap_alloc_new w _, rfl, World.ownsRow_nil _ _ _ _, fun z hz => (by cases hz), (by simp), rfl, fun k hk => (by simp [Value.ownBlock] at hk), fun z hz => (by cases hz), fun k hk => (by subst hk; simp), ⟨by simp, fun s hs => (by cases hs), by simp, h1, h2, h1⟩⟩
  have W := hwithin_any (c : Int) 1 1000 w
  have hw : (decide ((1 : Int) ≤ (c : Int)) && decide ((c : Int) ≤ 1000)) = true := by simp; omega
  rw [hw] at W
  have WH := Hid.intro W
  clear W hw h1 h2
  go_enter Try.func10, Try.ntmps10
  go_wp2_with fail
  refine WH.out.mono ?_
  rintro e w2 ⟨rfl, rfl⟩
  go_wp2
  go_ret
  exact ⟨_, _, rfl, Q0.out, fun k hk => by subst hk; exact Nat.le_refl _, HB.out⟩

theorem hnew_no (c : Int) (h : c < 1 ∨ 1000 < c) (w : World) :
    Calls Try.prog 10 #[.int .i64 c] w fun e w' => e = .returned (.pointer none) ∧ Below w.heap.size w w' := by
  have W := hwithin_any c 1 1000 w
  have hw : (decide ((1 : Int) ≤ c) && decide (c ≤ 1000)) = false := by simp; omega
  rw [hw] at W
  have WH := Hid.intro W
  clear W hw h
  go_enter Try.func10, Try.ntmps10
  go_wp2_with fail
  refine WH.out.mono ?_
  rintro e w2 ⟨rfl, rfl⟩
  go_wp2
  go_ret
  exact ⟨rfl, Below.refl _ _⟩

theorem hcalm_nil (w : World) : Calls Try.prog 16 #[.pointer none] w fun e w' => e = .returned (.int .i64 0) ∧ Below w.heap.size w w' := by
  go_enter Try.func16, Try.ntmps16
  go_wp2
  go_ret
  exact ⟨rfl, Below.refl _ _⟩

theorem hcalm_any (b : Nat) (S : Nat → Prop) (x : Ctl) (w : World) (h : Ctr S w b x) :
    Calls Try.prog 16 #[.pointer (some ⟨b, 0, none⟩)] w fun e w' => e = .returned (.int .i64 (x.calm : Int)) ∧ Below w.heap.size w w' := by
  obtain ⟨v, zs, h⟩ := h
  obtain ⟨_, c1, _, _⟩ := h.cells
  generalize x.calm = y at *
  clear h
  go_enter Try.func16, Try.ntmps16
  go_wp2
  go_ret
  exact ⟨rfl, Below.refl _ _⟩

end Go.Proofs.Ythfmgdhhjnngaaa
