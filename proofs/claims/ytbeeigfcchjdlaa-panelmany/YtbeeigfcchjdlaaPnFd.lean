/- Package panel: isKind, New, isUnacked, isOver, find. -/
import Derived.Test.YtbeeigfcchjdlaaPnDel
import Derived.Shelf.Abstract
namespace Go.Proofs.Ytbeeigfcchjdlaa
open Go.RowKit Go.Shelf
open Pn

theorem pkind_any (n : Int) (w : World) :
    Calls Try.prog 25 #[.int .i64 n] w fun e w' => e = .returned (.bool (kindA n)) ∧ w = w' := by
  unfold kindA
  by_cases h1 : 0 ≤ n <;> by_cases h2 : n ≤ 4 <;> simp only [h1, h2, decide_true, decide_false, Bool.and_true, Bool.and_false]
  all_goals
    go_enter Try.func25, Try.ntmps25
    go_wp2
    go_ret
    exact ⟨rfl, rfl⟩

/-- The code's panel. -/
abbrev PK (b : Nat) (L : List Al) (u : Int) : (Nat → Prop) → World → Prop := PO 47 48 b L u

theorem pk_owned (b : Nat) (L : List Al) (u : Int) : Owned (PK b L u) := po_owned _ _ b L u

theorem pnew_any (w : World) :
    Calls Try.prog 17 #[] w fun e w' => ∃ b F, e = .returned (.pointer (some ⟨b, 0, none⟩)) ∧ PK b [] 0 F w' ∧ (∀ k, F k → w.heap.size ≤ k) ∧ Below w.heap.size w w' := by
  have HB := Hid.intro ((Below.refl _ w).alloc (Nat.le_refl _) (.cells #[.slice none 0 0, .int .i64 0] 47))
  have Q0 := Hid.intro (po_new 47 48 (by decide) w)
  go_enter Try.func17, Try.ntmps17
  go_wp2
  go_ret
  exact ⟨_, _, rfl, Q0.out, fun k hk => by rw [hk]; exact Nat.le_refl _, HB.out⟩

theorem punack_any (a : Al) (w : World) :
    Calls Try.prog 30 #[Avv a] w fun e w' => e = .returned (.bool (!a.acked)) ∧ Below w.heap.size w w' := by
  have HB := Hid.intro ((Below.refl _ w).alloc (Nat.le_refl _) (.cells #[.int .i64 a.bed, .int .i64 a.kind, .int .i64 a.since, .bool a.on, .bool a.acked] 48))
  obtain ⟨a0, a1, a2, a3, a4⟩ := a
  show Calls Try.prog 30 #[.agg #[.int .i64 a0, .int .i64 a1, .int .i64 a2, .bool a3, .bool a4]] w fun e w' => e = .returned (.bool (!a4)) ∧ Below w.heap.size w w'
  go_enter Try.func30, Try.ntmps30
  go_wp2
  go_ret
  exact ⟨rfl, HB.out⟩

theorem pover_any (a : Al) (w : World) :
    Calls Try.prog 28 #[Avv a] w fun e w' => e = .returned (.bool (overA a)) ∧ Below w.heap.size w w' := by
  have HB := Hid.intro ((Below.refl _ w).alloc (Nat.le_refl _) (.cells #[.int .i64 a.bed, .int .i64 a.kind, .int .i64 a.since, .bool a.on, .bool a.acked] 48))
  obtain ⟨a0, a1, a2, a3, a4⟩ := a
  show Calls Try.prog 28 #[.agg #[.int .i64 a0, .int .i64 a1, .int .i64 a2, .bool a3, .bool a4]] w fun e w' => e = .returned (.bool (!a3 && a4)) ∧ Below w.heap.size w w'
  cases a3 <;> cases a4
  all_goals
    go_enter Try.func28, Try.ntmps28
    go_wp2
    go_ret
    exact ⟨rfl, HB.out⟩

set_option maxRecDepth 100000 in
theorem pclo_any (a : Al) (bed kind : Int) (bb bk : Nat) (w : World) (hb : w.cell? ⟨bb, 0, none⟩ = some (.int .i64 bed)) (hk : w.cell? ⟨bk, 0, none⟩ = some (.int .i64 kind)) :
    Calls Try.prog 39 #[Avv a, .pointer (some ⟨bb, 0, none⟩), .pointer (some ⟨bk, 0, none⟩)] w fun e w' => e = .returned (.bool (isA bed kind a)) ∧ Below w.heap.size w w' := by
  have HB := Hid.intro ((Below.refl _ w).alloc (Nat.le_refl _) (.cells #[.int .i64 a.bed, .int .i64 a.kind, .int .i64 a.since, .bool a.on, .bool a.acked] 48))
  obtain ⟨a0, a1, a2, a3, a4⟩ := a
  show Calls Try.prog 39 #[.agg #[.int .i64 a0, .int .i64 a1, .int .i64 a2, .bool a3, .bool a4], .pointer (some ⟨bb, 0, none⟩), .pointer (some ⟨bk, 0, none⟩)] w fun e w' => e = .returned (.bool (decide (a0 = bed) && decide (a1 = kind))) ∧ Below w.heap.size w w'
  have n1 : bb ≠ w.heap.size := by have q : bb < w.heap.size := cell_lt hb; omega
  have n2 : bk ≠ w.heap.size := by have q : bk < w.heap.size := cell_lt hk; omega
  have hd := cell_chg (below_chg HB.out) hb id
  have he := cell_chg (below_chg HB.out) hk id
  simp only at hd he
  by_cases h1 : a0 = bed
  · subst h1
    by_cases h2 : a1 = kind
    · subst h2
      simp only [decide_true, Bool.and_self]
      go_enter Try.func39, Try.ntmps39
      go_wp2
      go_ret
      exact ⟨rfl, HB.out⟩
    · have h2' : (a1 == kind) = false := by rw [beq_eq_false_iff_ne]; exact h2
      simp only [decide_true, decide_eq_false h2, Bool.and_false]
      clear h2
      go_enter Try.func39, Try.ntmps39
      go_wp2
      go_ret
      exact ⟨rfl, HB.out⟩
  · have h1' : (a0 == bed) = false := by rw [beq_eq_false_iff_ne]; exact h1
    simp only [decide_eq_false h1, Bool.false_and]
    clear h1
    go_enter Try.func39, Try.ntmps39
    go_wp2
    go_ret
    exact ⟨rfl, HB.out⟩

/-- The place of an alarm as an address; none. -/
def atA (g : Nat) (p : Int) : Option Addr := if p < 0 then none else some ⟨g, p.toNat * 5, none⟩

theorem atA_hit (g i : Nat) : atA g (i : Int) = some ⟨g, i * 5, none⟩ := by
  unfold atA
  rw [if_neg (by omega)]
  simp

theorem atA_miss (g : Nat) : atA g (-1) = none := rfl

set_option maxRecDepth 100000 in
theorem pfind_nil (bed kind : Int) (w : World) :
    Calls Try.prog 26 #[.pointer none, .int .i64 bed, .int .i64 kind] w fun e w' => e = .returned (.pointer none) ∧ Below w.heap.size w w' := by
  have HB := Hid.intro (((Below.refl _ w).alloc (Nat.le_refl _) (.cells #[.int .i64 bed] 3)).alloc (by simp) (.cells #[.int .i64 kind] 3))
  go_enter Try.func26, Try.ntmps26
  go_wp2
  go_ret
  exact ⟨rfl, HB.out⟩

set_option maxRecDepth 100000 in
set_option maxHeartbeats 1000000 in
theorem pfind_any (b : Nat) (bed kind : Int) (S : Nat → Prop) (v : Value) (L : List Al) (u : Int) (w : World) (h : PnS 47 48 S w b v L u) :
    Calls Try.prog 26 #[.pointer (some ⟨b, 0, none⟩), .int .i64 bed, .int .i64 kind] w fun e w' => e = .returned (.pointer (atA (blkA v) (posA (isA bed kind) L))) ∧ Below w.heap.size w w' := by
  have hf := h.ok.few
  have B1 : Below w.heap.size w (w.alloc (.cells #[.int .i64 bed] 3)) := (Below.refl _ w).alloc (Nat.le_refl _) _
  have B2 := B1.alloc (by simp) (.cells #[.int .i64 kind] 3)
  have g0 := heap_alloc_new w (.cells #[.int .i64 bed] 3)
  have g1 := heap_alloc_new (w.alloc (.cells #[.int .i64 bed] 3)) (.cells #[.int .i64 kind] 3)
  rw [World.size_alloc] at g1
  have g2 := alloc_farR (o := .cells #[.int .i64 kind] 3) g0
  obtain ⟨W2, hW2⟩ : ∃ W2, W2 = (w.alloc (.cells #[.int .i64 bed] 3)).alloc (.cells #[.int .i64 kind] 3) := ⟨_, rfl⟩
  rw [← hW2] at B2 g1 g2
  have h2 := h.below B2
  have bl : ∀ k, v.ownBlock = some k → k < w.heap.size := fun k hk => h.lt k (h.inV k hk)
  have k0 : blkA v < w.heap.size := by
    unfold blkA
    cases q : v.ownBlock with
    | none => have := h.lt b h.inB; show 0 < _; omega
    | some k => exact bl k q
  have HP : Pred 39 #[.pointer (some ⟨w.heap.size, 0, none⟩), .pointer (some ⟨w.heap.size + 1, 0, none⟩)] (isA bed kind) (blkA v) W2 := fun a W hW => by
    refine pclo_any a bed kind w.heap.size (w.heap.size + 1) W (cell_chg hW (by rw [cell_of_row _ _ 0 _ _ _ g2]; rfl) (fun q => ?_)) (cell_chg hW (by rw [cell_of_row _ _ 0 _ _ _ g1]; rfl) (fun q => ?_))
    · have q' : w.heap.size = blkA v := q
      omega
    · have q' : w.heap.size + 1 = blkA v := q
      omega
  have IX := Hid.intro (pifunc_all 39 #[.pointer (some ⟨w.heap.size, 0, none⟩), .pointer (some ⟨w.heap.size + 1, 0, none⟩)] (isA bed kind) (enters_of Try.func39 (by kernel_rfl) rfl) v L (by omega) W2 HP h2.own)
  have c0 := h2.cells.1
  have HA := Hid.intro (fun (W : World) (hW : Below W2.heap.size W2 W) => (h2.below hW).cells.1)
  have BH := Hid.intro (B2)
  rw [hW2] at IX c0 HA BH
  obtain ⟨ao, c, rfl, hz⟩ := ownsRow_form h.own
  rcases posA_ways (isA bed kind) L with ⟨p1, p2, p3⟩ | ⟨i, hi, p1, p2, p3, p4⟩
  · rw [p1] at IX ⊢
    rw [atA_miss]
    clear h h2 hz HP bl k0 g0 g1 g2 B1 B2 hW2 p1 p2 p3 hf
    generalize L.length = n at *
    go_enter Try.func26, Try.ntmps26
    go_wp2_with fail
    refine IX.out.mono ?_
    rintro e w1 ⟨rfl, B3⟩
    have FIN := Hid.intro (BH.out.trans (B3.mono BH.out.size))
    clear IX B3 HA
    go_wp2
    go_ret
    exact ⟨rfl, FIN.out⟩
  · rw [p1] at IX ⊢
    rw [atA_hit]
    obtain ⟨g, rfl⟩ := hz.resolve_left (by omega)
    have i0 : (0 : Int) ≤ (i : Int) := by omega
    have i1 : (i : Int) < (L.length : Int) := by omega
    have i2 : ¬ (i : Int) < 0 := by omega
    clear h h2 hz HP bl k0 g0 g1 g2 B1 B2 hW2 p1 p2 p3 p4 hf hi
    show Calls Try.prog _ _ w fun e w' => e = .returned (.pointer (some ⟨g, i * 5, none⟩)) ∧ _
    generalize L.length = n at *
    go_enter Try.func26, Try.ntmps26
    go_wp2_with fail
    refine IX.out.mono ?_
    rintro e w1 ⟨rfl, B3⟩
    have c1 := HA.out _ B3
    have FIN := Hid.intro (BH.out.trans (B3.mono BH.out.size))
    clear IX B3 HA
    go_wp2
    go_ret
    exact ⟨rfl, FIN.out⟩

end Go.Proofs.Ytbeeigfcchjdlaa
