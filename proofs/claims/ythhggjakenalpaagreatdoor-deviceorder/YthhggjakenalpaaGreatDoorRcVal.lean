/- Samples in memory: a list of them. -/
import Derived.Test.YthhggjakenalpaaGreatDoorRsVal
import Derived.Test.YthhggjakenalpaaGreatDoorMPlain
import Derived.Laws.OwnMore
namespace Go.Proofs.YthhggjakenalpaaGreatDoor
set_option maxRecDepth 100000
open Go.RowKit
open Bt

/-- A sample as a value. -/
abbrev Sm (s : Smp) : Value := .agg #[.int .i64 s.kind, .int .i64 s.tick, .int .i64 s.value]

/-- A list of samples, its block in R. -/
def SmsAt (R : Nat → Prop) (w : World) (v : Value) (l : List Smp) : Prop :=
  ∃ ao cap, v = .slice ao l.length cap ∧ (0 < l.length → ∃ pb off, ao = some ⟨pb, off, none⟩ ∧ R pb ∧ ∀ t, (ht : t < l.length) →
    w.cell? ⟨pb, off + t * 3, none⟩ = some (.int .i64 l[t].kind) ∧ w.cell? ⟨pb, off + t * 3 + 1, none⟩ = some (.int .i64 l[t].tick) ∧ w.cell? ⟨pb, off + t * 3 + 2, none⟩ = some (.int .i64 l[t].value))

theorem SmsAt.kept {R S : Nat → Prop} {w w' : World} {v : Value} {l : List Smp} (h : SmsAt R w v l) (hc : Chg S w w') (hR : ∀ k, R k → ¬ S k) : SmsAt R w' v l := by
  obtain ⟨ao, cap, e, h⟩ := h
  refine ⟨ao, cap, e, fun h0 => ?_⟩
  obtain ⟨pb, off, ha, hb, hp⟩ := h h0
  refine ⟨pb, off, ha, hb, fun t ht => ?_⟩
  obtain ⟨c0, c1, c2⟩ := hp t ht
  exact ⟨cell_chg hc c0 (hR _ hb), cell_chg hc c1 (hR _ hb), cell_chg hc c2 (hR _ hb)⟩

theorem SmsAt.below {R : Nat → Prop} {w w' : World} {v : Value} {l : List Smp} (h : SmsAt R w v l) (hb : Below w.heap.size w w') : SmsAt R w' v l := h.kept (below_chg hb) (fun _ _ => id)

theorem SmsAt.mono {R R' : Nat → Prop} {w : World} {v : Value} {l : List Smp} (h : SmsAt R w v l) (hR : ∀ k, R k → R' k) : SmsAt R' w v l := by
  obtain ⟨ao, cap, e, hp⟩ := h
  refine ⟨ao, cap, e, fun h0 => ?_⟩
  obtain ⟨pb, off, ha, hb, hq⟩ := hp h0
  exact ⟨pb, off, ha, hR _ hb, hq⟩

theorem SmsAt.len {R : Nat → Prop} {w : World} {v : Value} {l : List Smp} (h : SmsAt R w v l) : ∃ ao cap, v = .slice ao l.length cap := by
  obtain ⟨ao, cap, e, _⟩ := h
  exact ⟨ao, cap, e⟩

/-- The first of them. -/
theorem SmsAt.take {R : Nat → Prop} {w : World} {ao : Option Addr} {n c : Nat} {l : List Smp} (h : SmsAt R w (.slice ao n c) l) (m c' : Nat) (hm : m ≤ l.length) : SmsAt R w (.slice ao m c') (l.take m) := by
  obtain ⟨ao', cap, e, hp⟩ := h
  simp only [Value.slice.injEq] at e
  obtain ⟨rfl, _, _⟩ := e
  have hl : (l.take m).length = m := by simp; omega
  refine ⟨ao, c', by rw [hl], fun h0 => ?_⟩
  obtain ⟨pb, off, ha, hb, hq⟩ := hp (by omega)
  refine ⟨pb, off, ha, hb, fun t ht => ?_⟩
  simp only [List.getElem_take]
  exact hq t (by omega)

/-- The cells of samples. -/
def mcell (s : Smp) : List Value := [.int .i64 s.kind, .int .i64 s.tick, .int .i64 s.value]

def mcells (l : List Smp) : List Value := l.flatMap mcell

theorem mcells_append (a b : List Smp) : mcells (a ++ b) = mcells a ++ mcells b := by simp [mcells]

theorem mcells_one (s : Smp) : mcells [s] = mcell s := by simp [mcells]

theorem mcells_length (l : List Smp) : (mcells l).length = l.length * 3 := by
  induction l with
  | nil => rfl
  | cons s l ih => rw [show mcells (s :: l) = mcell s ++ mcells l from rfl, List.length_append, ih, List.length_cons]; simp [mcell]; omega

theorem mcells_at (l : List Smp) {i j : Nat} (h : i < l.length) (hj : j < 3) : (mcells l)[i * 3 + j]? = (mcell l[i])[j]? := by
  induction l generalizing i with
  | nil => exact absurd h (by simp)
  | cons s l ih =>
    rw [show mcells (s :: l) = mcell s ++ mcells l from rfl]
    have hs : (mcell s).length = 3 := rfl
    cases i with
    | zero => rw [List.getElem?_append_left (by omega)]; simp
    | succ i =>
      rw [List.getElem?_append_right (by omega), hs, show (i + 1) * 3 + j - 3 = i * 3 + j by omega]
      exact ih (by simpa using h)

theorem mcells_onecell (l : List Smp) : ∀ u ∈ mcells l, u.oneCell' = true := by
  intro u hu
  obtain ⟨s, _, hs⟩ := List.mem_flatMap.1 hu
  simp only [mcell, List.mem_cons, List.not_mem_nil, or_false] at hs
  rcases hs with rfl | rfl | rfl <;> rfl

/-- Where they lie. -/
theorem sms_of_owns {w : World} {v : Value} {l : List Smp} (h : w.ownsRow 0 35 3 v l.length (mcells l)) {R : Nat → Prop} (hR : ∀ k, v.ownBlock = some k → R k) : SmsAt R w v l := by
  obtain ⟨ao, c, rfl, hf⟩ := ownsRow_form h
  refine ⟨ao, c, rfl, fun h0 => ?_⟩
  obtain ⟨g, rfl⟩ := hf.resolve_left (by omega)
  refine ⟨g, 0, rfl, hR g rfl, fun t ht => ?_⟩
  have q : ∀ j, j < 3 → w.cell? ⟨g, 0 + t * 3 + j, none⟩ = (mcell l[t])[j]? := fun j hj => by
    rw [Nat.zero_add, h.cellAt (t * 3 + j) (by omega)]
    exact mcells_at l ht hj
  exact ⟨q 0 (by omega), q 1 (by omega), q 2 (by omega)⟩

theorem info_smp : (Tryz.prog.info? 35).map (fun i => (i.zero, i.size, i.bytes)) = some (some (.agg #[.int .i64 0, .int .i64 0, .int .i64 0]), 3, 24) := by kernel_rfl

end Go.Proofs.YthhggjakenalpaaGreatDoor
