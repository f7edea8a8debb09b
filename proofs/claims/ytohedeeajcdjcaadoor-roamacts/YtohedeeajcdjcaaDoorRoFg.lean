/- Two lists that are being made: numbers, and those that are kept. -/
import Derived.Test.YtohedeeajcdjcaaDoorRoMem
import Derived.Deep.AppendLies
namespace Go.Proofs.YtohedeeajcdjcaaDoor
open Go.RowKit
open Bt

/-- A number as a value. -/
abbrev N64 (n : Int) : Value := .int .i64 n

/-- Both lists own their blocks, from B on, and these are apart. -/
structure FgAt (B : Nat) (w : World) (gv kv : Value) (G : List Int) (K : List Sen) : Prop where
  own1 : w.ownsRow 0 3 1 gv G.length (G.map N64)
  own2 : w.ownsRow 0 41 4 kv K.length (scells K)
  new1 : ∀ k, gv.ownBlock = some k → B ≤ k
  new2 : ∀ k, kv.ownBlock = some k → B ≤ k
  apart : ∀ k, gv.ownBlock = some k → kv.ownBlock ≠ some k

variable {B : Nat} {w w' : World} {gv kv : Value} {G : List Int} {K : List Sen}

theorem fg_start (B : Nat) (w : World) : FgAt B w (.slice none 0 0) (.slice none 0 0) [] [] :=
  ⟨World.ownsRow_nil _ _ _ _, World.ownsRow_nil _ _ _ _, fun k hk => by simp [Value.ownBlock] at hk, fun k hk => by simp [Value.ownBlock] at hk, fun k hk => by simp [Value.ownBlock] at hk⟩

theorem FgAt.kept {S : Nat → Prop} (h : FgAt B w gv kv G K) (hc : Chg S w w') (h1 : ∀ k, gv.ownBlock = some k → ¬ S k) (h2 : ∀ k, kv.ownBlock = some k → ¬ S k) : FgAt B w' gv kv G K :=
  ⟨ownsRow_keep h.own1 fun k hk => hc.block k (World.ownsRow.lt h.own1 k hk).2 (h1 k hk), ownsRow_keep h.own2 fun k hk => hc.block k (World.ownsRow.lt h.own2 k hk).2 (h2 k hk), h.new1, h.new2, h.apart⟩

theorem FgAt.below (h : FgAt B w gv kv G K) (hb : Below w.heap.size w w') : FgAt B w' gv kv G K := h.kept (below_chg hb) (fun _ _ => id) (fun _ _ => id)

theorem FgAt.form (h : FgAt B w gv kv G K) : (∃ ao c, gv = .slice ao G.length c) ∧ ∃ ao c, kv = .slice ao K.length c := by
  obtain ⟨ao, c, e, _⟩ := ownsRow_form h.own1
  obtain ⟨ao', c', e', _⟩ := ownsRow_form h.own2
  exact ⟨⟨ao, c, e⟩, ao', c', e'⟩

/-- A number more. -/
theorem FgAt.num (h : FgAt B w gv kv G K) {w0 W wb : World} {gz cz n : Nat} {u : Int} (hw : Below w.heap.size w W) (h0 : Below B w0 W) (hB : B ≤ w0.heap.size) (hn : n = G.length)
    (own : wb.ownsRow 0 3 1 (.slice (some ⟨gz, 0, none⟩) (n + 1) cz) (n + 1) (G.map N64 ++ [.int .i64 u])) (hgrow : W.grownBy wb gv.ownBlock) (hat : gv.ownBlock = some gz ∨ gz = W.heap.size) :
    FgAt B wb (.slice (some ⟨gz, 0, none⟩) (n + 1) cz) kv (G ++ [u]) K ∧ Below B w0 wb := by
  subst hn
  have hW := h.below hw
  have C : Chg (fun k => gv.ownBlock = some k) W wb := (Chg.refl _ W).grown hgrow (fun q hq _ => hq)
  have hs := h0.size
  refine ⟨⟨?_, ownsRow_keep hW.own2 fun k hk => C.block k (World.ownsRow.lt hW.own2 k hk).2 (fun q => h.apart k q hk), fun k hk => ?_, h.new2, fun k hk q => ?_⟩, h0.trans (C.below (by omega) (fun k hk => h.new1 k hk))⟩
  · rw [List.length_append, List.map_append]
    exact own
  · obtain rfl : gz = k := by simpa [Value.ownBlock] using hk
    rcases hat with q | q
    · exact h.new1 gz q
    · omega
  · obtain rfl : gz = k := by simpa [Value.ownBlock] using hk
    rcases hat with r | r
    · exact h.apart gz r q
    · have := (World.ownsRow.lt hW.own2 gz q).2
      omega

/-- One more that is kept. -/
theorem FgAt.sen (h : FgAt B w gv kv G K) {w0 W wb : World} {gz cz n : Nat} {s : Sen} (hw : Below w.heap.size w W) (h0 : Below B w0 W) (hB : B ≤ w0.heap.size) (hn : n = K.length)
    (own : wb.ownsRow 0 41 4 (.slice (some ⟨gz, 0, none⟩) (n + 1) cz) (n + 1) (scells K ++ [.int .i64 s.tx, .int .i64 s.ant, .int .i64 s.rssi, .int .i64 s.last])) (hgrow : W.grownBy wb kv.ownBlock) (hat : kv.ownBlock = some gz ∨ gz = W.heap.size) :
    FgAt B wb gv (.slice (some ⟨gz, 0, none⟩) (n + 1) cz) G (K ++ [s]) ∧ Below B w0 wb := by
  subst hn
  have hW := h.below hw
  have C : Chg (fun k => kv.ownBlock = some k) W wb := (Chg.refl _ W).grown hgrow (fun q hq _ => hq)
  have hs := h0.size
  refine ⟨⟨ownsRow_keep hW.own1 fun k hk => C.block k (World.ownsRow.lt hW.own1 k hk).2 (fun q => h.apart k hk q), ?_, h.new1, fun k hk => ?_, fun k hk q => ?_⟩, h0.trans (C.below (by omega) (fun k hk => h.new2 k hk))⟩
  · rw [List.length_append, scells_append, scells_one]
    exact own
  · obtain rfl : gz = k := by simpa [Value.ownBlock] using hk
    rcases hat with q | q
    · exact h.new2 gz q
    · omega
  · obtain rfl : gz = k := by simpa [Value.ownBlock] using q
    rcases hat with r | r
    · exact h.apart gz hk r
    · have := (World.ownsRow.lt hW.own1 gz hk).2
      omega

/-- The numbers, where they lie. -/
theorem nums_of_owns (h : w.ownsRow 0 3 1 gv G.length (G.map N64)) {R : Nat → Prop} (hR : ∀ k, gv.ownBlock = some k → R k) : NumsAt R w gv G := by
  obtain ⟨ao, c, rfl, hf⟩ := ownsRow_form h
  refine ⟨ao, c, rfl, fun h0 => ?_⟩
  obtain ⟨g, rfl⟩ := hf.resolve_left (by omega)
  refine ⟨g, 0, rfl, hR g rfl, fun t ht => ?_⟩
  rw [Nat.zero_add, h.cellAt t (by omega)]
  simp [ht]

/-- What is taken of a list, one more. -/
theorem filter_take {α : Type} (p : α → Bool) (l : List α) {t : Nat} (ht : t < l.length) : (l.take (t + 1)).filter p = (l.take t).filter p ++ (if p l[t] = true then [l[t]] else []) := by
  rw [List.take_add_one, List.getElem?_eq_getElem ht, List.filter_append]
  congr 1
  simp only [Option.toList]
  by_cases e : p l[t] = true
  · simp [e]
  · simp [e]

end Go.Proofs.YtohedeeajcdjcaaDoor
