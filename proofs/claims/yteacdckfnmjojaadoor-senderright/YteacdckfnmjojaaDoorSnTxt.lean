/- Texts that are gathered beside a sender. -/
import Derived.Test.YteacdckfnmjojaaDoorSnL
import Derived.Test.YteacdckfnmjojaaDoorSnRightP
import Derived.Test.YteacdckfnmjojaaDoorSnFewA
namespace Go.Proofs.YteacdckfnmjojaaDoor
open Go.RowKit
open Bt

theorem ActAt8.below {w w' : World} {b o : Nat} {x : Act8} {a c : Option Addr × Nat} (h : ActAt8 w b o x a c) (hb : Below w.heap.size w w') : ActAt8 w' b o x a c := by
  obtain ⟨x0, x1, x2, x3, x4, x5, x6, x7, x8, r1, m1, r2, m2⟩ := h
  exact ⟨cellF hb x0, cellF hb x1, cellF hb x2, cellF hb x3, cellF hb x4, cellF hb x5, cellF hb x6, cellF hb x7, cellF hb x8, r1.below hb, m1, r2.below hb, m2⟩

theorem ActsAt8.below {w w' : World} {ao : Option Addr} {l : List Act8} (h : ActsAt8 w ao l) (hb : Below w.heap.size w w') : ActsAt8 w' ao l := by
  intro h0
  obtain ⟨b, off, ha, hc⟩ := h h0
  refine ⟨b, off, ha, fun i hi => ?_⟩
  obtain ⟨a, c, q⟩ := hc i hi
  exact ⟨a, c, q.below hb⟩

/-- Rows that lie below B, in a list of one's own above. -/
structure TxAt (B : Nat) (w : World) (v : Value) (T : List (List Nat)) (ad : Nat → Option Addr) (cp : Nat → Nat) : Prop where
  own : w.ownsRow 0 37 1 v T.length ((List.range T.length).map (fun i => .slice (ad i) (T.getD i []).length (cp i)))
  ap : ∀ k, v.ownBlock = some k → B ≤ k
  rd : ∀ i, i < T.length → Reads w (ad i) (T.getD i []) ∧ ∀ a, ad i = some a → a.block < B

variable {B : Nat} {w w' : World} {v : Value} {T : List (List Nat)} {ad : Nat → Option Addr} {cp : Nat → Nat}

theorem TxAt.start : TxAt B w (.slice none 0 0) [] (fun _ => none) (fun _ => 0) := ⟨World.ownsRow_nil _ _ _ _, fun k h => by simp [Value.ownBlock] at h, fun i h => by simp at h⟩

theorem TxAt.kept {F : Nat → Prop} (h : TxAt B w v T ad cp) (hc : Chg F w w') (h1 : ∀ k, k < B → ¬ F k) (h2 : ∀ k, v.ownBlock = some k → ¬ F k) : TxAt B w' v T ad cp :=
  ⟨ownsRow_keep h.own fun k hk => hc.block k (World.ownsRow.lt h.own k hk).2 (h2 k hk), h.ap, fun i hi => ⟨(h.rd i hi).1.kept hc (fun a ha => h1 _ ((h.rd i hi).2 a ha)), (h.rd i hi).2⟩⟩

theorem TxAt.below (h : TxAt B w v T ad cp) (hb : Below w.heap.size w w') : TxAt B w' v T ad cp := h.kept (below_chg hb) (fun _ _ => id) (fun _ _ => id)

theorem TxAt.cells (h : TxAt B w v T ad cp) {i : Nat} (hi : i < T.length) : ∃ g c, v = .slice (some ⟨g, 0, none⟩) T.length c ∧ w.cell? ⟨g, i, none⟩ = some (.slice (ad i) (T.getD i []).length (cp i)) := by
  obtain ⟨ao, c, rfl, hf⟩ := ownsRow_form h.own
  rcases hf with hf | ⟨g, rfl⟩
  · omega
  · refine ⟨g, c, rfl, ?_⟩
    rw [h.own.cellAt i (by omega)]
    simp [hi]

/-- One text more. -/
theorem TxAt.more (h : TxAt B w v T ad cp) {W w7 : World} {g7 c7 c : Nat} {a : Option Addr} {bs : List Nat} (hW : Below w.heap.size w W)
    (hown : w7.ownsRow 0 37 1 (.slice (some ⟨g7, 0, none⟩) (T.length + 1) c7) (T.length + 1) ((List.range T.length).map (fun i => .slice (ad i) (T.getD i []).length (cp i)) ++ [.slice a bs.length c]))
    (hgrow : W.grownBy w7 v.ownBlock) (hat : v.ownBlock = some g7 ∨ w.heap.size ≤ g7) (hB : B ≤ w.heap.size) (hr : Reads w a bs) (ha : ∀ z, a = some z → z.block < B) :
    TxAt B w7 (.slice (some ⟨g7, 0, none⟩) (T.length + 1) c7) (T ++ [bs]) (fun i => if i = T.length then a else ad i) (fun i => if i = T.length then c else cp i) := by
  have C7 : Chg (fun q => v.ownBlock = some q) w w7 := ((below_chg hW).mono (fun _ q _ => q.elim)).grown hgrow (fun q hq _ => hq)
  have hn : ∀ z : Addr, z.block < B → ¬ v.ownBlock = some z.block := fun z hz q => by have := h.ap _ q; omega
  have hl : (T ++ [bs]).length = T.length + 1 := by simp
  refine ⟨?_, fun k hk => ?_, fun i hi => ?_⟩
  · rw [hl]
    have e : (List.range (T.length + 1)).map (fun i => Value.slice (if i = T.length then a else ad i) ((T ++ [bs]).getD i []).length (if i = T.length then c else cp i)) = (List.range T.length).map (fun i => .slice (ad i) (T.getD i []).length (cp i)) ++ [.slice a bs.length c] := by
      rw [List.range_succ, List.map_append]
      congr 1
      · apply List.map_congr_left
        intro i hi
        have hi := List.mem_range.1 hi
        rw [if_neg (by omega), if_neg (by omega), tx_snoc hi]
      · simp
    rw [e]
    exact hown
  · obtain rfl : g7 = k := by simpa [Value.ownBlock] using hk
    rcases hat with q | q
    · exact h.ap _ q
    · omega
  · by_cases e : i = T.length
    · subst e
      simp only [if_true]
      rw [tx_last]
      exact ⟨hr.kept C7 (fun z hz => hn z (ha z hz)), ha⟩
    · simp only [if_neg e]
      have hi' : i < T.length := by omega
      rw [tx_snoc hi']
      exact ⟨(h.rd i hi').1.kept C7 (fun z hz => hn z ((h.rd i hi').2 z hz)), (h.rd i hi').2⟩

variable {M b : Nat} {x : Snd}

/-- A sender beside a list that grows. -/
theorem SL.app {v7 : Value} {W w7 : World} (h : SL (fun k => k < B ∨ v.ownBlock = some k) M w w b x) (hW : Below w.heap.size w W) (hgrow : W.grownBy w7 v.ownBlock)
    (hat : ∀ k, v7.ownBlock = some k → (v.ownBlock = some k ∨ w.heap.size ≤ k) ∧ k < w7.heap.size) : SL (fun k => k < B ∨ v7.ownBlock = some k) M w7 w7 b x := by
  obtain ⟨S, h1, h2, h3, _⟩ := h
  have C7 : Chg (fun q => v.ownBlock = some q) w w7 := ((below_chg hW).mono (fun _ q _ => q.elim)).grown hgrow (fun q hq _ => hq)
  refine ⟨S, h1.kept C7 (fun k hk q => h2 k hk (.inr q)), fun k hk q => ?_, fun k q => ?_, Chg.refl _ _⟩
  · rcases q with q | q
    · exact h2 k hk (.inl q)
    · rcases (hat k q).1 with r | r
      · exact h2 k hk (.inr r)
      · have := h1.lt k hk; omega
  · rcases q with q | q
    · have := h3 k (.inl q); have := C7.size; omega
    · exact (hat k q).2

end Go.Proofs.YteacdckfnmjojaaDoor
