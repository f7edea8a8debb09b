/- Rows of bytes that grow, each for itself, in memory of one's own: and the slice of them. -/
import Derived.Test.YthhggjakenalpaaGreatDoorBase
import Derived.Laws.OwnMore
namespace Go.Proofs.YthhggjakenalpaaGreatDoor
set_option maxRecDepth 100000
open Go.RowKit

/-- So many rows: their values, their bytes. -/
structure Rag (B : Nat) (w : World) (mb i mc : Nat) (vs : Nat → Value) (R : Nat → List Nat) : Prop where
  top : w.ownsRow 0 42 1 (.slice (some ⟨mb, 0, none⟩) i mc) i ((List.range i).map vs)
  row : ∀ r, r < i → w.ownsRow 0 5 1 (vs r) (R r).length ((R r).map U)
  apart : ∀ r s k, r < i → s < i → r ≠ s → (vs r).ownBlock = some k → (vs s).ownBlock ≠ some k
  newTop : B ≤ mb
  newRow : ∀ r k, r < i → (vs r).ownBlock = some k → B ≤ k

variable {B : Nat} {w : World} {mb i mc : Nat} {vs : Nat → Value} {R : Nat → List Nat}

theorem Rag.topApart (h : Rag B w mb i mc vs R) {r : Nat} (hr : r < i) : (vs r).ownBlock ≠ some mb := fun e =>
  rows_apart h.top (h.row r hr) (by decide) mb rfl e

theorem Rag.kept {S : Nat → Prop} {w' : World} (h : Rag B w mb i mc vs R) (hc : Chg S w w') (hm : ¬ S mb) (hr : ∀ r k, r < i → (vs r).ownBlock = some k → ¬ S k) : Rag B w' mb i mc vs R :=
  ⟨ownsRow_keep h.top fun k hk => by
      have e : mb = k := by simpa [Value.ownBlock] using hk
      subst e
      exact hc.block _ (ownsRow_lt h.top rfl) hm,
    fun r hi => ownsRow_keep (h.row r hi) fun k hk => hc.block k (ownsRow_lt (h.row r hi) hk) (hr r k hi hk),
    h.apart, h.newTop, h.newRow⟩

theorem Rag.below {w' : World} (h : Rag B w mb i mc vs R) (hb : Below w.heap.size w w') : Rag B w' mb i mc vs R :=
  h.kept (below_chg hb) id (fun _ _ _ _ => id)

theorem Rag.cellTop (h : Rag B w mb i mc vs R) {r : Nat} (hr : r < i) : w.cell? ⟨mb, r, none⟩ = some (vs r) := by
  rw [h.top.cellAt r (by omega)]
  simp [hr]

theorem Rag.frozenTop (h : Rag B w mb i mc vs R) (r : Nat) : w.frozen? ⟨mb, r, none⟩ = false := h.top.frozenAt r

/-- A row grown, and put back into its place. -/
theorem Rag.app {w' : World} {v' : Value} {ys : List Nat} {r : Nat} (h : Rag B w mb i mc vs R) (hr : r < i) (hB : B ≤ w.heap.size)
    (hown : w'.ownsRow 0 5 1 v' ys.length (ys.map U)) (hc : Chg (fun k => (vs r).ownBlock = some k) w w')
    (hat : ∀ k, v'.ownBlock = some k → (vs r).ownBlock = some k ∨ w.heap.size ≤ k) :
    Rag B (w'.setCell ⟨mb, r, none⟩ v') mb i mc (fun s => if s = r then v' else vs s) (fun s => if s = r then ys else R s) := by
  have hmb : mb < w.heap.size := ownsRow_lt h.top rfl
  have hvb : v'.ownBlock ≠ some mb := fun e => by
    rcases hat mb e with e1 | e1
    · exact h.topApart hr e1
    · omega
  have ht : w'.ownsRow 0 42 1 (.slice (some ⟨mb, 0, none⟩) i mc) i ((List.range i).map vs) := ownsRow_keep h.top fun k hk => by
    have e : mb = k := by simpa [Value.ownBlock] using hk
    subst e
    exact hc.block _ hmb (h.topApart hr)
  have hrow : ∀ s, s < i → s ≠ r → w'.ownsRow 0 5 1 (vs s) (R s).length ((R s).map U) := fun s hs hne =>
    ownsRow_keep (h.row s hs) fun k hk => hc.block k (ownsRow_lt (h.row s hs) hk) (fun q => h.apart s r k hs hr hne hk q)
  have hlt : ∀ s k, s < i → (vs s).ownBlock = some k → k < w.heap.size := fun s k hs hk => ownsRow_lt (h.row s hs) hk
  refine ⟨?_, fun s hs => ?_, fun s t k hs ht' hne hk => ?_, h.newTop, fun s k hs hk => ?_⟩
  · have h2 := (ht.stored r v').1
    have e : ((List.range i).map vs).set r v' = (List.range i).map (fun s => if s = r then v' else vs s) := by
      apply List.ext_getElem
      · simp
      · intro j h3 h4
        rw [List.getElem_set]
        simp only [List.getElem_map, List.getElem_range]
        by_cases e1 : r = j
        · rw [if_pos e1, if_pos e1.symm]
        · rw [if_neg e1, if_neg (fun q => e1 q.symm)]
    rw [e] at h2
    exact h2
  · show (w'.setCell ⟨mb, r, none⟩ v').ownsRow 0 5 1 (if s = r then v' else vs s) (if s = r then ys else R s).length ((if s = r then ys else R s).map U)
    by_cases e : s = r
    · rw [if_pos e, if_pos e]
      exact ownsRow_keep hown fun k hk => heap_setCell_other _ _ _ _ (fun q => hvb (by rw [hk]; simp [q]))
    · rw [if_neg e, if_neg e]
      exact ownsRow_keep (hrow s hs e) fun k hk => heap_setCell_other _ _ _ _ (fun q => h.topApart hs (by rw [hk]; simp [q]))
  · show (if t = r then v' else vs t).ownBlock ≠ some k
    replace hk : (if s = r then v' else vs s).ownBlock = some k := hk
    by_cases e1 : s = r
    · rw [if_pos e1] at hk
      rw [if_neg (fun e2 => hne (e1.trans e2.symm))]
      intro q
      rcases hat k hk with h1 | h1
      · exact h.apart r t k hr ht' (fun e => hne (e1.trans e)) h1 q
      · have := hlt t k ht' q; omega
    · rw [if_neg e1] at hk
      by_cases e2 : t = r
      · rw [if_pos e2]
        intro q
        rcases hat k q with h1 | h1
        · exact h.apart s r k hs hr e1 hk h1
        · have := hlt s k hs hk; omega
      · rw [if_neg e2]
        exact h.apart s t k hs ht' hne hk
  · replace hk : (if s = r then v' else vs s).ownBlock = some k := hk
    by_cases e1 : s = r
    · rw [if_pos e1] at hk
      rcases hat k hk with h1 | h1
      · exact h.newRow r k hr h1
      · omega
    · rw [if_neg e1] at hk
      exact h.newRow s k hs hk

/-- What is told of rows is told of those that are there. -/
theorem Rag.congr {R' : Nat → List Nat} (h : Rag B w mb i mc vs R) (e : ∀ r, r < i → R r = R' r) : Rag B w mb i mc vs R' :=
  ⟨h.top, fun r hr => by rw [← e r hr]; exact h.row r hr, h.apart, h.newTop, h.newRow⟩

end Go.Proofs.YthhggjakenalpaaGreatDoor
