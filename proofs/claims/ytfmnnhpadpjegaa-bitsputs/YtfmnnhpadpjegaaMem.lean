/- What a step may have changed ('Chg'), and what a pen and an eye hold in memory ('PenAt', 'EyeAt'). -/
import Derived.Test.YtfmnnhpadpjegaaRows
import Derived.Test.YtfmnnhpadpjegaaPure
import Derived.WalkKit
import Derived.WalkSpells
import Derived.WalkLawsBesides
import Derived.Deep.AppendLies
namespace Go.Proofs.Ytfmnnhpadpjegaa
open Go.RowKit
open Bt

/-- But for the blocks in S, and new ones, w' is as w was. -/
structure Chg (S : Nat → Prop) (w w' : World) : Prop where
  os : w'.os = w.os
  tape : w'.tape = w.tape
  output : w'.output = w.output
  size : w.heap.size ≤ w'.heap.size
  block : ∀ k, k < w.heap.size → ¬ S k → w'.heap[k]? = w.heap[k]?

theorem Chg.refl (S : Nat → Prop) (w : World) : Chg S w w := ⟨rfl, rfl, rfl, Nat.le_refl _, fun _ _ _ => rfl⟩

theorem Chg.trans {S T : Nat → Prop} {a b c : World} (h : Chg S a b) (k : Chg T b c) (hS : ∀ i, T i → i < a.heap.size → S i) : Chg S a c :=
  ⟨k.os.trans h.os, k.tape.trans h.tape, k.output.trans h.output, Nat.le_trans h.size k.size,
    fun i hi hn => (k.block i (Nat.lt_of_lt_of_le hi h.size) (fun t => hn (hS i t hi))).trans (h.block i hi hn)⟩

theorem Chg.mono {S T : Nat → Prop} {a b : World} (h : Chg S a b) (hS : ∀ i, S i → i < a.heap.size → T i) : Chg T a b :=
  (Chg.refl T a).trans h hS

theorem Chg.drew {S : Nat → Prop} {a w : World} (h : Chg S a w) : Chg S a w.drew := ⟨h.os, h.tape, h.output, h.size, h.block⟩

theorem Chg.drewN {S : Nat → Prop} {a w : World} (h : Chg S a w) (n : Nat) : Chg S a (w.drewN n) := ⟨h.os, h.tape, h.output, h.size, h.block⟩

theorem Chg.alloc {S : Nat → Prop} {a w : World} (h : Chg S a w) (o : Obj) : Chg S a (w.alloc o) :=
  h.trans (T := fun _ => False) ⟨rfl, rfl, rfl, by simp, fun k hk _ => Below.heap_alloc _ _ _ hk⟩ (fun _ f _ => f.elim)

theorem Chg.setCell {S : Nat → Prop} {a w : World} (h : Chg S a w) {p : Addr} (hp : p.block < a.heap.size → S p.block) (u : Value) : Chg S a (w.setCell p u) :=
  h.trans (T := fun k => k = p.block) ⟨rfl, rfl, rfl, by simp, fun k _ hk => Below.heap_setCell _ _ _ _ hk⟩ (fun i e hi => by subst e; exact hp hi)

theorem Chg.grown {S : Nat → Prop} {a w w' : World} {row : Option Nat} (h : Chg S a w) (hg : w.grownBy w' row) (hr : ∀ k, row = some k → k < a.heap.size → S k) : Chg S a w' :=
  h.trans (T := fun k => row = some k) ⟨hg.os, hg.tape, hg.output, hg.size, fun k hk hn => hg.block k hk (fun e => hn e.symm)⟩ hr

theorem Chg.below {S : Nat → Prop} {B : Nat} {w w' : World} (h : Chg S w w') (hB : B ≤ w.heap.size) (hS : ∀ k, S k → B ≤ k) : Below B w w' :=
  ⟨h.os, h.tape, h.output, h.size, fun k hk => h.block k (by omega) (fun s => by have := hS k s; omega)⟩

theorem lt_of_heap {w : World} {k : Nat} {o : Obj} (h : w.heap[k]? = some o) : k < w.heap.size := by
  rcases Nat.lt_or_ge k w.heap.size with hlt | hge
  · exact hlt
  · rw [Array.getElem?_eq_none hge] at h; cases h

/-- A row of cells that stays. -/
theorem ownsRow_of_block {w w' : World} {e : TypeId} {v : Value} {n : Nat} {xs : List Value} (h : w.ownsRow 0 e 1 v n xs)
    (hk : ∀ k, v.ownBlock = some k → w'.heap[k]? = w.heap[k]?) : w'.ownsRow 0 e 1 v n xs := by
  obtain ⟨h1, h2⟩ := h
  refine ⟨h1, ?_⟩
  rcases h2 with h2 | ⟨g, cap, cur, hv, hg, hh, r⟩
  · exact .inl h2
  · exact .inr ⟨g, cap, cur, hv, hg, by rw [hk g (by rw [hv]; rfl)]; exact hh, r⟩

theorem ownsRow_lt {w : World} {e : TypeId} {v : Value} {n : Nat} {xs : List Value} (h : w.ownsRow 0 e 1 v n xs) {k : Nat} (hk : v.ownBlock = some k) : k < w.heap.size :=
  (World.ownsRow.lt h k hk).2

/-- A byte as a value. -/
abbrev U (b : Nat) : Value := .int .u8 (b : Int)

/-- A pen at block pb, its row the value v, that has written the bits l. -/
structure PenAt (w : World) (pb : Nat) (v : Value) (l : List Nat) : Prop where
  bits : Bits l
  here : w.heap[pb]? = some (.cells #[v, .int .i64 l.length] 26 (0, 0))
  row : w.ownsRow 0 5 1 v (pack l).length ((pack l).map U)

theorem PenAt.apart {w : World} {pb : Nat} {v : Value} {l : List Nat} (h : PenAt w pb v l) : v.ownBlock ≠ some pb := by
  intro e
  rcases h.row.2 with ⟨hv, _⟩ | ⟨g, cap, cur, hv, _, hh, _⟩
  · rw [hv] at e; cases e
  · rw [hv] at e
    have : g = pb := by simpa [Value.ownBlock] using e
    subst this
    rw [h.here] at hh
    simp at hh

theorem PenAt.lt {w : World} {pb : Nat} {v : Value} {l : List Nat} (h : PenAt w pb v l) : pb < w.heap.size := lt_of_heap h.here

/-- The blocks of a pen. -/
def penFoot (pb : Nat) (v : Value) (k : Nat) : Prop := k = pb ∨ v.ownBlock = some k

theorem PenAt.kept {w w' : World} {S : Nat → Prop} {pb : Nat} {v : Value} {l : List Nat} (h : PenAt w pb v l) (hc : Chg S w w') (hS : ∀ k, penFoot pb v k → ¬ S k) : PenAt w' pb v l :=
  ⟨h.bits, by rw [hc.block pb h.lt (hS pb (.inl rfl))]; exact h.here, ownsRow_of_block h.row fun k hk => hc.block k (ownsRow_lt h.row hk) (hS k (.inr hk))⟩

end Go.Proofs.Ytfmnnhpadpjegaa
