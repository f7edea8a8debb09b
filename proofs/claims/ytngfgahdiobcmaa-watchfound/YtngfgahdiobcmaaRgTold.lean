/- A range over a function whose rounds go by their number: the iterator is told what lies between two rounds. -/
import Derived.RangeFuncNested
import Derived.RangeFuncBound
import Derived.RangeFuncCalls
import Derived.RangeFuncLeaves
import Derived.RangeFuncFrom
import Derived.Shelf.Abstract
import Derived.Shelf.RegionOpen
import Derived.WalkKit
import Derived.OwnWalkIn
import Derived.TacticsInMore
import Derived.LoopNIn
import Derived.LoopIn
import Derived.Test.YtngfgahdiobcmaaBase
namespace Go.Proofs.Ytngfgahdiobcmaa
open Go.RowKit Go.Shelf

/-- A round goes on: what is no row of cells lies as it lay. -/
def toldPost (B : Nat) (I : World → Prop) (W : World) : Exit → Act → World → Prop
  | .normal, _, W' => KeepsFrom B W W' ∧ I W'
  | _, _, _ => False

theorem grown_drew (W : World) (k : Nat) : W.grownBy (W.drewN k) none := ⟨rfl, rfl, rfl, Nat.le_refl _, fun _ _ _ => rfl⟩

/-- What lies between two rounds, and the loop's own two blocks. -/
structure Told (I : Nat → World → Prop) (r : Loop) (d : Nat) (c : Nat) (W : World) : Prop where
  inv : I c W
  rcd : W.heap[d + 1]? = some (.loop r)
  dfr : W.heap[d]? = some (.deferred (some []))

/-- The statement, by its rounds' numbers. -/
theorem wpIn_range_told {F : Fence} {n : Nat} {P : Program} {g : Operand} {ps : Array Tmp} {assign body : Code} {Q : Exit → Act → World → Prop} {a : Act} {w : World}
    (hro : F.round = none) (h1 : 1 ≤ n) {gf : Nat} {lb : Array Value} (hg : a.eval g = .func (.func gf) #[] lb) (hFg : F.fn gf) (eg : ∀ args w, (callFunc gf args).run P w = .ok (.enter gf args) w)
    (N : Nat) (I : Nat → World → Prop) (enc : Nat → Array Value) (hI : OwnFrom w.heap.size I) (h0 : I 0 w) (hps : ∀ c, (enc c).size = ps.size)
    (hit : ∀ (l : Nat) (J : Nat → World → Prop) (W : World), (∀ c W, J c W → I c W) → (∀ c W k, J c W → J c (W.drewN k)) →
      (∀ c W1, c < N → J c W1 → YieldAt F (n - 1 - 1) P l (enc c) W1 fun e W' => e = .returned (.bool true) ∧ J (c + 1) W') → J 0 W →
      CallsIn F (n - 1) P gf (#[.func (.yield l) #[] #[]] ++ lb) W fun e W' => (∃ v, e = .returned v) ∧ J N W')
    (a₁ : Nat → Act)
    (hassign : ∀ (l c : Nat) (W : World) (K : Act → World → Prop), c < N → K (a₁ c) W →
      assign.wpIn (F.inRound l) (n - 1 - 1) P (Exit.then K (fun _ _ _ => False)) { tmps := (ps.zip (enc c)).foldl (fun t (p, v) => t.setIfInBounds p v) a.tmps, defers := [] } W)
    (hbody : ∀ (l c : Nat) (W : World), c < N → I c W → body.wpIn (F.inRound l) (n - 1 - 1) P (toldPost w.heap.size (I (c + 1)) W) (a₁ c) W)
    (hdone : ∀ (D : Nat) (W : World), w.heap.size ≤ D → I N W → W.heap[D]? = some (.deferred (some [])) → Q .normal { a with defers := { target := .collected D, args := #[] } :: a.defers } W) :
    (Code.rangeFunc g ps assign body).wpIn F n P Q a w := by
  refine wpIn_rangeFunc fun fn hfn => ?_
  rw [hro]
  let r : Loop := { state := .ready, pending := none, fn, tmps := a.tmps, params := ps, assign, body, defers := w.heap.size }
  have start : Told I r w.heap.size 0 ((w.alloc (.deferred (some []))).alloc (.loop r)) := by
    refine ⟨hI.alloc _ (hI.alloc _ h0), ?_, ?_⟩
    · have q := heap_alloc_new (w.alloc (.deferred (some []))) (.loop r)
      rw [World.size_alloc] at q
      exact q
    · exact (((Below.refl _ (w.alloc (.deferred (some [])))).alloc (Nat.le_refl _) (.loop r)).block _ (by simp)).trans (heap_alloc_new w _)
  have ent : (Instr.enterLoop fn a.tmps ps assign body none).run P w = .ok (w.heap.size + 1, [{ target := .collected w.heap.size, args := #[] }]) ((w.alloc (.deferred (some []))).alloc (.loop r)) := run_enterLoop_outer _ _ _ _ _
  generalize (w.alloc (.deferred (some []))).alloc (.loop r) = W1 at start ent
  refine ⟨w.heap.size + 1, [{ target := .collected w.heap.size, args := #[] }], W1, { target := .fn (.func gf) lb, args := #[.func (.yield (w.heap.size + 1)) #[] #[]] }, W1, gf, #[.func (.yield (w.heap.size + 1)) #[] #[]] ++ lb, W1,
    ent, ?_, (fun f' hf' => by simp [Target.leads] at hf'; subst hf'; exact hFg), by simp [invoke, go_sem, eg], fun _ => h1, ?_⟩
  · simp only [resolve, hg]
    simp [go_sem]
  refine (hit (w.heap.size + 1) (Told I r w.heap.size) _ (fun c W h => h.inv) (fun c W k h => ⟨hI c W _ none h.inv (grown_drew W k) (fun q e => by cases e), h.rcd, h.dfr⟩) (fun c W hc h => ?_) start).mono ?_
  · have hlt : w.heap.size + 1 < W.heap.size := lt_of_heap h.rcd
    refine ⟨fn, _, assign, body, run_yield (r := r) h.rcd (hps c), roundIn_of_wpIn hfn (hassign _ c W _ hc ⟨_, run_beginRound (r := r) h.rcd rfl, ?_⟩)⟩
    have inv2 : I c (W.putObj (w.heap.size + 1) (.loop { r with state := .busy })) := hI.putObj _ h.inv (by omega) h.rcd rfl
    have rcd2 : (W.putObj (w.heap.size + 1) (.loop { r with state := .busy })).heap[w.heap.size + 1]? = some (.loop { r with state := .busy }) := World.putObj_heap_same hlt
    have dfr2 : (W.putObj (w.heap.size + 1) (.loop { r with state := .busy })).heap[w.heap.size]? = some (.deferred (some [])) := (World.putObj_heap_other (by omega)).trans h.dfr
    refine wpIn_mono (hbody _ c _ hc inv2) ?_
    rintro e a3 W3 hp
    cases e with
    | normal =>
      have rcd3 := hp.1.same _ _ (Nat.le_succ _) rcd2 rfl
      have dfr3 := hp.1.same _ _ (Nat.le_refl _) dfr2 rfl
      exact ⟨_, _, run_endRound none rcd3, rfl, hI.putObj _ hp.2 (Nat.le_succ _) rcd3 rfl, World.putObj_heap_same (lt_of_heap rcd3), (World.putObj_heap_other (by omega)).trans dfr3⟩
    | ret => exact hp.elim
    | exit id => exact hp.elim
    | goto t => exact hp.elim
    | panic ch => exact hp.elim
    | outgrown => exact hp.elim
  · rintro e W2 ⟨⟨v, rfl⟩, h⟩
    exact ⟨none, _, run_endLoop (r := r) h.rcd (by simp [r]), hdone _ _ (Nat.le_refl _) (hI.putObj _ h.inv (Nat.le_succ _) h.rcd rfl) ((World.putObj_heap_other (by omega)).trans h.dfr)⟩

end Go.Proofs.Ytngfgahdiobcmaa
