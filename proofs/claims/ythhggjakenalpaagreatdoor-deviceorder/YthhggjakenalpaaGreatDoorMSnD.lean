/- Several texts, one behind the other: RgTold SnK9 SnKa SnKc. -/
import Derived.Test.YthhggjakenalpaaGreatDoorBase
import Derived.RangeFuncNested
import Derived.RangeFuncBound
import Derived.RangeFuncCalls
import Derived.RangeFuncLeaves
import Derived.RangeFuncFrom
import Derived.Shelf.Abstract
import Derived.Shelf.RegionOpen
import Derived.WalkKit
import Derived.OwnWalkIn
import Derived.TacticsInMore
import Derived.LoopNIn
import Derived.LoopIn
import Derived.Test.YthhggjakenalpaaGreatDoorMSnA
import Derived.Test.YthhggjakenalpaaGreatDoorMPlain
import Derived.Test.YthhggjakenalpaaGreatDoorMSnB
import Derived.Test.YthhggjakenalpaaGreatDoorMSnC
/- A range over a function whose rounds go by their number: the iterator is told what lies between two rounds. -/
namespace Go.Proofs.YthhggjakenalpaaGreatDoor
set_option maxRecDepth 100000
open Go.RowKit Go.Shelf

/-- A round goes on: what is no row of cells lies as it lay. -/
def toldPost (B : Nat) (I : World → Prop) (W : World) : Exit → Act → World → Prop
  | .normal, _, W' => KeepsFrom B W W' ∧ I W'
  | _, _, _ => False

theorem grown_drew (W : World) (k : Nat) : W.grownBy (W.drewN k) none := ⟨rfl, rfl, rfl, Nat.le_refl _, fun _ _ _ => rfl⟩

/-- What lies between two rounds, and the loop's own two blocks. -/
structure Told (I : Nat → World → Prop) (r : Loop) (d : Nat) (c : Nat) (W : World) : Prop where
  inv : I c W
  rcd : W.heap[d + 1]? = some (.loop r)
  dfr : W.heap[d]? = some (.deferred (some []))

/-- The statement, by its rounds' numbers. -/
theorem wpIn_range_told {F : Fence} {n : Nat} {P : Program} {g : Operand} {ps : Array Tmp} {assign body : Code} {Q : Exit → Act → World → Prop} {a : Act} {w : World}
    (hro : F.round = none) (h1 : 1 ≤ n) {gf : Nat} {lb : Array Value} (hg : a.eval g = .func (.func gf) #[] lb) (hFg : F.fn gf) (eg : ∀ args w, (callFunc gf args).run P w = .ok (.enter gf args) w)
    (N : Nat) (I : Nat → World → Prop) (enc : Nat → Array Value) (hI : OwnFrom w.heap.size I) (h0 : I 0 w) (hps : ∀ c, (enc c).size = ps.size)
    (hit : ∀ (l : Nat) (J : Nat → World → Prop) (W : World), (∀ c W, J c W → I c W) → (∀ c W k, J c W → J c (W.drewN k)) →
      (∀ c W1, c < N → J c W1 → YieldAt F (n - 1 - 1) P l (enc c) W1 fun e W' => e = .returned (.bool true) ∧ J (c + 1) W') → J 0 W →
      CallsIn F (n - 1) P gf (#[.func (.yield l) #[] #[]] ++ lb) W fun e W' => (∃ v, e = .returned v) ∧ J N W')
    (a₁ : Nat → Act)
    (hassign : ∀ (l c : Nat) (W : World) (K : Act → World → Prop), c < N → K (a₁ c) W →
      assign.wpIn (F.inRound l) (n - 1 - 1) P (Exit.then K (fun _ _ _ => False)) { tmps := (ps.zip (enc c)).foldl (fun t (p, v) => t.setIfInBounds p v) a.tmps, defers := [] } W)
    (hbody : ∀ (l c : Nat) (W : World), c < N → I c W → body.wpIn (F.inRound l) (n - 1 - 1) P (toldPost w.heap.size (I (c + 1)) W) (a₁ c) W)
    (hdone : ∀ (D : Nat) (W : World), w.heap.size ≤ D → I N W → W.heap[D]? = some (.deferred (some [])) → Q .normal { a with defers := { target := .collected D, args := #[] } :: a.defers } W) :
    (Code.rangeFunc g ps assign body).wpIn F n P Q a w := by
  refine wpIn_rangeFunc fun fn hfn => ?_
  rw [hro]
  let r : Loop := { state := .ready, pending := none, fn, tmps := a.tmps, params := ps, assign, body, defers := w.heap.size }
  have start : Told I r w.heap.size 0 ((w.alloc (.deferred (some []))).alloc (.loop r)) := by
    refine ⟨hI.alloc _ (hI.alloc _ h0), ?_, ?_⟩
    · have q := heap_alloc_new (w.alloc (.deferred (some []))) (.loop r)
      rw [World.size_alloc] at q
      exact q
    · exact (((Below.refl _ (w.alloc (.deferred (some [])))).alloc (Nat.le_refl _) (.loop r)).block _ (by simp)).trans (heap_alloc_new w _)
  have ent : (Instr.enterLoop fn a.tmps ps assign body none).run P w = .ok (w.heap.size + 1, [{ target := .collected w.heap.size, args := #[] }]) ((w.alloc (.deferred (some []))).alloc (.loop r)) := run_enterLoop_outer _ _ _ _ _
  generalize (w.alloc (.deferred (some []))).alloc (.loop r) = W1 at start ent
  refine ⟨w.heap.size + 1, [{ target := .collected w.heap.size, args := #[] }], W1, { target := .fn (.func gf) lb, args := #[.func (.yield (w.heap.size + 1)) #[] #[]] }, W1, gf, #[.func (.yield (w.heap.size + 1)) #[] #[]] ++ lb, W1,
    ent, ?_, (fun f' hf' => by simp [Target.leads] at hf'; subst hf'; exact hFg), by simp [invoke, go_sem, eg], fun _ => h1, ?_⟩
  · simp only [resolve, hg]
    simp [go_sem]
  refine (hit (w.heap.size + 1) (Told I r w.heap.size) _ (fun c W h => h.inv) (fun c W k h => ⟨hI c W _ none h.inv (grown_drew W k) (fun q e => by cases e), h.rcd, h.dfr⟩) (fun c W hc h => ?_) start).mono ?_
  · have hlt : w.heap.size + 1 < W.heap.size := lt_of_heap h.rcd
    refine ⟨fn, _, assign, body, run_yield (r := r) h.rcd (hps c), roundIn_of_wpIn hfn (hassign _ c W _ hc ⟨_, run_beginRound (r := r) h.rcd rfl, ?_⟩)⟩
    have inv2 : I c (W.putObj (w.heap.size + 1) (.loop { r with state := .busy })) := hI.putObj _ h.inv (by omega) h.rcd rfl
    have rcd2 : (W.putObj (w.heap.size + 1) (.loop { r with state := .busy })).heap[w.heap.size + 1]? = some (.loop { r with state := .busy }) := World.putObj_heap_same hlt
    have dfr2 : (W.putObj (w.heap.size + 1) (.loop { r with state := .busy })).heap[w.heap.size]? = some (.deferred (some [])) := (World.putObj_heap_other (by omega)).trans h.dfr
    refine wpIn_mono (hbody _ c _ hc inv2) ?_
    rintro e a3 W3 hp
    cases e with
    | normal =>
      have rcd3 := hp.1.same _ _ (Nat.le_succ _) rcd2 rfl
      have dfr3 := hp.1.same _ _ (Nat.le_refl _) dfr2 rfl
      exact ⟨_, _, run_endRound none rcd3, rfl, hI.putObj _ hp.2 (Nat.le_succ _) rcd3 rfl, World.putObj_heap_same (lt_of_heap rcd3), (World.putObj_heap_other (by omega)).trans dfr3⟩
    | ret => exact hp.elim
    | exit id => exact hp.elim
    | goto t => exact hp.elim
    | panic ch => exact hp.elim
    | outgrown => exact hp.elim
  · rintro e W2 ⟨⟨v, rfl⟩, h⟩
    exact ⟨none, _, run_endLoop (r := r) h.rcd (by simp [r]), hdone _ _ (Nat.le_refl _) (hI.putObj _ h.inv (Nat.le_succ _) h.rcd rfl) ((World.putObj_heap_other (by omega)).trans h.dfr)⟩

end Go.Proofs.YthhggjakenalpaaGreatDoor

/- Package sender: a tick under way, in memory. -/
namespace Go.Proofs.YthhggjakenalpaaGreatDoor
set_option maxRecDepth 100000
open Go.RowKit
open Bt

/-- A block that holds a cell is a row of cells. -/
theorem cells_of_cell {W : World} {a : Addr} {v : Value} (h : W.cell? a = some v) : ∃ o : Obj, W.heap[a.block]? = some o ∧ o.isCells = true := by
  unfold World.cell? at h
  cases ho : W.heap[a.block]? with
  | none => simp [ho] at h
  | some o => exact ⟨o, rfl, by cases o <;> simp_all [Obj.isCells]⟩

theorem cells_of_own {W : World} {e : TypeId} {s n : Nat} {v : Value} {xs : List Value} (h : W.ownsRow 0 e s v n xs) {k : Nat} (hk : v.ownBlock = some k) : ∃ o : Obj, W.heap[k]? = some o ∧ o.isCells = true := by
  rcases h.2 with ⟨rfl, _⟩ | ⟨g, cap, cur, rfl, _, hg, _⟩
  · simp [Value.ownBlock] at hk
  · obtain rfl : g = k := by simpa [Value.ownBlock] using hk
    exact ⟨_, hg, rfl⟩

/-- What is turned holds no cells. -/
abbrev NoCells (B : Nat) (W : World) (row : Option Nat) : Prop := ∀ r, row = some r → B ≤ r ∧ ∃ o : Obj, W.heap[r]? = some o ∧ o.isCells = false

theorem NoCells.ne {B : Nat} {W : World} {row : Option Nat} (h : NoCells B W row) {k : Nat} {o : Obj} (ho : W.heap[k]? = some o) (hc : o.isCells = true) : some k ≠ row := fun e => by
  obtain ⟨_, o', ho', hc'⟩ := h k e.symm
  rw [ho] at ho'
  cases ho'
  rw [hc] at hc'
  cases hc'

theorem grown_chg {W W' : World} {row : Option Nat} (hg : W.grownBy W' row) : Chg (fun k => row = some k) W W' := ⟨hg.os, hg.tape, hg.output, hg.size, fun k hk hn => hg.block k hk (fun e => hn e.symm)⟩

theorem FtsN.grown {B B' : Nat} {W W' : World} {v : Value} {fs : List FrV} {ad : Nat → Option Addr} {cp : Nat → Nat} {row : Option Nat} (h : FtsN B W v fs ad cp) (hg : W.grownBy W' row) (hr : NoCells B' W row) : FtsN B W' v fs ad cp := by
  refine ⟨ownsRow_keep h.own fun k hk => ?_, h.ap, fun i hi => ⟨reads_keptN (h.dat i hi).1 (grown_chg hg) (fun q a ha e => ?_), (h.dat i hi).2⟩, h.ne⟩
  · obtain ⟨o, ho, hc⟩ := cells_of_own h.own hk
    exact hg.block k (World.ownsRow.lt h.own k hk).2 (hr.ne ho hc)
  · have hrd := (h.dat i hi).1
    rw [ha] at hrd
    obtain ⟨b, off, e', hcc⟩ := reads_at hrd q
    cases e'
    obtain ⟨o, ho, hc⟩ := cells_of_cell (hcc 0 q)
    exact hr.ne ho hc e.symm

/-- A tick under way: the first so many flights are behind it. -/
structure TkN (w W : World) (b : Nat) (v : Value) (n : Nat) (P : Nat → Flt) (lv : Nat → Value) (x : Snd) (now : Int) (t : Nat) (ow : Value) (ad : Nat → Option Addr) (cp : Nat → Nat) : Prop where
  head : W.heap[b]? = w.heap[b]?
  own : W.ownsRow 0 129 6 v n (fcells (tkP x now P t) lv n)
  chg : Chg (fun k => v.ownBlock = some k) w W
  fts : FtsN (w.heap.size + 5) W ow (tickT x now P t) ad cp
  box1 : W.heap[w.heap.size]? = some (.cells #[.pointer (some ⟨b, 0, none⟩)] 74 (0, 0))
  box2 : W.heap[w.heap.size + 1]? = some (.cells #[.int .i64 now] 3 (0, 0))
  box3 : W.heap[w.heap.size + 2]? = some (.cells #[ow] 81 (0, 0))
  box4 : W.heap[w.heap.size + 3]? = some (.cells #[.pointer (some ⟨b, 0, none⟩)] 74 (0, 0))
  box5 : W.heap[w.heap.size + 4]? = some (.cells #[.int .i64 now] 3 (0, 0))

variable {M : Nat} {S : Nat → Prop} {w W W' : World} {b n t : Nat} {v ow : Value} {P : Nat → Flt} {lv : Nat → Value} {x : Snd} {now : Int} {ad : Nat → Option Addr} {cp : Nat → Nat}

theorem TkN.grown {row : Option Nat} (hb : b < w.heap.size) (hv : ∀ k, v.ownBlock = some k → k < w.heap.size) (h : TkN w W b v n P lv x now t ow ad cp) (hg : W.grownBy W' row) (hr : NoCells (w.heap.size + 5) W row) : TkN w W' b v n P lv x now t ow ad cp := by
  have far : ∀ k, k < w.heap.size + 5 → k < W.heap.size → W'.heap[k]? = W.heap[k]? := fun k hk hl => hg.block k hl (fun e => by have := (hr k e.symm).1; omega)
  have hs := h.chg.size
  refine ⟨(far b (by omega) (by omega)).trans h.head, ownsRow_keep h.own fun k hk => far k (by have := hv k hk; omega) (World.ownsRow.lt h.own k hk).2, h.chg.grown hg (fun k e hk => by have := (hr k e).1; omega), h.fts.grown hg hr, ?_, ?_, ?_, ?_, ?_⟩
  · exact (far _ (by omega) (lt_of_heap h.box1)).trans h.box1
  · exact (far _ (by omega) (lt_of_heap h.box2)).trans h.box2
  · exact (far _ (by omega) (lt_of_heap h.box3)).trans h.box3
  · exact (far _ (by omega) (lt_of_heap h.box4)).trans h.box4
  · exact (far _ (by omega) (lt_of_heap h.box5)).trans h.box5

theorem TkN.at {s : Nat} (h : TkN w W b v n P lv x now s ow ad cp) (e : dueN x now P s = dueN x now P t) : TkN w W b v n P lv x now t ow ad cp := by
  obtain ⟨q1, q2⟩ := tkP_same x now P e
  exact ⟨h.head, by rw [← q1]; exact h.own, h.chg, by rw [← q2]; exact h.fts, h.box1, h.box2, h.box3, h.box4, h.box5⟩

theorem TkN.below (h : TkN w W b v n P lv x now t ow ad cp) (hb : b < w.heap.size) (B : Below W.heap.size W W') : TkN w W' b v n P lv x now t ow ad cp := by
  have hs := h.chg.size
  exact ⟨(B.block b (by omega)).trans h.head, ownsRow_keep h.own fun k hk => B.block k (World.ownsRow.lt h.own k hk).2, h.chg.trans (below_chg B) (fun _ q _ => q.elim), h.fts.below B,
    (B.block _ (lt_of_heap h.box1)).trans h.box1, (B.block _ (lt_of_heap h.box2)).trans h.box2, (B.block _ (lt_of_heap h.box3)).trans h.box3, (B.block _ (lt_of_heap h.box4)).trans h.box4, (B.block _ (lt_of_heap h.box5)).trans h.box5⟩

theorem TkN.drew (h : TkN w W b v n P lv x now t ow ad cp) : TkN w W.drew b v n P lv x now t ow ad cp :=
  ⟨h.head, ownsRow_keep h.own fun _ _ => rfl, h.chg.drew, h.fts.kept (T := fun _ => False) ((Chg.refl _ W).drew) (fun _ _ => id), h.box1, h.box2, h.box3, h.box4, h.box5⟩

theorem TkN.cells (hN : NS M S w b v n P lv x) (h : TkN w W b v n P lv x now t ow ad cp) : W.cell? ⟨b, 0, none⟩ = some (.int .i64 (x.tx : Int)) ∧ W.cell? ⟨b, 6, none⟩ = some (.int .i64 (x.wait : Int)) ∧ W.cell? ⟨b, 7, none⟩ = some (.int .i64 (x.most : Int)) ∧ W.cell? ⟨b, 8, none⟩ = some v := by
  have hd := h.head.trans hN.head
  exact ⟨by rw [cell_of_row W _ 0 _ _ _ hd]; rfl, by rw [cell_of_row W _ 6 _ _ _ hd]; rfl, by rw [cell_of_row W _ 7 _ _ _ hd]; rfl, by rw [cell_of_row W _ 8 _ _ _ hd]; rfl⟩

theorem TkN.boxes (h : TkN w W b v n P lv x now t ow ad cp) : W.cell? ⟨w.heap.size, 0, none⟩ = some (.pointer (some ⟨b, 0, none⟩)) ∧ W.cell? ⟨w.heap.size + 1, 0, none⟩ = some (.int .i64 now) ∧ W.cell? ⟨w.heap.size + 2, 0, none⟩ = some ow ∧ W.cell? ⟨w.heap.size + 3, 0, none⟩ = some (.pointer (some ⟨b, 0, none⟩)) ∧ W.cell? ⟨w.heap.size + 4, 0, none⟩ = some (.int .i64 now) ∧ W.frozen? ⟨w.heap.size + 2, 0, none⟩ = false :=
  ⟨by rw [cell_of_row W _ 0 _ _ _ h.box1]; rfl, by rw [cell_of_row W _ 0 _ _ _ h.box2]; rfl, by rw [cell_of_row W _ 0 _ _ _ h.box3]; rfl, by rw [cell_of_row W _ 0 _ _ _ h.box4]; rfl, by rw [cell_of_row W _ 0 _ _ _ h.box5]; rfl, frozen_of_row W _ 0 _ _ h.box3⟩

theorem TkN.flight {g c : Nat} (h : TkN w W b (.slice (some ⟨g, 0, none⟩) n c) n P lv x now t ow ad cp) (ht : t < n) : W.cell? ⟨g, t * 6, none⟩ = some (.int .i64 ((P t).group : Int)) ∧ W.cell? ⟨g, t * 6 + 1, none⟩ = some (.int .i64 ((P t).sent : Int)) ∧ W.cell? ⟨g, t * 6 + 2, none⟩ = some (.int .i64 (P t).last) ∧ W.cell? ⟨g, t * 6 + 3, none⟩ = some (lv t) ∧ W.cell? ⟨g, t * 6 + 4, none⟩ = some (.bool (P t).there) ∧ W.cell? ⟨g, t * 6 + 5, none⟩ = some (.bool (P t).gone) := by
  have e : tkP x now P t t = P t := if_neg (Nat.lt_irrefl _)
  have q : ∀ j, j < 6 → W.cell? ⟨g, t * 6 + j, none⟩ = (fcell (tkP x now P t) lv t)[j]? := fun j hj => by
    rw [h.own.cellAt (t * 6 + j) (by omega)]
    exact fcells_at _ lv ht hj
  unfold fcell at q
  rw [e] at q
  exact ⟨q 0 (by omega), q 1 (by omega), q 2 (by omega), q 3 (by omega), q 4 (by omega), q 5 (by omega)⟩

theorem TkN.rows (hN : NS M S w b v n P lv x) (h : TkN w W b v n P lv x now t ow ad cp) {i : Nat} (hi : i < n) : RowsIn S (headD b v) W (lv i) (P i).rows :=
  (hN.rows i hi).kept h.chg (fun _ _ hd q => hd (.inr q))

theorem tkP_next (hd : dueF x now (P t) = true) : tkP x now P (t + 1) = fun k => if k = t then tickF x now (P t) else tkP x now P t k := by
  funext k
  unfold tkP
  by_cases e : k = t
  · subst e
    rw [if_pos (Nat.lt_succ_self _), if_pos rfl]
  · rw [if_neg e]
    by_cases e2 : k < t
    · rw [if_pos e2, if_pos (by omega)]
    · rw [if_neg e2, if_neg (by omega)]

/-- A flight is behind the tick: its frames stand behind all, it was sent once more. WA: where the flight was written last; the frames' list was grown ahead of it. -/
theorem TkN.next {g c : Nat} (hN : NS M S w b (.slice (some ⟨g, 0, none⟩) n c) n P lv x) (h : TkN w W b (.slice (some ⟨g, 0, none⟩) n c) n P lv x now t ow ad cp) (hd : dueF x now (P t) = true)
    {W1 w7 wf : World} {g7 c7 : Nat} {ad2 : Nat → Option Addr} {cp2 : Nat → Nat} (B1 : Chg (fun k => k = g) W W1)
    (hown : w7.ownsRow 0 55 6 (.slice (some ⟨g7, 0, none⟩) ((tickT x now P t).length + (frmsOf x (P t)).length) c7) ((tickT x now P t).length + (frmsOf x (P t)).length) (frcells (tickT x now P t) ad cp (tickT x now P t).length ++ frcells (frmsOf x (P t)) ad2 cp2 (frmsOf x (P t)).length))
    (hgrow : W1.grownBy w7 ow.ownBlock) (hat : ow.ownBlock = some g7 ∨ g7 = W1.heap.size) (hdat : DatsAt W.heap.size W1 (frmsOf x (P t)) ad2 cp2)
    (hwf : Chg (fun k => k = g ∨ k = w.heap.size + 2) w7 wf) (hbx : wf.heap[w.heap.size + 2]? = some (.cells #[.slice (some ⟨g7, 0, none⟩) ((tickT x now P t).length + (frmsOf x (P t)).length) c7] 81 (0, 0)))
    (hfl : wf.ownsRow 0 129 6 (.slice (some ⟨g, 0, none⟩) n c) n (fcells (tkP x now P (t + 1)) lv n)) :
    ∃ ow' ad' cp', TkN w wf b (.slice (some ⟨g, 0, none⟩) n c) n P lv x now (t + 1) ow' ad' cp' := by
  have hgS := hN.inV g rfl
  have hgl := hN.lt g hgS.1
  have hbl := hN.lt b hN.inB
  have hsW := h.chg.size
  have hs1 := B1.size
  have hs7 := hgrow.size
  have hW5 : w.heap.size + 5 ≤ W.heap.size := lt_of_heap h.box5
  have hoa : ∀ k, ow.ownBlock = some k → w.heap.size + 5 ≤ k := h.fts.ap
  have G7 : w.heap.size + 5 ≤ g7 := by
    rcases hat with q | q
    · exact hoa _ q
    · omega
  -- the frames
  have hFW1 : FtsN (w.heap.size + 5) W1 ow (tickT x now P t) ad cp := h.fts.kept B1 (fun k hk q => by omega)
  have hd1 : DatsAt W.heap.size W1 (frmsOf x (P t)) ad2 cp2 := hdat
  have hF7 := FtsN.appS hFW1 (Nat.le_trans hs1 (Nat.le_refl _)) hW5 (fun k hk => (World.ownsRow.lt h.fts.own k hk).2) hown hgrow hat hd1
  have hFf := hF7.kept hwf (fun k hk q => by omega)
  have e1 : tickT x now P (t + 1) = tickT x now P t ++ frmsOf x (P t) := by rw [tickT_succ, if_pos hd]
  have old : ∀ k, k < w.heap.size + 5 → k ≠ g → k ≠ w.heap.size + 2 → k < W.heap.size → wf.heap[k]? = W.heap[k]? := fun k hk h1 h2 hl =>
    (hwf.block k (by omega) (fun q => by omega)).trans ((hgrow.block k (by omega) (fun e => by have := hoa k e.symm; omega)).trans (B1.block k hl (fun q => h1 q)))
  refine ⟨_, _, _, (old b (by omega) (fun q => hgS.2 q.symm) (by omega) (by omega)).trans h.head, hfl, ?_, by rw [e1]; exact hFf, ?_, ?_, hbx, ?_, ?_⟩
  · have C1 : Chg (fun k => (Value.slice (some ⟨g, 0, none⟩) n c).ownBlock = some k) w W1 := h.chg.trans B1 (fun k q _ => by rw [q]; rfl)
    have C7 : Chg (fun k => (Value.slice (some ⟨g, 0, none⟩) n c).ownBlock = some k) w w7 := C1.grown hgrow (fun k e hk => by have := hoa k e; omega)
    exact C7.trans hwf (fun k q hk => by
      rcases q with q | q
      · rw [q]; rfl
      · omega)
  · exact (old _ (by omega) (by omega) (by omega) (by omega)).trans h.box1
  · exact (old _ (by omega) (by omega) (by omega) (by omega)).trans h.box2
  · exact (old _ (by omega) (by omega) (by omega) (by omega)).trans h.box4
  · exact (old _ (by omega) (by omega) (by omega) (by omega)).trans h.box5

end Go.Proofs.YthhggjakenalpaaGreatDoor

/- Package sender: due: the iterator of the flights that are due. -/
namespace Go.Proofs.YthhggjakenalpaaGreatDoor
set_option maxRecDepth 100000
open Go.RowKit Go.Shelf
open Bt
attribute [local go_sem] Oper.semAt_some

variable {M : Nat} {S : Nat → Prop} {w W W' : World} {b n t : Nat} {v ow : Value} {P : Nat → Flt} {lv : Nat → Value} {x : Snd} {now : Int} {ad : Nat → Option Addr} {cp : Nat → Nat}

/-- Between two rounds. -/
def TkI (w : World) (b : Nat) (v : Value) (n : Nat) (P : Nat → Flt) (lv : Nat → Value) (x : Snd) (now : Int) (c : Nat) (W : World) : Prop :=
  ∃ t ow ad cp, dueN x now P t = c ∧ TkN w W b v n P lv x now t ow ad cp

theorem dueF_B (x : Snd) (now : Int) (f : Flt) : dueF x now f = dueB f.there f.sent f.last now x.wait := rfl

theorem due_any (b : Nat) (now : Int) (w : World) : Calls Tryz.prog 87 #[.pointer (some ⟨b, 0, none⟩), .int .i64 now] w fun e w' =>
    e = .returned (.func (.func 126) #[] #[.pointer (some ⟨w.heap.size, 0, none⟩), .pointer (some ⟨w.heap.size + 1, 0, none⟩)]) ∧ w' = (w.alloc (.cells #[.pointer (some ⟨b, 0, none⟩)] 74)).alloc (.cells #[.int .i64 now] 3) := by
  go_enter Tryz.func87, Tryz.ntmps87
  go_wp2
  go_ret
  exact ⟨by simp, rfl⟩

set_option maxRecDepth 100000 in
set_option maxHeartbeats 4000000 in
theorem due1_told (m : Nat) (hm : 2 ≤ m) (hM : M ≤ 1000000) (hN : NS M S w b v n P lv x) (hn : -(2 ^ 40) ≤ now ∧ now ≤ 2 ^ 40) (g : Nat) (hg : 0 < n → ∃ c, v = .slice (some ⟨g, 0, none⟩) n c)
    (l : Nat) (J : Nat → World → Prop) (W : World) (hJI : ∀ c W, J c W → TkI w b v n P lv x now c W) (hJd : ∀ c W k, J c W → J c (W.drewN k))
    (hY : ∀ c W1, c < dueN x now P n → J c W1 → YieldAt Fence.wide (m - 1) Tryz.prog l #[.pointer (some ⟨g, dueAt x now P n c * 6, none⟩)] W1 fun e W' => e = .returned (.bool true) ∧ J (c + 1) W') (h0 : J 0 W) :
    CallsIn Fence.wide m Tryz.prog 126 (#[.func (.yield l) #[] #[]] ++ #[.pointer (some ⟨w.heap.size + 3, 0, none⟩), .pointer (some ⟨w.heap.size + 4, 0, none⟩)]) W fun e W' => (∃ u, e = .returned u) ∧ J (dueN x now P n) W' := by
  have hmo : Tryz.prog.follows .mixedOrders = true := by kernel_rfl
  have hwf : Fence.wide.fn 127 := trivial
  obtain ⟨vo, vc, hvf, hvg⟩ := hN.form
  have hn4 := hN.ok.few
  rw [hN.len] at hn4
  refine callsIn_of_wp Tryz.func126 rfl trivial ?_ rfl
  simp only [Tryz.ntmps126, List.size_toArray, List.length_cons, List.length_nil, Nat.reduceAdd, Nat.reduceSub, Array.replicate_succ, Array.replicate_zero, List.push_toArray, List.append_toArray, List.nil_append, List.cons_append]
  obtain ⟨t0, ow0, ad0, cp0, _, hT0⟩ := hJI 0 W h0
  have e3 := hT0.boxes.2.2.2.1
  have e8 := (hT0.cells hN).2.2.2
  rw [hvf] at e8
  clear hT0
  gi_wp2
  clear e3 e8
  gi_loopw [11] (fun i wr => ∃ t : Nat, t ≤ n ∧ i = .int .i64 t ∧ J (dueN x now P t) wr) (fun i _ => n - (intOf i).toNat)
  case atStart => exact ⟨0, Nat.zero_le _, rfl, h0⟩
  case round =>
    obtain ⟨t, ht, rfl, hJ⟩ := hrel
    by_cases hlt : t < n
    · obtain ⟨c, hv⟩ := hg (by omega)
      subst hv
      obtain ⟨rfl, rfl⟩ : vo = some ⟨g, 0, none⟩ ∧ vc = c := by cases hvf; exact ⟨rfl, rfl⟩
      obtain ⟨s, ow, ad, cp, hs, hT⟩ := hJI _ wr hJ
      have hT' := hT.at hs
      have b4 := hT'.boxes.2.2.2.1
      have b5 := hT'.boxes.2.2.2.2.1
      have d6 := (hT'.cells hN).2.1
      have d8 := (hT'.cells hN).2.2.2
      obtain ⟨f0, f1, f2, f3, f4, f5⟩ := hT'.flight hlt
      have hmem := hN.mem hlt
      have hls := hN.ok.last _ hmem
      have hse := hN.ok.sent _ hmem
      have bd := hN.ok.bounds
      have k0 : (0 : Int) ≤ (t : Int) := by omega
      have k1 : (t : Int) < (n : Int) := by omega
      have ID := Hid.intro (fun (W : World) q1 q2 q4 => isDue_any g (t * 6) (P t).sent x.wait (P t).there (P t).last now hls (by omega) (by omega) (by omega) (by omega) W q1 q2 q4)
      rw [← dueF_B] at ID
      have hJd' : J _ wr.drew := hJd _ _ 1 hJ
      have hJN := fun k => hJd _ _ k hJ
      have hsu := dueN_succ x now P t
      clear hs hT hT'
      by_cases hd : dueF x now (P t) = true
      · rw [hd] at ID
        rw [if_pos hd] at hsu
        have hc : dueN x now P t < dueN x now P n := by have := dueN_mono x now P (s := t + 1) (t := n) (by omega); omega
        have yv := hY _ _ hc hJd'
        rw [dueAt_due x now P hlt hd] at yv
        obtain ⟨fn, tmps, assign, body, hy, hR⟩ := yv
        have HRR := Hid.intro hR
        clear hR
        have h1 : 1 ≤ m := by omega
        gi_wp2
        gi_region_with_o (first | (refine (callsIn_wide.2 (ID.out wr.drew f1 f2 f4)).mono ?_; rintro e w9 ⟨rfl, rfl⟩) | (refine HRR.out.mono ?_; rintro e W3 ⟨rfl, hJ3⟩) | fail)
        all_goals
          gi_wp2
          go_roundw
          case rel => exact ⟨t + 1, by omega, by go_num, by rw [hsu]; exact hJ3⟩
          case measure => simp [intOf]; omega
      · have hd' : dueF x now (P t) = false := by simpa using hd
        rw [hd'] at ID
        rw [if_neg hd] at hsu
        have h1 : 1 ≤ m := by omega
        gi_wp2
        refine wpIn_region_quiet_lit rfl (by assumption) (by kernel_rfl) ?_
        repeat (gi_big_quiet_step (fail))
        gi_big_quiet_want
        gi_big_quiet_op
        refine ⟨.bool false, fun k => callsIn_wide.2 ((ID.out (wr.drewN k) f1 f2 f4).mono (by rintro e w9 ⟨rfl, rfl⟩; exact ⟨rfl, k, rfl⟩)), ?_⟩
        go_big_quiet_on
        repeat (gi_big_quiet_step (fail))
        refine BigFrame.wpQuietIn_skip (fun _ _ _ _ => trivial) (by rfl) ?_
        simp only [Act.put, List.setIfInBounds_toArray, List.set_cons_zero, List.set_cons_succ]
        repeat (gi_big_quiet_step (fail))
        refine wpQuietIn_nil ?_
        intro _ hw'
        obtain ⟨nq, hw''⟩ := hw'
        subst hw''
        all_goals
          gi_wp2
          go_roundw
          case rel => exact ⟨t + 1, by omega, by go_num, by rw [hsu]; exact hJN _⟩
          case measure => simp [intOf]; omega
    · obtain rfl : t = n := by omega
      have k1 : ¬ (t : Int) < (t : Int) := by omega
      gi_wp2
      go_end0
      exact ⟨⟨_, rfl⟩, hJ⟩

end Go.Proofs.YthhggjakenalpaaGreatDoor

/- Package sender: a tick's round: what it leaves. -/
namespace Go.Proofs.YthhggjakenalpaaGreatDoor
set_option maxRecDepth 100000
open Go.RowKit Go.Shelf
open Bt

theorem belowKF {B : Nat} {W W' : World} (h : Below W.heap.size W W') : KeepsFrom B W W' := ⟨h.size, fun k _ _ hk _ => (h.block k (lt_of_heap hk)).trans hk⟩

variable {M : Nat} {S : Nat → Prop} {w W W' : World} {b n t : Nat} {v ow : Value} {P : Nat → Flt} {lv : Nat → Value} {x : Snd} {now : Int} {ad : Nat → Option Addr} {cp : Nat → Nat}

theorem TkI.own (hN : NS M S w b v n P lv x) : OwnFrom (w.heap.size + 5) (TkI w b v n P lv x now) := by
  intro c W W' row h hg hr
  obtain ⟨t, ow, ad, cp, e, hT⟩ := h
  exact ⟨t, ow, ad, cp, e, hT.grown (hN.lt b hN.inB) (fun k hk => hN.lt k (hN.inV k hk).1) hg hr⟩

/-- The round's last steps, from where the frames' list has grown. -/
structure TkF (w W wb : World) (b g c n : Nat) (P : Nat → Flt) (lv : Nat → Value) (x : Snd) (now : Int) (t : Nat) (ow nv : Value) : Prop where
  c3 : wb.cell? ⟨w.heap.size + 2, 0, none⟩ = some ow
  z3 : wb.frozen? ⟨w.heap.size + 2, 0, none⟩ = false
  c1 : (wb.setCell ⟨w.heap.size + 2, 0, none⟩ nv).cell? ⟨g, t * 6 + 1, none⟩ = some (.int .i64 ((P t).sent : Int))
  z1 : (wb.setCell ⟨w.heap.size + 2, 0, none⟩ nv).frozen? ⟨g, t * 6 + 1, none⟩ = false
  cn : ((wb.setCell ⟨w.heap.size + 2, 0, none⟩ nv).setCell ⟨g, t * 6 + 1, none⟩ (.int .i64 ((P t).sent + 1 : Int))).cell? ⟨w.heap.size + 1, 0, none⟩ = some (.int .i64 now)
  c2 : ((wb.setCell ⟨w.heap.size + 2, 0, none⟩ nv).setCell ⟨g, t * 6 + 1, none⟩ (.int .i64 ((P t).sent + 1 : Int))).cell? ⟨g, t * 6 + 2, none⟩ = some (.int .i64 (P t).last)
  z2 : ((wb.setCell ⟨w.heap.size + 2, 0, none⟩ nv).setCell ⟨g, t * 6 + 1, none⟩ (.int .i64 ((P t).sent + 1 : Int))).frozen? ⟨g, t * 6 + 2, none⟩ = false
  fin : TkI w b (.slice (some ⟨g, 0, none⟩) n c) n P lv x now (dueN x now P (t + 1)) (((wb.setCell ⟨w.heap.size + 2, 0, none⟩ nv).setCell ⟨g, t * 6 + 1, none⟩ (.int .i64 ((P t).sent + 1 : Int))).setCell ⟨g, t * 6 + 2, none⟩ (.int .i64 now))
  keep : KeepsFrom (w.heap.size + 5) W (((wb.setCell ⟨w.heap.size + 2, 0, none⟩ nv).setCell ⟨g, t * 6 + 1, none⟩ (.int .i64 ((P t).sent + 1 : Int))).setCell ⟨g, t * 6 + 2, none⟩ (.int .i64 now))

theorem TkN.fin {g c : Nat} (hN : NS M S w b (.slice (some ⟨g, 0, none⟩) n c) n P lv x) (h : TkN w W b (.slice (some ⟨g, 0, none⟩) n c) n P lv x now t ow ad cp) (ht : t < n) (hd : dueF x now (P t) = true)
    {W1 wb : World} {g7 c7 : Nat} {ad2 : Nat → Option Addr} {cp2 : Nat → Nat} {l0 : List Value} (B1 : Chg (fun k => k = g) W W1)
    (hl1 : W1.ownsRow 0 129 6 (.slice (some ⟨g, 0, none⟩) n c) n l0) (e1 : l0[t * 6 + 1]? = some (.int .i64 ((P t).sent : Int))) (e2 : l0[t * 6 + 2]? = some (.int .i64 (P t).last))
    (e3 : ((l0.set (t * 6 + 1) (.int .i64 ((P t).sent + 1 : Int))).set (t * 6 + 2) (.int .i64 now)) = fcells (tkP x now P (t + 1)) lv n)
    (hown : wb.ownsRow 0 55 6 (.slice (some ⟨g7, 0, none⟩) ((tickT x now P t).length + (frmsOf x (P t)).length) c7) ((tickT x now P t).length + (frmsOf x (P t)).length) (frcells (tickT x now P t) ad cp (tickT x now P t).length ++ frcells (frmsOf x (P t)) ad2 cp2 (frmsOf x (P t)).length))
    (hgrow : W1.grownBy wb ow.ownBlock) (hat : ow.ownBlock = some g7 ∨ g7 = W1.heap.size) (hdat : DatsAt W.heap.size W1 (frmsOf x (P t)) ad2 cp2) :
    TkF w W wb b g c n P lv x now t ow (.slice (some ⟨g7, 0, none⟩) ((tickT x now P t).length + (frmsOf x (P t)).length) c7) := by
  have hgS := hN.inV g rfl
  have hgl := hN.lt g hgS.1
  have hs1 := B1.size
  have hsb := hgrow.size
  have hW5 : w.heap.size + 5 ≤ W.heap.size := lt_of_heap h.box5
  have hoa : ∀ k, ow.ownBlock = some k → w.heap.size + 5 ≤ k := h.fts.ap
  have hm1 : t * 6 + 1 < n * 6 := by omega
  -- boxes
  have bx3 : wb.heap[w.heap.size + 2]? = some (.cells #[ow] 81 (0, 0)) := (hgrow.block _ (by omega) (fun e => by have := hoa _ e.symm; omega)).trans ((B1.block _ (by omega) (fun q => by omega)).trans h.box3)
  have bx2 : wb.heap[w.heap.size + 1]? = some (.cells #[.int .i64 now] 3 (0, 0)) := (hgrow.block _ (by omega) (fun e => by have := hoa _ e.symm; omega)).trans ((B1.block _ (by omega) (fun q => by omega)).trans h.box2)
  have hlb : wb.ownsRow 0 129 6 (.slice (some ⟨g, 0, none⟩) n c) n l0 := ownsRow_keep hl1 fun k hk => hgrow.block k (World.ownsRow.lt hl1 k hk).2 (fun e => by
    have e' : g = k := by simpa [Value.ownBlock] using hk
    have := hoa k e.symm
    omega)
  have C3 : Chg (fun k => k = w.heap.size + 2) wb (wb.setCell ⟨w.heap.size + 2, 0, none⟩ (.slice (some ⟨g7, 0, none⟩) ((tickT x now P t).length + (frmsOf x (P t)).length) c7)) := Chg.setCell (S := fun k => k = w.heap.size + 2) (Chg.refl _ wb) (fun _ => rfl) _
  have hb3 := heap_setCell_same wb (w.heap.size + 2) 0 _ _ (.slice (some ⟨g7, 0, none⟩) ((tickT x now P t).length + (frmsOf x (P t)).length) c7) bx3
  have hlc : (wb.setCell ⟨w.heap.size + 2, 0, none⟩ (.slice (some ⟨g7, 0, none⟩) ((tickT x now P t).length + (frmsOf x (P t)).length) c7)).ownsRow 0 129 6 (.slice (some ⟨g, 0, none⟩) n c) n l0 := ownsRow_keep hlb fun k hk => C3.block k (World.ownsRow.lt hlb k hk).2 (fun e => by
    have e' : g = k := by simpa [Value.ownBlock] using hk
    omega)
  have bx2c := (C3.block (w.heap.size + 1) (lt_of_heap bx2) (fun q => by omega)).trans bx2
  generalize hnv : (Value.slice (some ⟨g7, 0, none⟩) ((tickT x now P t).length + (frmsOf x (P t)).length) c7) = nv at *
  have hld := (hlc.stored (t * 6 + 1) (.int .i64 ((P t).sent + 1 : Int))).1
  have C1 : Chg (fun k => k = g) (wb.setCell ⟨w.heap.size + 2, 0, none⟩ nv) ((wb.setCell ⟨w.heap.size + 2, 0, none⟩ nv).setCell ⟨g, t * 6 + 1, none⟩ (.int .i64 ((P t).sent + 1 : Int))) := Chg.setCell (S := fun k => k = g) (Chg.refl _ _) (fun _ => rfl) _
  have hle := (hld.stored (t * 6 + 2) (.int .i64 now)).1
  have C2 : Chg (fun k => k = g) ((wb.setCell ⟨w.heap.size + 2, 0, none⟩ nv).setCell ⟨g, t * 6 + 1, none⟩ (.int .i64 ((P t).sent + 1 : Int))) (((wb.setCell ⟨w.heap.size + 2, 0, none⟩ nv).setCell ⟨g, t * 6 + 1, none⟩ (.int .i64 ((P t).sent + 1 : Int))).setCell ⟨g, t * 6 + 2, none⟩ (.int .i64 now)) := Chg.setCell (S := fun k => k = g) (Chg.refl _ _) (fun _ => rfl) _
  have CF : Chg (fun k => k = g ∨ k = w.heap.size + 2) wb (((wb.setCell ⟨w.heap.size + 2, 0, none⟩ nv).setCell ⟨g, t * 6 + 1, none⟩ (.int .i64 ((P t).sent + 1 : Int))).setCell ⟨g, t * 6 + 2, none⟩ (.int .i64 now)) :=
    ((C3.mono (fun _ q _ => .inr q)).trans C1 (fun _ q _ => .inl q)).trans C2 (fun _ q _ => .inl q)
  have hbd := (C1.block (w.heap.size + 2) (lt_of_heap hb3) (fun q => by omega)).trans hb3
  have hbe := (C2.block (w.heap.size + 2) (lt_of_heap hbd) (fun q => by omega)).trans hbd
  have bx2d := (C1.block (w.heap.size + 1) (lt_of_heap bx2c) (fun q => by omega)).trans bx2c
  rw [e3] at hle
  have e4 : (l0.set (t * 6 + 1) (.int .i64 ((P t).sent + 1 : Int)))[t * 6 + 2]? = some (.int .i64 (P t).last) := by rw [List.getElem?_set_ne (by omega)]; exact e2
  have e0 : dueN x now P (t + 1) = dueN x now P (t + 1) := rfl
  subst hnv
  obtain ⟨ow', ad', cp', hT⟩ := h.next hN hd B1 hown hgrow hat hdat CF hbe hle
  refine ⟨by rw [cell_of_row _ _ 0 _ _ _ bx3]; rfl, frozen_of_row _ _ 0 _ _ bx3, by rw [hlc.cellAt _ hm1]; exact e1, hlc.frozenAt _, by rw [cell_of_row _ _ 0 _ _ _ bx2d]; rfl, by rw [hld.cellAt _ (by omega)]; exact e4, hld.frozenAt _, ⟨t + 1, ow', ad', cp', e0, hT⟩, ?_⟩
  have K1 : KeepsFrom (w.heap.size + 5) W W1 := ⟨B1.size, fun k o hk ho _ => (B1.block k (lt_of_heap ho) (fun q => by omega)).trans ho⟩
  have K2 : KeepsFrom (w.heap.size + 5) W1 wb := ⟨hgrow.size, fun k o _ ho hc => by
    refine (hgrow.block k (lt_of_heap ho) (fun e => ?_)).trans ho
    have hf1 : FtsN (w.heap.size + 5) W1 ow (tickT x now P t) ad cp := h.fts.kept B1 (fun k hk q => by omega)
    obtain ⟨o', ho', hc'⟩ := cells_of_own hf1.own e.symm
    rw [ho] at ho'
    cases ho'
    rw [hc] at hc'
    cases hc'⟩
  have K3 : KeepsFrom (w.heap.size + 5) wb _ := ⟨CF.size, fun k o hk ho _ => (CF.block k (lt_of_heap ho) (fun q => by omega)).trans ho⟩
  exact (K1.trans K2).trans K3

theorem frms_sfk {f : Flt} (hs : f.sent < x.most) (hr : f.rows.length = x.N) : frmsOf x f = sfk x.tx f.group f.rows f.rows.length := by
  unfold frmsOf sfk
  rw [if_neg (by omega), hr]
  apply List.map_congr_left
  intro r hr2
  rw [if_pos (List.mem_range.1 hr2)]
  congr 1

theorem frms_skip {f : Flt} (hs : ¬ f.sent < x.most) : frmsOf x f = [⟨x.tx, 16 * f.group, 0, 0, 2, []⟩] := by
  unfold frmsOf
  rw [if_pos (by omega)]

theorem tkP_self : tkP x now P t t = P t := if_neg (Nat.lt_irrefl _)

theorem own_newsR {W : World} {g n c : Nat} {xs : List Value} (h : W.ownsRow 0 55 6 (.slice (some ⟨g, 0, none⟩) n c) n xs) : ∀ j u, xs[j]? = some u → W.cell? ((⟨g, 0, none⟩ : Addr).add j) = some u := by
  intro j u hu
  have hadd : (⟨g, 0, none⟩ : Addr).add j = ⟨g, j, none⟩ := by unfold Addr.add; split <;> simp_all
  have hl : xs.length = n * 6 := h.1
  have hj : j < n * 6 := by rw [← hl]; exact (List.getElem?_eq_some_iff.1 hu).1
  rw [hadd, h.cellAt j hj]
  exact hu

/-- A round of a flight whose shards go out. -/
theorem TkN.shards {g c : Nat} (hN : NS M S w b (.slice (some ⟨g, 0, none⟩) n c) n P lv x) (h : TkN w W b (.slice (some ⟨g, 0, none⟩) n c) n P lv x now t ow ad cp) (ht : t < n) (hd : dueF x now (P t) = true) (hs : (P t).sent < x.most)
    {w1 : World} {fb : Nat} (hfb : W.heap.size ≤ fb) (hSh : ShD W w1 fb x.tx (P t).group (P t).rows) (hfew : (tickT x now P t).length ≤ 100) (ty : TypeId) :
    ∃ gz cz wb, (Builtin.append_ #[81, 81] ty #[ow, .slice (some ⟨fb, 0, none⟩) (P t).rows.length (P t).rows.length]).run Tryz.prog w1 = .ok (.slice (some ⟨gz, 0, none⟩) ((tickT x now P t).length + (P t).rows.length) cz) wb ∧
      TkF w W wb b g c n P lv x now t ow (.slice (some ⟨gz, 0, none⟩) ((tickT x now P t).length + (P t).rows.length) cz) := by
  obtain ⟨ad2, cp2, hA⟩ := hSh
  have hok := hN.ofOk ht
  have bd := hN.ok.bounds
  have hrl := hok.rows
  have efr := frms_sfk (x := x) hs hrl
  have hl2 : (frmsOf x (P t)).length = (P t).rows.length := by rw [efr, sfk_length]
  have hb := hN.lt b hN.inB
  have h1 := h.below hb (show Below W.heap.size W w1 from hA.bel)
  have hbx5 : w.heap.size + 5 ≤ W.heap.size := lt_of_heap h.box5
  obtain ⟨iF, hiF, hzF0, hzF1, hzF2⟩ := info_parts info_frm
  obtain ⟨gz, cz, wb, hrun, hown, hgrow, hat, _⟩ := run_append_lies (P := Tryz.prog) w1 81 ty 0 55 iF (.agg ZC) 6 64 Tryz.underlying81 hiF hzF0 hzF1 hzF2 (by rfl) (by decide) ow (tickT x now P t).length _ h1.fts.own
    ⟨fb, 0, none⟩ (P t).rows.length (P t).rows.length (frcells (sfk x.tx (P t).group (P t).rows (P t).rows.length) ad2 cp2 (P t).rows.length) (frcells_length _ _ _ _) (own_newsR hA.own) (frcells_one _ _ _ _) (by omega) (by unfold maxLen; omega) (by omega) (Nat.zero_le _) _ rfl
  refine ⟨gz, cz, wb, hrun, ?_⟩
  have hgone : (tickF x now (P t)).gone = (P t).gone := by
    unfold tickF
    rw [if_pos hd]
    show ((P t).gone || decide (x.most ≤ (P t).sent)) = _
    rw [decide_eq_false (by omega), Bool.or_false]
  have ts := tickF_parts x now (P t)
  have tse : (tickF x now (P t)).sent = (P t).sent + 1 ∧ (tickF x now (P t)).last = now := by unfold tickF; rw [if_pos hd]; exact ⟨rfl, rfl⟩
  have hset := fcells_set2 (tkP x now P t) lv (n := n) (i := t) (tickF x now (P t)) ht (by rw [tkP_self]; exact ts.1) (by rw [tkP_self]; exact ts.2.2.1) (by rw [tkP_self]; exact hgone)
  rw [tse.1, tse.2, ← tkP_next hd] at hset
  have ec : fcell (tkP x now P t) lv t = fcell P lv t := by unfold fcell; rw [tkP_self]
  have f1 := fcells_at (tkP x now P t) lv ht (j := 1) (by omega)
  have f2 := fcells_at (tkP x now P t) lv ht (j := 2) (by omega)
  rw [ec] at f1 f2
  rw [show (((P t).sent + 1 : Nat) : Int) = ((P t).sent : Int) + 1 by omega] at hset
  have key := h.fin hN ht hd (W1 := w1) (wb := wb) (g7 := gz) (c7 := cz) (ad2 := ad2) (cp2 := cp2) (l0 := fcells (tkP x now P t) lv n) ((below_chg hA.bel).mono (fun _ q _ => q.elim)) h1.own f1 f2 hset
    (by rw [hl2, efr]; exact hown) hgrow hat (by
      rw [efr]
      intro i hi
      have := hA.dat i hi
      exact ⟨this.1, this.2.1, fun q a ha => by have := this.2.2 q a ha; omega⟩)
  rw [hl2] at key
  exact key

/-- A round of a flight that is given up. -/
theorem TkN.skips {g c : Nat} (hN : NS M S w b (.slice (some ⟨g, 0, none⟩) n c) n P lv x) (h : TkN w W b (.slice (some ⟨g, 0, none⟩) n c) n P lv x now t ow ad cp) (ht : t < n) (hd : dueF x now (P t) = true) (hs : ¬ (P t).sent < x.most)
    {w1 : World} (B1 : Below (W.setCell ⟨g, t * 6 + 5, none⟩ (.bool true)).heap.size (W.setCell ⟨g, t * 6 + 5, none⟩ (.bool true)) w1) (hfew : (tickT x now P t).length ≤ 100) (ty : TypeId) :
    ∃ gz cz wb, (Builtin.append_ #[81, 81] ty #[ow, .slice (some ⟨w1.heap.size, 0, none⟩) 1 1]).run Tryz.prog (w1.alloc (.cells #[.int .i64 (x.tx : Int), .int .i64 ((16 * (P t).group : Nat) : Int), .int .i64 0, .int .i64 0, .int .i64 2, .slice none 0 0] 55)) = .ok (.slice (some ⟨gz, 0, none⟩) ((tickT x now P t).length + 1) cz) wb ∧
      TkF w W wb b g c n P lv x now t ow (.slice (some ⟨gz, 0, none⟩) ((tickT x now P t).length + 1) cz) := by
  have hb := hN.lt b hN.inB
  have hgS := hN.inV g rfl
  have hgl := hN.lt g hgS.1
  have hbx5 : w.heap.size + 5 ≤ W.heap.size := lt_of_heap h.box5
  have CX : Chg (fun k => k = g) W (W.setCell ⟨g, t * 6 + 5, none⟩ (.bool true)) := Chg.setCell (S := fun k => k = g) (Chg.refl _ W) (fun _ => rfl) _
  have BA : Below w1.heap.size w1 (w1.alloc (.cells #[.int .i64 (x.tx : Int), .int .i64 ((16 * (P t).group : Nat) : Int), .int .i64 0, .int .i64 0, .int .i64 2, .slice none 0 0] 55)) := (Below.refl _ w1).alloc (Nat.le_refl _) _
  have C1 : Chg (fun k => k = g) W (w1.alloc (.cells #[.int .i64 (x.tx : Int), .int .i64 ((16 * (P t).group : Nat) : Int), .int .i64 0, .int .i64 0, .int .i64 2, .slice none 0 0] 55)) := (CX.trans (below_chg B1) (fun _ q _ => q.elim)).trans (below_chg BA) (fun _ q _ => q.elim)
  have hf1 : FtsN (w.heap.size + 5) (w1.alloc (.cells #[.int .i64 (x.tx : Int), .int .i64 ((16 * (P t).group : Nat) : Int), .int .i64 0, .int .i64 0, .int .i64 2, .slice none 0 0] 55)) ow (tickT x now P t) ad cp := h.fts.kept C1 (fun k hk q => by omega)
  have hgr := heap_alloc_new w1 (.cells #[.int .i64 (x.tx : Int), .int .i64 ((16 * (P t).group : Nat) : Int), .int .i64 0, .int .i64 0, .int .i64 2, .slice none 0 0] 55)
  have o5 := (h.own.stored (t * 6 + 5) (.bool true)).1
  have o6 := ownsRow_keep o5 fun k hk => B1.block k (World.ownsRow.lt o5 k hk).2
  have o7 := ownsRow_keep o6 fun k hk => BA.block k (World.ownsRow.lt o6 k hk).2
  generalize w1.alloc (.cells #[.int .i64 (x.tx : Int), .int .i64 ((16 * (P t).group : Nat) : Int), .int .i64 0, .int .i64 0, .int .i64 2, .slice none 0 0] 55) = w2 at BA C1 hf1 hgr o7 ⊢
  have efr := frms_skip (x := x) hs
  have hl2 : (frmsOf x (P t)).length = 1 := by rw [efr]; rfl
  have hnews : frcells (frmsOf x (P t)) (fun _ => none) (fun _ => 0) 1 = [.int .i64 (x.tx : Int), .int .i64 ((16 * (P t).group : Nat) : Int), .int .i64 0, .int .i64 0, .int .i64 2, .slice none 0 0] := by
    rw [efr]
    simp [frcells, frcell]
  obtain ⟨iF, hiF, hzF0, hzF1, hzF2⟩ := info_parts info_frm
  obtain ⟨gz, cz, wb, hrun, hown, hgrow, hat, _⟩ := run_append_lies (P := Tryz.prog) w2 81 ty 0 55 iF (.agg ZC) 6 64 Tryz.underlying81 hiF hzF0 hzF1 hzF2 (by rfl) (by decide) ow (tickT x now P t).length _ hf1.own
    ⟨w1.heap.size, 0, none⟩ 1 1 (frcells (frmsOf x (P t)) (fun _ => none) (fun _ => 0) 1) (frcells_length _ _ _ _) (by rw [hnews]; exact World.news_of_block (cs := #[.int .i64 (x.tx : Int), .int .i64 ((16 * (P t).group : Nat) : Int), .int .i64 0, .int .i64 0, .int .i64 2, .slice none 0 0]) hgr) (frcells_one _ _ _ _) (by omega) (by unfold maxLen; omega) (by omega) (Nat.zero_le _) _ rfl
  refine ⟨gz, cz, wb, hrun, ?_⟩
  have hgone : (tickF x now (P t)).gone = true := by
    unfold tickF
    rw [if_pos hd]
    show ((P t).gone || decide (x.most ≤ (P t).sent)) = _
    rw [decide_eq_true (by omega), Bool.or_true]
  have ts := tickF_parts x now (P t)
  have tse : (tickF x now (P t)).sent = (P t).sent + 1 ∧ (tickF x now (P t)).last = now := by unfold tickF; rw [if_pos hd]; exact ⟨rfl, rfl⟩
  have hset := fcells_set3 (tkP x now P t) lv (n := n) (i := t) (tickF x now (P t)) ht (by rw [tkP_self]; exact ts.1) (by rw [tkP_self]; exact ts.2.2.1)
  rw [tse.1, tse.2, hgone, ← tkP_next hd] at hset
  have ec : fcell (tkP x now P t) lv t = fcell P lv t := by unfold fcell; rw [tkP_self]
  have f1 := fcells_at (tkP x now P t) lv ht (j := 1) (by omega)
  have f2 := fcells_at (tkP x now P t) lv ht (j := 2) (by omega)
  rw [ec] at f1 f2
  rw [show (((P t).sent + 1 : Nat) : Int) = ((P t).sent : Int) + 1 by omega] at hset
  have key := h.fin hN ht hd (W1 := w2) (wb := wb) (g7 := gz) (c7 := cz) (ad2 := fun _ => none) (cp2 := fun _ => 0) (l0 := (fcells (tkP x now P t) lv n).set (t * 6 + 5) (.bool true)) C1 o7 (by rw [List.getElem?_set_ne (by omega)]; exact f1) (by rw [List.getElem?_set_ne (by omega)]; exact f2) hset
    (by rw [hl2]; exact hown) hgrow hat (by
      rw [efr]
      intro i hi
      obtain rfl : i = 0 := by simp at hi; omega
      exact ⟨reads_empty, ⟨fun _ => rfl, Nat.le_refl _⟩, fun q => by simp at q⟩)
  rw [hl2] at key
  exact key

/-- An append at a step of a region that draws, inside a fence: by its run. -/
theorem stepIn_append {F : Fence} {m : Nat} {Pg : Program} {ops : Array Oper} {o : Oper} {a : Act} {w : World} {K : Act → World → Prop} {Q : Exit → Act → World → Prop} {E : Prop} (hgd : o.guard = none) (s y : Operand) (T : TypeId)
    (ho : o.op = .call { callee := .builtin .append, args := #[s, y], argTypes := #[T, T] }) (u z r : Value) (w' : World) (hs : a.eval s = u) (hy : a.eval y = z)
    (hrun : (Builtin.append_ #[T, T] o.type #[u, z]).run Pg w = .ok r w') (h : K (a.put o.dst r) w') : if Region.wanted o (yielded ops a.tmps) = true then Oper.wpIn F m Pg o a w K Q else E := by
  have hw : Region.wanted o (yielded ops a.tmps) = true := by simp [Region.wanted, hgd]
  rw [if_pos hw]
  unfold Oper.wpIn
  refine ⟨by simp [Oper.about, ho, resolve, Target.leads, Sem.run_pure], ?_⟩
  rw [Oper.semAt_plain F _ _ (by rw [ho]; intro c hc'; cases hc')]
  simp [execOp, ho, resolve, invoke, builtin, hs, hy, hrun, Result.andThen]
  exact h

end Go.Proofs.YthhggjakenalpaaGreatDoor
