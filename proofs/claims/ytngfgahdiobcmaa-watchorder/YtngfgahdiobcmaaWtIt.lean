/- Package watch: the iterator that hands on beds, pointers into the row. -/
import Derived.RangeFuncNested
import Derived.RangeFuncBound
import Derived.RangeFuncCalls
import Derived.RangeFuncLeaves
import Derived.RangeFuncFrom
import Derived.Shelf.Abstract
import Derived.Shelf.RegionOpen
import Derived.WalkKit
import Derived.OwnWalkIn
import Derived.TacticsInMore
import Derived.LoopNIn
import Derived.LoopIn
import Derived.Test.YtngfgahdiobcmaaWtK1
namespace Go.Proofs.Ytngfgahdiobcmaa
open Go.RowKit Go.Shelf
open Bt
attribute [local go_sem] Oper.semAt_some

/-- Places one behind the other, from the first one on. -/
def RowU {n : Nat} (pre : List (Fin n)) : Prop := ∀ j, (h : j < pre.length) → (pre[j]).val = j

theorem RowU.nil {n : Nat} : RowU ([] : List (Fin n)) := fun j h => absurd h (by simp)

theorem RowU.snoc {n : Nat} {pre : List (Fin n)} (h : RowU pre) (x : Fin n) (hx : x.val = pre.length) : RowU (pre ++ [x]) := by
  intro j hj
  by_cases e : j < pre.length
  · rw [List.getElem_append_left e]; exact h j e
  · have : j = pre.length := by simp at hj; omega
    subst this
    simp; omega

theorem RowU.mem {n : Nat} {pre : List (Fin n)} (h : RowU pre) (y : Fin n) (hy : y.val < pre.length) : y ∈ pre := by
  have e := h y.val hy
  have : pre[y.val] = y := Fin.ext e
  exact this ▸ List.getElem_mem hy

theorem RowU.last {n : Nat} {pre : List (Fin n)} {x : Fin n} (h : RowU (pre ++ [x])) : x.val = pre.length := by
  have := h pre.length (by simp)
  simpa using this

theorem RowU.init {n : Nat} {pre : List (Fin n)} {x : Fin n} (h : RowU (pre ++ [x])) : RowU pre := fun j hj => by
  have := h j (by simp; omega)
  rwa [List.getElem_append_left hj] at this

/-- What a round that goes on keeps. -/
def KpS (D : Nat → Prop) (W W' : World) : Prop := ∀ k, D k → W'.heap[k]? = W.heap[k]?

theorem KpS.t {D : Nat → Prop} {A B C : World} (h : KpS D A B) (k : KpS D B C) : KpS D A C := fun i hi => (k i hi).trans (h i hi)

theorem KpS.b {D : Nat → Prop} {w : World} (hD : ∀ k, D k → k < w.heap.size) (W : World) (l : Nat) (o o' : Obj) (hl : w.heap.size ≤ l) (_ : W.heap[l]? = some o) (_ : o.isCells = false) (_ : o.isWalk = false) : KpS D W (W.putObj l o') :=
  fun k hk => World.putObj_heap_other (by have := hD k hk; omega)

theorem wall_any (rv : Option Addr) (w : World) : Calls Try.prog 29 #[.pointer rv] w fun e w' =>
    e = .returned (.func (.func 33) #[] #[.pointer (some ⟨w.heap.size, 0, none⟩)]) ∧ w' = w.alloc (.cells #[.pointer rv] 25) := by
  go_enter Try.func29, Try.ntmps29
  go_wp2
  go_ret
  exact ⟨by simp, rfl⟩

/-- A pointer to the bed at a place. -/
abbrev encP (g : Nat) {n : Nat} (x : Fin n) : Array Value := #[.pointer (some ⟨g, x.val * 4, none⟩)]

set_option maxRecDepth 100000 in
set_option maxHeartbeats 2000000 in
theorem all_stops (n : Nat) (hn : 2 ≤ n) (b bx g : Nat) (ao : Option Addr) (c m : Nat) (hl : m ≤ 100) (w : World) (D : Nat → Prop) (hD : ∀ k, D k → k < w.heap.size) (d0 : D bx) (d1 : D b)
    (cx : w.cell? ⟨bx, 0, none⟩ = some (.pointer (some ⟨b, 0, none⟩))) (cb : w.cell? ⟨b, 0, none⟩ = some (.slice ao m c)) (cz : 0 < m → ao = some ⟨g, 0, none⟩) :
    SeqStopsK Fence.wide n Try.prog 33 #[.pointer (some ⟨bx, 0, none⟩)] (encP g) (KpS D) (fun xs : List (Fin m) => xs.length = m ∧ RowU xs) (fun pre => RowU pre) m w := fun l J Jx W hW _ _ hY h0 => by
  have KW : KpS D w W := fun k hk => hW.block k (hD k hk)
  have CX : Hid (∀ V, KpS D w V → V.cell? ⟨bx, 0, none⟩ = some (.pointer (some ⟨b, 0, none⟩))) := fun V hV => (World.cell?_of_block (hV bx d0)).trans cx
  have CB : Hid (∀ V, KpS D w V → V.cell? ⟨b, 0, none⟩ = some (.slice ao m c)) := fun V hV => (World.cell?_of_block (hV b d1)).trans cb
  have CZ := Hid.intro cz
  have x0 := CX.out W KW
  have x1 := CB.out W KW
  clear cx cb cz d0 d1
  refine callsIn_of_wp Try.func33 rfl trivial ?_ rfl
  simp only [Try.ntmps33, List.size_toArray, List.length_cons, List.length_nil, Nat.reduceAdd, Nat.reduceSub, Array.replicate_succ, Array.replicate_zero, List.push_toArray, List.append_toArray, List.nil_append, List.cons_append]
  gi_wp2
  clear x0 x1
  gi_loopw [11] (fun i wr => ∃ (k : Nat) (pre : List (Fin m)), k ≤ m ∧ i = .int .i64 (k : Int) ∧ pre.length = k ∧ RowU pre ∧ KpS D w wr ∧ J pre wr) (fun i _ => m - (intOf i).toNat)
  case atStart => exact ⟨0, [], by omega, rfl, rfl, RowU.nil, KW, h0⟩
  case round =>
    obtain ⟨k, pre, hk, rfl, hlen, hrow, hKp, hJ⟩ := hrel
    by_cases hlt : k < m
    · obtain ⟨fn, tmps, assign, body, hy, hR⟩ := hY pre ⟨k, hlt⟩ wr hJ (by omega)
      have HROW := Hid.intro (hrow.snoc ⟨k, hlt⟩ (by show k = pre.length; omega))
      obtain rfl := CZ.out (by omega)
      have y0 := CX.out wr hKp
      have y1 := CB.out wr hKp
      dsimp only [encP] at hy
      have HK := Hid.intro hKp
      have e1 : (k : Int) < (m : Int) := by omega
      have e2 : (0 : Int) ≤ (k : Int) := by omega
      clear hKp hrow
      have h1 : 1 ≤ n := by omega
      gi_wp2
      refine hR.mono ?_
      clear hR hy
      rintro e W3 (⟨rfl, hJ3, hk3⟩ | ⟨rfl, hJx3⟩)
      · gi_wp2
        go_roundw
        case rel => exact ⟨k + 1, _, by omega, by go_num, by simp [hlen], HROW.out, HK.out.t hk3, hJ3⟩
        case measure => simp [intOf]; omega
      · gi_wp2
        refine bodyPost_ret (results_none rfl _ _ _) rfl ?_
        exact ⟨⟨_, rfl⟩, .inr ⟨_, HROW.out, hJx3⟩⟩
    · have hke : k = m := by omega
      subst hke
      have e1 : ¬ (k : Int) < (k : Int) := by omega
      gi_wp2
      go_end0
      exact ⟨⟨_, rfl⟩, .inl ⟨pre, ⟨hlen, hrow⟩, hJ⟩⟩

set_option maxRecDepth 100000 in
set_option maxHeartbeats 2000000 in
theorem all_stops_nil (n : Nat) (bx g : Nat) (w : World) (D : Nat → Prop) (hb : bx < w.heap.size) (cx : w.cell? ⟨bx, 0, none⟩ = some (.pointer none)) :
    SeqStopsK Fence.wide n Try.prog 33 #[.pointer (some ⟨bx, 0, none⟩)] (encP g) (KpS D) (fun xs : List (Fin 0) => xs.length = 0 ∧ RowU xs) (fun pre => RowU pre) 0 w := fun l J Jx W hW _ _ hY h0 => by
  have x0 : W.cell? ⟨bx, 0, none⟩ = some (.pointer none) := (World.cell?_of_block (hW.block bx hb)).trans cx
  refine callsIn_of_wp Try.func33 rfl trivial ?_ rfl
  simp only [Try.ntmps33, List.size_toArray, List.length_cons, List.length_nil, Nat.reduceAdd, Nat.reduceSub, Array.replicate_succ, Array.replicate_zero, List.push_toArray, List.append_toArray, List.nil_append, List.cons_append]
  gi_wp2
  refine bodyPost_ret (results_none rfl _ _ _) rfl ?_
  exact ⟨⟨_, rfl⟩, .inl ⟨[], ⟨rfl, RowU.nil⟩, h0⟩⟩

end Go.Proofs.Ytngfgahdiobcmaa
