/- Package shed: the iterator that hands on beds from the last one. -/
import Derived.RangeFuncNested
import Derived.RangeFuncBound
import Derived.RangeFuncCalls
import Derived.RangeFuncLeaves
import Derived.RangeFuncFrom
import Derived.Shelf.Abstract
import Derived.Shelf.RegionOpen
import Derived.WalkKit
import Derived.OwnWalkIn
import Derived.TacticsInMore
import Derived.LoopNIn
import Derived.LoopIn
import Derived.Test.YthfmgdhhjnngaaaShK1
namespace Go.Proofs.Ythfmgdhhjnngaaa
open Go.RowKit Go.Shelf
open Bt
attribute [local go_sem] Oper.semAt_some

/-- Places one behind the other, from the last one on. -/
def RowD {n : Nat} (pre : List (Fin n)) : Prop := ∀ j, (h : j < pre.length) → (pre[j]).val + j + 1 = n

theorem RowD.nil {n : Nat} : RowD ([] : List (Fin n)) := fun j h => absurd h (by simp)
theorem RowD.snoc {n : Nat} {pre : List (Fin n)} (h : RowD pre) (x : Fin n) (hx : x.val + pre.length + 1 = n) : RowD (pre ++ [x]) := by
  intro j hj
  by_cases e : j < pre.length
  · rw [List.getElem_append_left e]; exact h j e
  · have : j = pre.length := by simp at hj; omega
    subst this
    simp; omega

theorem RowD.mem {n : Nat} {pre : List (Fin n)} (h : RowD pre) (y : Fin n) (hy : n ≤ y.val + pre.length) : y ∈ pre := by
  have hj : n - 1 - y.val < pre.length := by have := y.isLt; omega
  have e := h (n - 1 - y.val) hj
  have : pre[n - 1 - y.val] = y := Fin.ext (by have := y.isLt; omega)
  exact this ▸ List.getElem_mem hj

theorem RowD.last {n : Nat} {pre : List (Fin n)} {x : Fin n} (h : RowD (pre ++ [x])) : x.val + pre.length + 1 = n := by
  have := h pre.length (by simp)
  simpa using this

theorem RowD.init {n : Nat} {pre : List (Fin n)} {x : Fin n} (h : RowD (pre ++ [x])) : RowD pre := fun j hj => by
  have := h j (by simp; omega)
  rwa [List.getElem_append_left hj] at this

/-- What a round that goes on keeps. -/
def KpS (D : Nat → Prop) (W W' : World) : Prop := ∀ k, D k → W'.heap[k]? = W.heap[k]?

theorem KpS.t {D : Nat → Prop} {A B C : World} (h : KpS D A B) (k : KpS D B C) : KpS D A C := fun i hi => (k i hi).trans (h i hi)

theorem KpS.b {D : Nat → Prop} {w : World} (hD : ∀ k, D k → k < w.heap.size) (W : World) (l : Nat) (o o' : Obj) (hl : w.heap.size ≤ l) (_ : W.heap[l]? = some o) (_ : o.isCells = false) (_ : o.isWalk = false) : KpS D W (W.putObj l o') :=
  fun k hk => World.putObj_heap_other (by have := hD k hk; omega)

theorem hfromLast_any (b : Nat) (w : World) : Calls Try.prog 37 #[.pointer (some ⟨b, 0, none⟩)] w fun e w' =>
    e = .returned (.func (.func 40) #[] #[.pointer (some ⟨w.heap.size, 0, none⟩)]) ∧ w' = w.alloc (.cells #[.pointer (some ⟨b, 0, none⟩)] 24) := by
  go_enter Try.func37, Try.ntmps37
  go_wp2
  go_ret
  exact ⟨by simp, rfl⟩

abbrev encZ {n : Nat} (zs : List (Nat × Sd)) (hn : n = zs.length) (x : Fin n) : Array Value := #[Pv (zs[x.val]'(hn ▸ x.isLt)).1]

set_option maxRecDepth 100000 in
set_option maxHeartbeats 2000000 in
theorem fromLast_stops (n : Nat) (hn : 2 ≤ n) (b bx : Nat) (ao : Option Addr) (c m : Nat) (zs : List (Nat × Sd)) (hm : m = zs.length) (hl : m ≤ 100) (w : World) (D : Nat → Prop) (hD : ∀ k, D k → k < w.heap.size) (d0 : D bx) (d1 : D b) (d2 : ∀ ad, ao = some ad → D ad.block)
    (cx : w.cell? ⟨bx, 0, none⟩ = some (.pointer (some ⟨b, 0, none⟩))) (cb : w.cell? ⟨b, 2, none⟩ = some (.slice ao m c)) (cz : 0 < m → ∃ g, ao = some ⟨g, 0, none⟩ ∧ ∀ i, (hi : i < zs.length) → w.cell? ⟨g, i, none⟩ = some (Pv zs[i].1)) :
    SeqStopsK Fence.wide n Try.prog 40 #[.pointer (some ⟨bx, 0, none⟩)] (encZ zs hm) (KpS D) (fun xs : List (Fin m) => xs.length = m ∧ RowD xs) (fun pre => RowD pre) m w := fun l J Jx W hW _ _ hY h0 => by
  have KW : KpS D w W := fun k hk => hW.block k (hD k hk)
  have CX : Hid (∀ V, KpS D w V → V.cell? ⟨bx, 0, none⟩ = some (.pointer (some ⟨b, 0, none⟩))) := fun V hV => (World.cell?_of_block (hV bx d0)).trans cx
  have CB : Hid (∀ V, KpS D w V → V.cell? ⟨b, 2, none⟩ = some (.slice ao m c)) := fun V hV => (World.cell?_of_block (hV b d1)).trans cb
  have CZ : Hid (0 < m → ∃ g, ao = some ⟨g, 0, none⟩ ∧ ∀ V, KpS D w V → ∀ i, (hi : i < zs.length) → V.cell? ⟨g, i, none⟩ = some (Pv zs[i].1)) := fun q => by
    obtain ⟨g, e, hc⟩ := cz q
    exact ⟨g, e, fun V hV i hi => (World.cell?_of_block (hV g (d2 _ e))).trans (hc i hi)⟩
  have x0 := CX.out W KW
  have x1 := CB.out W KW
  clear cx cb cz d0 d1 d2
  refine callsIn_of_wp Try.func40 rfl trivial ?_ rfl
  simp only [Try.ntmps40, List.size_toArray, List.length_cons, List.length_nil, Nat.reduceAdd, Nat.reduceSub, Array.replicate_succ, Array.replicate_zero, List.push_toArray, List.append_toArray, List.nil_append, List.cons_append]
  gi_wp2
  clear x0 x1
  gi_loopw [3] (fun i wr => ∃ (k : Nat) (pre : List (Fin m)), k ≤ m ∧ i = .int .i64 ((m : Int) - 1 - (k : Int)) ∧ pre.length = k ∧ RowD pre ∧ KpS D w wr ∧ J pre wr) (fun i _ => (intOf i + 1).toNat)
  case atStart => exact ⟨0, [], by omega, by congr 1; omega, rfl, RowD.nil, KW, h0⟩
  case round =>
    obtain ⟨k, pre, hk, rfl, hlen, hrow, hKp, hJ⟩ := hrel
    by_cases hlt : k < m
    · have hi : m - 1 - k < m := by omega
      obtain ⟨fn, tmps, assign, body, hy, hR⟩ := hY pre ⟨m - 1 - k, hi⟩ wr hJ (by omega)
      have HROW := Hid.intro (hrow.snoc ⟨m - 1 - k, hi⟩ (by show m - 1 - k + pre.length + 1 = m; omega))
      obtain ⟨g, rfl, hc⟩ := CZ.out (by omega)
      have y0 := CX.out wr hKp
      have y1 := CB.out wr hKp
      have y2 := hc wr hKp (m - 1 - k) (by omega)
      dsimp only [encZ] at hy
      have e0 : (m : Int) - 1 - (k : Int) = ((m - 1 - k : Nat) : Int) := by omega
      rw [e0]
      have HE := Hid.intro e0
      have HK := Hid.intro hKp
      have e1 : ((m - 1 - k : Nat) : Int) < (m : Int) := by omega
      have e2 : (0 : Int) ≤ ((m - 1 - k : Nat) : Int) := by omega
      have e3 : m - 1 - k ≤ 100 := by omega
      have HK1 : Hid ((m - 1 - k : Nat) + k + 1 = m) := by show (m - 1 - k : Nat) + k + 1 = m; omega
      clear e0 hKp hrow
      generalize (zs[m - 1 - k]'(hm ▸ hi)).1 = q at *
      generalize m - 1 - k = t at *
      have h1 : 1 ≤ n := by omega
      gi_wp2
      refine hR.mono ?_
      clear hR hy
      rintro e W3 (⟨rfl, hJ3, hk3⟩ | ⟨rfl, hJx3⟩)
      · gi_wp2
        go_roundw
        case rel => exact ⟨k + 1, _, by omega, by have := HK1.out; congr 1; omega, by simp [hlen], HROW.out, HK.out.t hk3, hJ3⟩
        case measure => simp [intOf]
      · gi_wp2
        refine bodyPost_ret (results_none rfl _ _ _) rfl ?_
        exact ⟨⟨_, rfl⟩, .inr ⟨_, HROW.out, hJx3⟩⟩
    · have hke : k = m := by omega
      subst hke
      have e0 : (k : Int) - 1 - (k : Int) = -1 := by omega
      rw [e0]
      gi_wp2
      go_end0
      exact ⟨⟨_, rfl⟩, .inl ⟨pre, ⟨hlen, hrow⟩, hJ⟩⟩

end Go.Proofs.Ythfmgdhhjnngaaa
