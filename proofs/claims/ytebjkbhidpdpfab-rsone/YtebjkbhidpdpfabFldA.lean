/- Package field: double, and the iterators: doublings hands on a byte times each power of 2 (a range over a function). -/
import Derived.RangeFuncNested
import Derived.RangeFuncBound
import Derived.RangeFuncCalls
import Derived.RangeFuncLeaves
import Derived.RangeFuncFrom
import Derived.Shelf.Abstract
import Derived.Shelf.RegionOpen
import Derived.WalkKit
import Derived.OwnWalkIn
import Derived.TacticsInMore
import Derived.LoopNIn
import Derived.LoopIn
import Derived.Test.YtebjkbhidpdpfabBase
import Derived.Test.YtebjkbhidpdpfabFieldPure
namespace Go.Proofs.Ytebjkbhidpdpfab
open Go.RowKit Go.Shelf
open Bt
attribute [local go_sem] Oper.semAt_some

theorem double_any (p : Nat) (hp : p < 256) (w : World) :
    Calls Try.prog 29 #[.int .u8 (p : Int)] w fun e w' => e = .returned (.int .u8 ((xt p : Nat) : Int)) ∧ w = w' := by
  by_cases h : p < 128
  · have hb : decide ((256 : Int) ≤ (p : Int) * 2) = false := by simp; omega
    have e : xt p = 2 * p := by unfold xt; rw [if_pos h]
    rw [e]
    go_enter Try.func29, Try.ntmps29
    go_wp2
    go_ret
    exact ⟨ret_int (by omega), rfl⟩
  · have hb : decide ((256 : Int) ≤ (p : Int) * 2) = true := by simp; omega
    have e : IntKind.u8.wrap (bits .xor .i64 ((p : Int) * 2) 285) = ((xt p : Nat) : Int) := by
      have := all_lt (p := fun p => decide (p < 128) || decide (IntKind.u8.wrap (bits .xor .i64 ((p : Int) * 2) 285) = ((xt p : Nat) : Int))) (n := 256) (by decide +kernel) p hp
      simp only [Bool.or_eq_true, decide_eq_true_eq] at this
      rcases this with h1 | h1
      · omega
      · exact h1
    generalize xt p = R at e ⊢
    have HE := Hid.intro e
    clear e
    go_enter Try.func29, Try.ntmps29
    go_wp2
    go_ret
    exact ⟨ret_int HE.out, rfl⟩

/-- Places one behind the other. -/
def Row {m : Nat} (pre : List (Fin m)) : Prop := ∀ j, (h : j < pre.length) → (pre[j]).val = j

theorem Row.nil {m : Nat} : Row ([] : List (Fin m)) := fun j h => absurd h (by simp)
theorem Row.snoc {m : Nat} {pre : List (Fin m)} (h : Row pre) (x : Fin m) (hx : x.val = pre.length) : Row (pre ++ [x]) := by
  intro j hj
  by_cases e : j < pre.length
  · rw [List.getElem_append_left e]; exact h j e
  · have : j = pre.length := by simp at hj; omega
    subst this
    simp [hx]

abbrev encD {m : Nat} (a : Nat) (x : Fin m) : Array Value := #[.int .i64 (x.val : Int), .int .u8 ((xtn x.val a : Nat) : Int)]

set_option maxRecDepth 100000 in
set_option maxHeartbeats 2000000 in
theorem doublings_stops (n : Nat) (hn : 2 ≤ n) (a m ba bm : Nat) (ha : a < 256) (hm : m ≤ 510) (w : World)
    (ca : w.cell? ⟨ba, 0, none⟩ = some (.int .u8 (a : Int))) (cm : w.cell? ⟨bm, 0, none⟩ = some (.int .i64 (m : Int))) :
    SeqStopsA Fence.wide n Try.prog 28 #[.pointer (some ⟨ba, 0, none⟩), .pointer (some ⟨bm, 0, none⟩)] (encD a) (fun xs : List (Fin m) => xs.length = m ∧ Row xs) (fun pre => Row pre) m w := fun l J Jx W hW _ _ hY h0 => by
  have ca' : W.cell? ⟨ba, 0, none⟩ = some (.int .u8 (a : Int)) := (hW.cell (p := ⟨ba, 0, none⟩) (World.block_lt_of_cell? w _ ca)).trans ca
  have cm' : W.cell? ⟨bm, 0, none⟩ = some (.int .i64 (m : Int)) := (hW.cell (p := ⟨bm, 0, none⟩) (World.block_lt_of_cell? w _ cm)).trans cm
  refine callsIn_of_wp Try.func28 rfl trivial ?_ rfl
  simp only [Try.ntmps28, List.size_toArray, List.length_cons, List.length_nil, Nat.reduceAdd, Nat.reduceSub, Array.replicate_succ, Array.replicate_zero, List.push_toArray, List.append_toArray, List.nil_append, List.cons_append]
  gi_wp2
  clear ca' cm'
  gi_loopw [4, 8] (fun p i wr => ∃ (k : Nat) (pre : List (Fin m)), k ≤ m ∧ i = .int .i64 k ∧ p = .int .u8 ((xtn k a : Nat) : Int) ∧ pre.length = k ∧ Row pre ∧ J pre wr) (fun _ i _ => m - (intOf i).toNat)
  case atStart => exact ⟨0, [], by omega, rfl, rfl, rfl, Row.nil, h0⟩
  case round =>
    obtain ⟨k, pre, hk, rfl, rfl, hlen, hrow, hJ⟩ := hrel
    by_cases hlt : k < m
    · obtain ⟨fn, tmps, assign, body, hy, hR⟩ := hY pre ⟨k, hlt⟩ wr hJ (by omega)
      have hrow' := hrow.snoc ⟨k, hlt⟩ hlen.symm
      have HROW := Hid.intro hrow'
      dsimp only [encD] at hy
      have hp := xtn_lt ha k
      have HD := Hid.intro (double_any (xtn k a) hp)
      have hs : xt (xtn k a) = xtn (k + 1) a := rfl
      rw [hs] at HD
      obtain ⟨P1, hP1⟩ : ∃ P1, P1 = xtn (k + 1) a := ⟨_, rfl⟩
      rw [← hP1] at HD
      have HP1 := Hid.intro hP1
      clear hs hP1 hrow'
      generalize xtn k a = P at hp hy HD ⊢
      have h1 : 1 ≤ n := by omega
      have hc : decide ((k : Int) < (m : Int)) = true := by simp; omega
      gi_wp2
      refine hR.mono ?_
      clear hR hy
      rintro e W3 (⟨rfl, hJ3, _⟩ | ⟨rfl, hJx3⟩)
      · gi_wp2_with (refine ⟨trivial, ?_⟩; gi_at_call 29; refine (callsIn_wide.2 (HD.out _)).mono ?_; rintro e w' ⟨rfl, rfl⟩)
        go_roundw
        case rel => exact ⟨k + 1, _, by omega, by go_num, by rw [HP1.out], by simp [hlen], HROW.out, hJ3⟩
        case measure => simp [intOf]; omega
      · gi_wp2
        refine bodyPost_ret (results_none rfl _ _ _) rfl ?_
        exact ⟨⟨_, rfl⟩, .inr ⟨_, HROW.out, hJx3⟩⟩
    · have hke : k = m := by omega
      subst hke
      gi_wp2
      go_end0
      exact ⟨⟨_, rfl⟩, .inl ⟨pre, ⟨hlen, hrow⟩, hJ⟩⟩

theorem doublings_any (a m : Int) (w : World) : Calls Try.prog 26 #[.int .u8 a, .int .i64 m] w fun e w' =>
    e = .returned (.func (.func 28) #[] #[.pointer (some ⟨w.heap.size, 0, none⟩), .pointer (some ⟨w.heap.size + 1, 0, none⟩)]) ∧ w' = (w.alloc (.cells #[.int .u8 a] 5)).alloc (.cells #[.int .i64 m] 3) := by
  go_enter Try.func26, Try.ntmps26
  go_wp2
  go_ret
  exact ⟨by simp, rfl⟩

theorem cellNew (w : World) (v : Value) (t : TypeId) : (w.alloc (.cells #[v] t)).cell? ⟨w.heap.size, 0, none⟩ = some v ∧ (w.alloc (.cells #[v] t)).frozen? ⟨w.heap.size, 0, none⟩ = false := by
  have h := heap_alloc_new w (.cells #[v] t)
  exact ⟨by rw [cell_of_row _ _ _ _ _ _ h]; rfl, frozen_of_row _ _ _ _ _ h⟩

theorem cellOld {w : World} {a : Addr} {v : Value} (o : Obj) (h : w.cell? a = some v) : (w.alloc o).cell? a = some v :=
  (World.cell?_alloc_lt _ _ _ (World.block_lt_of_cell? w a h)).trans h

end Go.Proofs.Ytebjkbhidpdpfab
