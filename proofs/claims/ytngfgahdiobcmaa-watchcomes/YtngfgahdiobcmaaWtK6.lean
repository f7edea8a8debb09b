/- Package watch: the iterator, whose rounds go by their number; Beds. -/
import Derived.Test.YtngfgahdiobcmaaWtK2
import Derived.Test.YtngfgahdiobcmaaRgTold
namespace Go.Proofs.Ytngfgahdiobcmaa
open Go.RowKit Go.Shelf
open Bt
attribute [local go_sem] Oper.semAt_some

set_option maxRecDepth 100000 in
set_option maxHeartbeats 2000000 in
theorem all1_told (m : Nat) (hm : 2 ≤ m) (b bx g N cp : Nat) (ao : Option Addr) (hN : N ≤ 100) (hg : 0 < N → ao = some ⟨g, 0, none⟩) (I : Nat → World → Prop)
    (hI : ∀ c W, I c W → W.cell? ⟨bx, 0, none⟩ = some (.pointer (some ⟨b, 0, none⟩)) ∧ W.cell? ⟨b, 0, none⟩ = some (.slice ao N cp))
    (l : Nat) (J : Nat → World → Prop) (W : World) (hJI : ∀ c W, J c W → I c W)
    (hY : ∀ c W1, c < N → J c W1 → YieldAt Fence.wide (m - 1) Try.prog l #[.pointer (some ⟨g, c * 4, none⟩)] W1 fun e W' => e = .returned (.bool true) ∧ J (c + 1) W') (h0 : J 0 W) :
    CallsIn Fence.wide m Try.prog 33 (#[.func (.yield l) #[] #[]] ++ #[.pointer (some ⟨bx, 0, none⟩)]) W fun e W' => (∃ u, e = .returned u) ∧ J N W' := by
  obtain ⟨x0, x1⟩ := hI 0 W (hJI 0 W h0)
  have HG := Hid.intro hg
  clear hg
  refine callsIn_of_wp Try.func33 rfl trivial ?_ rfl
  simp only [Try.ntmps33, List.size_toArray, List.length_cons, List.length_nil, Nat.reduceAdd, Nat.reduceSub, Array.replicate_succ, Array.replicate_zero, List.push_toArray, List.append_toArray, List.nil_append, List.cons_append]
  gi_wp2
  clear x0 x1
  gi_loopw [11] (fun i wr => ∃ t : Nat, t ≤ N ∧ i = .int .i64 t ∧ J t wr) (fun i _ => N - (intOf i).toNat)
  case atStart => exact ⟨0, Nat.zero_le _, rfl, h0⟩
  case round =>
    obtain ⟨t, ht, rfl, hJ⟩ := hrel
    by_cases hlt : t < N
    · obtain ⟨fn, tmps, assign, body, hy, hR⟩ := hY t wr hlt hJ
      obtain rfl := HG.out (by omega)
      obtain ⟨y0, y1⟩ := hI t wr (hJI t wr hJ)
      have e1 : (t : Int) < (N : Int) := by omega
      have e2 : (0 : Int) ≤ (t : Int) := by omega
      have h1 : 1 ≤ m := by omega
      gi_wp2
      refine hR.mono ?_
      clear hR hy
      rintro e W3 ⟨rfl, hJ3⟩
      gi_wp2
      go_roundw
      case rel => exact ⟨t + 1, by omega, by go_num, hJ3⟩
      case measure => simp [intOf]; omega
    · obtain rfl : t = N := by omega
      have e1 : ¬ (t : Int) < (t : Int) := by omega
      gi_wp2
      go_end0
      exact ⟨⟨_, rfl⟩, hJ⟩

set_option maxRecDepth 100000 in
set_option maxHeartbeats 2000000 in
theorem all1_told_nil (m bx : Nat) (I : Nat → World → Prop) (hI : ∀ c W, I c W → W.cell? ⟨bx, 0, none⟩ = some (.pointer none))
    (l : Nat) (J : Nat → World → Prop) (W : World) (hJI : ∀ c W, J c W → I c W) (h0 : J 0 W) :
    CallsIn Fence.wide m Try.prog 33 (#[.func (.yield l) #[] #[]] ++ #[.pointer (some ⟨bx, 0, none⟩)]) W fun e W' => (∃ u, e = .returned u) ∧ J 0 W' := by
  have x0 := hI 0 W (hJI 0 W h0)
  refine callsIn_of_wp Try.func33 rfl trivial ?_ rfl
  simp only [Try.ntmps33, List.size_toArray, List.length_cons, List.length_nil, Nat.reduceAdd, Nat.reduceSub, Array.replicate_succ, Array.replicate_zero, List.push_toArray, List.append_toArray, List.nil_append, List.cons_append]
  gi_wp2
  refine bodyPost_ret (results_none rfl _ _ _) rfl ?_
  exact ⟨⟨_, rfl⟩, h0⟩

variable {S T : Nat → Prop} {w W W' : World} {v ow : Value} {L L' : List Wb} {l : List Int} {row : Option Nat} {rv : Option Addr}

theorem cells_ownW {W : World} {e : TypeId} {s n : Nat} {v : Value} {xs : List Value} (h : W.ownsRow 0 e s v n xs) {k : Nat} (hk : v.ownBlock = some k) : ∃ o : Obj, W.heap[k]? = some o ∧ o.isCells = true := by
  rcases h.2 with ⟨rfl, _⟩ | ⟨g, cap, cur, rfl, _, hg, _⟩
  · cases hk
  · have e : g = k := by simpa [Value.ownBlock] using hk
    exact ⟨_, e ▸ hg, rfl⟩

/-- A round is over: the list of numbers that is being made, in its box; the box of the watch's pointer; the row as it is now. -/
structure RdN (T : Nat → Prop) (w W : World) (rv : Option Addr) (v : Value) (L' : List Wb) (l : List Int) (ow : Value) : Prop where
  chg : Chg T w W
  own : W.ownsRow 0 58 4 v L'.length (wcells15 L')
  box : W.heap[w.heap.size]? = some (.cells #[ow] 30 (0, 0))
  ptr : W.heap[w.heap.size + 1]? = some (.cells #[.pointer rv] 25 (0, 0))
  nums : W.ownsRow 0 3 1 ow l.length (l.map Iv15)
  ge : ∀ k, ow.ownBlock = some k → w.heap.size + 2 ≤ k

theorem RdN.grown (hv : ∀ k, v.ownBlock = some k → k < w.heap.size) (h : RdN T w W rv v L' l ow) (hg : W.grownBy W' row) (hr : ∀ r, row = some r → w.heap.size + 2 ≤ r ∧ ∃ o : Obj, W.heap[r]? = some o ∧ o.isCells = false) : RdN T w W' rv v L' l ow := by
  have hne : ∀ k, k < w.heap.size + 2 → k < W.heap.size → W'.heap[k]? = W.heap[k]? := fun k h1 h2 => hg.block k h2 (fun e => by have := (hr k e.symm).1; omega)
  refine ⟨h.chg.grown hg (fun k e hk => by have := (hr k e).1; omega), ownsRow_keep h.own fun k hk => hne k (by have := hv k hk; omega) (World.ownsRow.lt h.own k hk).2, (hne _ (by omega) (lt_of_heap h.box)).trans h.box, (hne _ (by omega) (lt_of_heap h.ptr)).trans h.ptr, ownsRow_keep h.nums fun k hk => hg.block k (World.ownsRow.lt h.nums k hk).2 (fun e => ?_), h.ge⟩
  obtain ⟨_, o, ho, hc⟩ := hr k e.symm
  obtain ⟨o', ho', hc'⟩ := cells_ownW h.nums hk
  rw [ho] at ho'
  cases ho'
  rw [hc] at hc'
  cases hc'

theorem RdN.cells (h : RdN T w W rv v L' l ow) : (W.cell? ⟨w.heap.size, 0, none⟩ = some ow ∧ W.frozen? ⟨w.heap.size, 0, none⟩ = false) ∧ W.cell? ⟨w.heap.size + 1, 0, none⟩ = some (.pointer rv) :=
  ⟨⟨by rw [cell_of_row W _ 0 _ _ _ h.box]; rfl, frozen_of_row W _ 0 _ _ h.box⟩, by rw [cell_of_row W _ 0 _ _ _ h.ptr]; rfl⟩

/-- A number is put behind. -/
theorem RdN.more (hv : ∀ k, v.ownBlock = some k → k < w.heap.size) (h : RdN T w W rv v L' l ow) (x : Int) (hl : l.length ≤ 100) (ty : TypeId) :
    ∃ v' wb, (Builtin.append_ #[30, 30] ty #[ow, .slice (some ⟨W.heap.size, 0, none⟩) 1 1]).run Try.prog (W.alloc (.cells #[.int .i64 x] 3)) = .ok v' wb ∧ (wb.cell? ⟨w.heap.size, 0, none⟩ = some ow ∧ wb.frozen? ⟨w.heap.size, 0, none⟩ = false) ∧ (∃ ao c, v' = .slice ao (l.length + 1) c) ∧
      RdN T w (wb.setCell ⟨w.heap.size, 0, none⟩ v') rv v L' (l ++ [x]) v' ∧ KeepsFrom (w.heap.size + 2) W (wb.setCell ⟨w.heap.size, 0, none⟩ v') := by
  have BA : Below W.heap.size W (W.alloc (.cells #[.int .i64 x] 3)) := (Below.refl _ W).alloc (Nat.le_refl _) _
  have gA : W.grownBy (W.alloc (.cells #[.int .i64 x] 3)) none := World.grownBy_alloc W _ none
  have h1 := h.grown hv gA (fun r e => by cases e)
  have hs2 : w.heap.size + 2 ≤ W.heap.size := lt_of_heap h.ptr
  have hsA : (W.alloc (.cells #[.int .i64 x] 3)).heap.size = W.heap.size + 1 := by simp
  obtain ⟨v', wb, hrun, hown, hgrow, hat⟩ := run_append_row (ty := ty) elem_int15 h1.nums (src_block (ys := [Iv15 x]) (c := 1) (m := 1) (heap_alloc_new W _) rfl) (fun z hz => by rw [List.mem_singleton.1 hz]; rfl) (by omega)
  have ne1 : ∀ k, k < w.heap.size + 2 → some k ≠ ow.ownBlock := fun k hk e => by have := h.ge k e.symm; omega
  have lt0 : w.heap.size < (W.alloc (.cells #[.int .i64 x] 3)).heap.size := by omega
  have bx : wb.heap[w.heap.size]? = some (.cells #[ow] 30 (0, 0)) := (hgrow.block _ lt0 (ne1 _ (by omega))).trans h1.box
  have px : wb.heap[w.heap.size + 1]? = some (.cells #[.pointer rv] 25 (0, 0)) := (hgrow.block _ (by omega) (ne1 _ (by omega))).trans h1.ptr
  have C : Chg (fun k => k = w.heap.size) wb (wb.setCell ⟨w.heap.size, 0, none⟩ v') := (Chg.refl _ wb).setCell (S := fun k => k = w.heap.size) (p := ⟨w.heap.size, 0, none⟩) (fun _ => rfl) _
  have gev : ∀ k, v'.ownBlock = some k → w.heap.size + 2 ≤ k := fun k hk => by
    rcases hat with q | q
    · exact h.ge k (by rw [← q]; exact hk)
    · rw [hk] at q
      have e : k = (W.alloc (.cells #[.int .i64 x] 3)).heap.size := by simpa using q
      omega
  obtain ⟨ao, c, hvf, _⟩ := ownsRow_form hown
  have c1 : Chg T w wb := h1.chg.grown hgrow (fun k e hk => by have := h.ge k e; omega)
  have o1 : wb.ownsRow 0 58 4 v L'.length (wcells15 L') := ownsRow_keep h1.own fun k hk => hgrow.block k (World.ownsRow.lt h1.own k hk).2 (ne1 k (by have := hv k hk; omega))
  refine ⟨v', wb, hrun, ⟨by rw [cell_of_row wb _ 0 _ _ _ bx]; rfl, frozen_of_row wb _ 0 _ _ bx⟩, ⟨ao, c, hvf⟩, ⟨c1.trans C (fun k e hk => by omega), ?_, by rw [heap_setCell_same wb _ 0 _ _ v' bx]; rfl, (C.block _ (lt_of_heap px) (by omega)).trans px, ?_, gev⟩, ?_⟩
  · exact ownsRow_keep o1 fun k hk => C.block k (World.ownsRow.lt o1 k hk).2 (fun q => by have := hv k hk; omega)
  · rw [List.length_append, List.map_append]
    exact ownsRow_keep hown fun k hk => C.block k (World.ownsRow.lt hown k hk).2 (fun q => by have := gev k hk; omega)
  · have s1 := BA.size
    have s2 := hgrow.size
    have s3 := C.size
    refine ⟨by omega, fun k o hk ho hc => ?_⟩
    have hk1 := lt_of_heap ho
    refine (C.block k (by omega) (by omega)).trans ((hgrow.block k (by omega) (fun e => ?_)).trans ((BA.block k hk1).trans ho))
    obtain ⟨o', ho', hc'⟩ := cells_ownW h.nums e.symm
    rw [ho] at ho'
    cases ho'
    rw [hc] at hc'
    cases hc'

/-- Ahead of the first round. -/
theorem rd_start (hown : w.ownsRow 0 58 4 v L.length (wcells15 L)) : RdN T w ((w.alloc (.cells #[.slice none 0 0] 30)).alloc (.cells #[.pointer rv] 25)) rv v L [] (.slice none 0 0) := by
  have B1 := (Below.refl _ w).alloc (Nat.le_refl _) (.cells #[.slice none 0 0] 30)
  have g1 := heap_alloc_new w (.cells #[.slice none 0 0] 30)
  have z1 := World.size_alloc w (.cells #[.slice none 0 0] 30)
  generalize w.alloc (.cells #[.slice none 0 0] 30) = w1 at B1 g1 z1 ⊢
  have B2 := (Below.refl _ w1).alloc (Nat.le_refl _) (.cells #[.pointer rv] 25)
  have g2 := heap_alloc_new w1 (.cells #[.pointer rv] 25)
  generalize w1.alloc (.cells #[.pointer rv] 25) = w2 at B2 g2 ⊢
  rw [z1] at g2
  have BB := B1.trans (B2.mono (by omega))
  exact ⟨(below_chg BB).mono (fun _ f _ => f.elim), ownsRow_keep hown fun k hk => BB.block k (World.ownsRow.lt hown k hk).2, (B2.block _ (lt_of_heap g1)).trans g1, g2, own_noneR _ _ _, fun k hk => by cases hk⟩

end Go.Proofs.Ytngfgahdiobcmaa
