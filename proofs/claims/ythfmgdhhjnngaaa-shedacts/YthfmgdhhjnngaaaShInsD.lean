/- slices.Insert: in the middle without room; all its roads. -/
import Derived.Test.YthfmgdhhjnngaaaShInsC
namespace Go.Proofs.Ythfmgdhhjnngaaa
open Go.RowKit Go.Lib Go.Shelf
open Bt

theorem grow_list {cs L : List Value} {p : Value} {i : Nat} (hi : i < cs.length) (hl : L.length = cs.length + 1) (ht : L.take i = cs.take i) :
    (L.take i ++ [p] ++ L.drop (i + [p].length)).take (i + 1) ++ cs.drop i ++ (L.take i ++ [p] ++ L.drop (i + [p].length)).drop (i + 1 + (cs.drop i).length) = cs.insertIdx i p := by
  have hm : (L.take i ++ [p]).length = i + 1 := by rw [List.length_append, List.length_take]; simp; omega
  have e1 : (L.take i ++ [p] ++ L.drop (i + [p].length)).take (i + 1) = L.take i ++ [p] := by
    rw [List.take_append_of_le_length (by omega), List.take_of_length_le (by omega)]
  have e2 : (L.take i ++ [p] ++ L.drop (i + [p].length)).drop (i + 1 + (cs.drop i).length) = [] := by
    apply List.drop_eq_nil_of_le
    rw [List.length_append, hm, List.length_drop, List.length_drop]
    simp; omega
  rw [e1, e2, List.append_nil, ht, ins_take cs p i (by omega)]
  simp

set_option maxRecDepth 100000 in
set_option maxHeartbeats 4000000 in
theorem hins_grow (b n c i vb : Nat) (cs : List Value) (p : Value) (w : World) (hi : i < n) (hnc : n ≤ c) (hroom : c < n + 1) (hbig : (n + 1) * 8 ≤ 140737488355328)
    (hcl : cs.length = n) (own : w.ownsRow 0 TE 1 (.slice (some ⟨b, 0, none⟩) n c) n cs) (hpb : w.heap[vb]? = some (.cells #[p] TE (0, 0))) (h1c : ∀ v ∈ cs, v.oneCell' = true) (hp : p.oneCell' = true) :
    Calls Try.prog 36 #[.slice (some ⟨b, 0, none⟩) n c, .int .i64 (i : Int), .slice (some ⟨vb, 0, none⟩) 1 1] w fun e w' =>
      e = .returned (.slice (some ⟨w.heap.size, 0, none⟩) (n + 1) (grownCap w (n + 1) c TE)) ∧
      w' = (((w.alloc (.cells ((cs.take i).toArray ++ Builtin.zeroCells (Value.pointer none).cells (n + 1 - i) ++ Builtin.zeroCells (Value.pointer none).cells (grownCap w (n + 1) c TE - (n + 1))) TE)).drew.setCells w.heap.size i [p]).drew).setCells w.heap.size (i + 1) (cs.drop i) := by
  have hcs : ∀ j v, cs[j]? = some v → w.cell? ⟨b, j, none⟩ = some v := fun j v hv => by
    have hj := (List.getElem?_eq_some_iff.1 hv).1
    rw [own.cellAt j (by omega)]; exact hv
  have hvs : ∀ j v, [p][j]? = some v → w.cell? ⟨vb, 0 + j, none⟩ = some v := fun j v hv => by
    match j, hv with
    | 0, hv =>
      simp at hv
      subst hv
      rw [cell_of_row w vb 0 _ _ _ hpb]; rfl
  have h1v : ∀ v ∈ [p], v.oneCell' = true := fun u hu => by simp at hu; subst hu; exact hp
  have mixed : Try.prog.follows Departure.mixedOrders = true := by kernel_rfl
  obtain ⟨i0, hi0, hz0, hzs, hzb⟩ := info_parts info_ptr
  have hz2 : ¬ ((i : Int) = (n : Int)) := by omega
  have hz3 : (c : Int) < (n : Int) + 1 := by omega
  have hbw : b < w.heap.size := World.block_lt_of_cell? w _ (hcs 0 _ (List.getElem?_eq_getElem (by omega)))
  have hvw : vb < w.heap.size := lt_of_heap hpb
  have hkk : (n : Int) + 1 - (i : Int) = ((n + 1 - i : Nat) : Int) := by omega
  have hik : i + (n + 1 - i) = n + 1 := by omega
  have hold : (Builtin.firstCells i0.size i (.slice (some ⟨b, 0, none⟩) i c)).run Try.prog w.drew = .ok (cs.take i).toArray w.drew := by
    rw [hzs]
    exact run_firstCells_some w.drew 1 i ⟨b, 0, none⟩ i c (cs.take i) (by rw [List.length_take]; omega) (fun j v hj => by
      rw [Addr.add_lit]
      rw [List.getElem?_take] at hj
      split at hj
      · rw [Nat.zero_add]; exact hcs j v hj
      · cases hj)
  have hrz : ∀ ty, (Builtin.append_ #[TP, 3] ty #[.slice (some ⟨b, 0, none⟩) i c, .int .i64 ((n : Int) + 1 - (i : Int))]).run Try.prog w =
      .ok (.slice (some ⟨w.heap.size, 0, none⟩) (n + 1) (grownCap w (n + 1) c TE)) (w.drew.alloc (.cells ((cs.take i).toArray ++ Builtin.zeroCells (Value.pointer none).cells (n + 1 - i) ++ Builtin.zeroCells (Value.pointer none).cells (grownCap w (n + 1) c TE - (n + 1))) TE)) := fun ty => by
    have h := Lib.run_append_grow_zeros w TP 3 ty TE i0 _ .i64 .i64 Try.underlying50 Try.underlying3 hi0 hz0 (some ⟨b, 0, none⟩) i c (cs.take i) hold (n + 1 - i) (by omega) (by omega) (by omega) (by omega) (by rw [hzb]; omega) (by rw [hzb, hik]; exact growslice_fits hroom hbig)
    rw [hik] at h
    rw [hkk]
    exact h
  obtain ⟨G, hG⟩ : ∃ G, G = grownCap w (n + 1) c TE := ⟨_, rfl⟩
  obtain ⟨ROW, hROW⟩ : ∃ ROW : Array Value, ROW = (cs.take i).toArray ++ Builtin.zeroCells (Value.pointer none).cells (n + 1 - i) ++ Builtin.zeroCells (Value.pointer none).cells (G - (n + 1)) := ⟨_, rfl⟩
  rw [← hG] at hrz ⊢
  rw [← hROW] at hrz ⊢
  have hRl : n + 1 ≤ ROW.size := by
    rw [hROW]
    simp [Builtin.zeroCells, Value.cells]
    omega
  obtain ⟨W1, hW1⟩ : ∃ W1, W1 = w.drew.alloc (.cells ROW TE) := ⟨_, rfl⟩
  rw [← hW1] at hrz
  have hN : ∀ j, j < n + 1 → (W1.cell? ⟨w.heap.size, j, none⟩).isSome = true := fun j hj => by
    rw [hW1, World.cell?_alloc_at (w := w.drew) ROW _ w.heap.size j rfl, Array.getElem?_eq_getElem (by omega)]; rfl
  have hNf : ∀ j, W1.frozen? ⟨w.heap.size, j, none⟩ = false := fun j => by rw [hW1]; exact World.frozen?_alloc_at (w := w.drew) ROW _ w.heap.size j rfl
  have hOb : ∀ j v, w.cell? ⟨b, j, none⟩ = some v → W1.cell? ⟨b, j, none⟩ = some v := fun j v h => by rw [hW1, World.cell?_alloc_past (w := w.drew) _ b j hbw]; exact h
  have hOv : ∀ j v, w.cell? ⟨vb, j, none⟩ = some v → W1.cell? ⟨vb, j, none⟩ = some v := fun j v h => by rw [hW1, World.cell?_alloc_past (w := w.drew) _ vb j hvw]; exact h
  have hcpA : ∀ (W : World), (∀ x, W.cell? x = W1.cell? x) → (∀ x, W.frozen? x = W1.frozen? x) → ∀ ty dc, (Builtin.copy_ #[TP, TP] ty #[.slice (some ⟨w.heap.size, i, none⟩) (n + 1 - i) dc, .slice (some ⟨vb, 0, none⟩) 1 1]).run Try.prog W = .ok (goInt [p].length) (W.setCells w.heap.size i [p]) := fun W hWc hWf ty dc =>
    run_copy_cells W _ _ ty TE w.heap.size i (n + 1 - i) dc ⟨vb, 0, none⟩ 1 1 [p] Try.underlying50 hsz_TE (by simp only [List.length_cons, List.length_nil, Nat.min_def]; split <;> omega)
      (fun j v hj => by rw [Addr.add_lit, hWc]; exact hOv _ v (hvs j v hj))
      (fun j hj => by rw [hWc]; simp at hj; exact hN _ (by omega)) (fun j hj => by rw [hWf]; exact hNf _) h1v
  have hGn : n + 1 ≤ G := by rw [hG]; exact grownCap_ge w _ _ _
  have hG63 : G ≤ 9223372036854775807 := by
    have := grownCap_le_maxLen w (n + 1) c TE (by unfold maxLen; omega)
    rw [← hG] at this
    unfold maxLen at this
    omega
  have hGi : ¬ (G = i) := by omega
  have hGim : ¬ (G = i + 1) := by omega
  have hci : ¬ (c = i) := by omega
  have hbN : b ≠ w.heap.size := by omega
  have hdl : (cs.drop i).length = n - i := by rw [List.length_drop, hcl]
  have hcpB : ∀ (W : World), (∀ x, W.cell? x = (W1.setCells w.heap.size i [p]).cell? x) → (∀ x, W.frozen? x = (W1.setCells w.heap.size i [p]).frozen? x) → ∀ ty dc sc, (Builtin.copy_ #[TP, TP] ty #[.slice (some ⟨w.heap.size, i + 1, none⟩) (n - i) dc, .slice (some ⟨b, i, none⟩) (n - i) sc]).run Try.prog W = .ok (goInt (cs.drop i).length) (W.setCells w.heap.size (i + 1) (cs.drop i)) := fun W hWc hWf ty dc sc =>
    run_copy_cells W _ _ ty TE w.heap.size (i + 1) (n - i) dc ⟨b, i, none⟩ (n - i) sc (cs.drop i) Try.underlying50 hsz_TE (by rw [hdl]; simp only [Nat.min_def]; split <;> omega)
      (fun j v hj => by
        rw [Addr.add_lit, hWc, World.cell?_setCells_out _ _ _ _ _ (fun h _ => absurd h hbN)]
        exact hOb _ v (hcs (i + j) v (by rwa [List.getElem?_drop] at hj)))
      (fun j hj => by rw [hWc]; exact isSome_setCells _ _ _ _ (fun t ht => by simp at ht; exact hN _ (by omega)) _ (hN _ (by omega)))
      (fun j hj => by rw [hWf, World.frozen?_setCells]; exact hNf _) (fun v hv => h1c v (List.mem_of_mem_drop hv))
  subst hW1
  have hE1 : ∀ x, ((w.alloc (.cells ROW TE)).drew).cell? x = (w.drew.alloc (.cells ROW TE)).cell? x := fun x => rfl
  have hE2 : ∀ x, ((w.alloc (.cells ROW TE)).drew).frozen? x = (w.drew.alloc (.cells ROW TE)).frozen? x := fun x => rfl
  have hF1 : ∀ x, (((w.alloc (.cells ROW TE)).drew.setCells w.heap.size i [p]).drew).cell? x = ((w.drew.alloc (.cells ROW TE)).setCells w.heap.size i [p]).cell? x := fun x => rfl
  have hF2 : ∀ x, (((w.alloc (.cells ROW TE)).drew.setCells w.heap.size i [p]).drew).frozen? x = ((w.drew.alloc (.cells ROW TE)).setCells w.heap.size i [p]).frozen? x := fun x => rfl
  have hw1 : IntKind.i64.wrap ((i : Int) + 1) = (i : Int) + 1 := by rw [IntKind.wrap_i64]; omega
  have hb1 : (0 : Int) ≤ (i : Int) + 1 := by omega
  have hin : i ≤ n := by omega
  have htn : ((i : Int) + 1).toNat = i + 1 := by omega
  have hb3 : (i : Int) ≤ (n : Int) := by omega
  clear hkk hik hold hROW hG hRl own hpb
  go_enter Try.func36, Try.ntmps36
  go_wp2_with (first
    | (at_builtin; refine Lib.wpList_append_run _ rfl _ _ _ _ rfl _ _ rfl rfl _ _ (hrz _) ?_)
    | (at_builtin; refine wpList_copy_runI _ rfl _ _ TP TP rfl _ _ rfl rfl (hcpA _ hE1 hE2 _ _) ?_)
    | (at_builtin; refine wpList_copy_runI _ rfl _ _ TP TP rfl _ _ rfl rfl (hcpB _ (fun _ => rfl) (fun _ => rfl) _ _ _) ?_))
  go_region_law_o (refine step_copy_runI rfl _ _ TP TP rfl (.slice (some ⟨w.heap.size, i + 1, none⟩) (n - i) (G - (i + 1))) (.slice (some ⟨b, i, none⟩) (n - i) (c - i)) (by simp [Act.eval, Act.put]) (by simp [Act.eval, Act.put]) (hcpB _ hF1 hF2 3 (G - (i + 1)) (c - i)) ?_)
  go_wp2
  go_ret
  exact ⟨rfl, rfl⟩

theorem hinsert_any (v : Value) (xs : List Value) (h1 : ∀ u ∈ xs, u.oneCell' = true) (hn : xs.length ≤ 100) (i : Nat) (hi : i ≤ xs.length) (p : Value) (hp : p.oneCell' = true) (vb : Nat) (w : World) (own : w.ownsRow 0 TE 1 v xs.length xs)
    (hvb : w.heap[vb]? = some (.cells #[p] TE (0, 0))) (hne : v.ownBlock ≠ some vb) :
    Calls Try.prog 36 #[v, .int .i64 (i : Int), .slice (some ⟨vb, 0, none⟩) 1 1] w fun e w' => ∃ v', e = .returned v' ∧ InsA w w' v v' xs i p := by
  by_cases e : i = xs.length
  · subst e
    exact hins_end v xs hn p hp vb w own hvb
  · have hlt : i < xs.length := by omega
    rcases own.2 with ⟨hv, h0⟩ | ⟨g, c, cur, rfl, _, hg, hc, hm, hs, ht⟩
    · omega
    · have c63 : c ≤ 9223372036854775807 := by unfold maxLen at hm; omega
      by_cases hr : xs.length + 1 ≤ c
      · refine (hins_shift g xs.length c i vb xs p w hlt hr c63 (fun q => hne (by rw [q]; rfl)) rfl own hvb h1 hp).mono ?_
        rintro e w' ⟨rfl, rfl⟩
        refine ⟨_, rfl, ?_, ?_, .inl rfl⟩
        · obtain ⟨u, hu⟩ := row_long own hr
          have hd : w.drew.ownsRow 0 TE 1 (.slice (some ⟨g, 0, none⟩) (xs.length + 1) c) (xs.length + 1) (xs ++ [u]) := hu
          have q := owns_setCellsP [p] i _ _ (owns_setCellsP (xs.drop i) (i + 1) _ _ hd (by rw [List.length_drop]; omega)) (by simp; omega)
          rw [shift_list hlt] at q
          exact q
        · have q : Chg (fun k => k = g) w w.drew := (Chg.refl _ w).drew
          exact ((q.trans (chg_setCellsP _ _ _) (fun _ q _ => q)).trans (chg_setCellsP _ _ _) (fun _ q _ => q)).mono (fun k hk _ => by rw [hk]; rfl)
      · refine (hins_grow g xs.length c i vb xs p w hlt hc (by omega) (by omega) rfl own hvb h1 hp).mono ?_
        rintro e w' ⟨rfl, rfl⟩
        refine ⟨_, rfl, ?_, ?_, .inr ⟨_, rfl, Nat.le_refl _⟩⟩
        · have hGn : xs.length + 1 ≤ grownCap w (xs.length + 1) c TE := grownCap_ge w _ _ _
          have hG63 := grownCap_le_maxLen w (xs.length + 1) c TE (by unfold maxLen; omega)
          generalize grownCap w (xs.length + 1) c TE = G at *
          obtain ⟨ROW, hROW⟩ : ∃ ROW : Array Value, ROW = (xs.take i).toArray ++ Builtin.zeroCells (Value.pointer none).cells (xs.length + 1 - i) ++ Builtin.zeroCells (Value.pointer none).cells (G - (xs.length + 1)) := ⟨_, rfl⟩
          rw [← hROW]
          have hR1 : ROW.size = G := by
            rw [hROW]
            simp [Builtin.zeroCells, Value.cells]
            omega
          have hR2 : (ROW.toList.take (xs.length + 1)).take i = xs.take i := by
            rw [List.take_take, Nat.min_eq_left (by omega), hROW]
            simp only [Array.toList_append, List.append_assoc]
            rw [List.take_append_of_le_length (by simp; omega), List.take_of_length_le (by simp; omega)]
          have hR3 : (ROW.toList.take (xs.length + 1)).length = xs.length + 1 := by
            have q : ROW.toList.length = G := by rw [Array.length_toList]; exact hR1
            rw [List.length_take, q]; omega
          have hd : (w.alloc (.cells ROW TE)).drew.ownsRow 0 TE 1 (.slice (some ⟨w.heap.size, 0, none⟩) (xs.length + 1) G) (xs.length + 1) (ROW.toList.take (xs.length + 1)) :=
            ⟨by rw [hR3]; omega, .inr ⟨w.heap.size, G, ROW, rfl, Nat.zero_le _, heap_alloc_new w _, hGn, hG63, by rw [hR1]; omega, by rw [Nat.mul_one]⟩⟩
          have q1 : ((w.alloc (.cells ROW TE)).drew.setCells w.heap.size i [p]).drew.ownsRow 0 TE 1 _ _ _ := owns_setCellsP [p] i _ _ hd (by simp; omega)
          have q := owns_setCellsP (xs.drop i) (i + 1) _ _ q1 (by rw [List.length_drop]; omega)
          rw [grow_list hlt hR3 hR2] at q
          exact q
        · have q : Chg (fun k => k = w.heap.size) w (w.alloc (.cells ((xs.take i).toArray ++ Builtin.zeroCells (Value.pointer none).cells (xs.length + 1 - i) ++ Builtin.zeroCells (Value.pointer none).cells (grownCap w (xs.length + 1) c TE - (xs.length + 1))) TE)).drew := ((Chg.refl _ w).alloc _).drew
          exact (((q.trans (chg_setCellsP _ _ _) (fun _ q _ => q)).drew).trans (chg_setCellsP _ _ _) (fun _ q _ => q)).mono (fun k hk hl => by omega)

end Go.Proofs.Ythfmgdhhjnngaaa
