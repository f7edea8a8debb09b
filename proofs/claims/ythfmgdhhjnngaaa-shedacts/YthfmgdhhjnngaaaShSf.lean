/- Package shed: shed, fill. -/
import Derived.Test.YthfmgdhhjnngaaaShIt
import Derived.Test.YthfmgdhhjnngaaaShK1
namespace Go.Proofs.Ythfmgdhhjnngaaa
open Go.RowKit Go.Shelf
open Bt
attribute [local go_sem] Oper.semAt_some

theorem cellNewS (w : World) (v : Value) (t : TypeId) : (w.alloc (.cells #[v] t)).cell? ⟨w.heap.size, 0, none⟩ = some v ∧ (w.alloc (.cells #[v] t)).frozen? ⟨w.heap.size, 0, none⟩ = false := by
  have h := heap_alloc_new w (.cells #[v] t)
  exact ⟨by rw [cell_of_row _ _ _ _ _ _ h]; rfl, frozen_of_row _ _ _ _ _ h⟩

theorem cellOldS {w : World} {a : Addr} {v : Value} (o : Obj) (h : w.cell? a = some v) : (w.alloc o).cell? a = some v :=
  (World.cell?_alloc_lt _ _ _ (World.block_lt_of_cell? w a h)).trans h

theorem frozenOldS {w : World} {a : Addr} {v : Value} (o : Obj) (h : w.cell? a = some v) (hf : w.frozen? a = false) : (w.alloc o).frozen? a = false :=
  (World.frozen?_alloc_old _ _ _ (Nat.ne_of_lt (World.block_lt_of_cell? w a h))).trans hf

/-- What lies but for some blocks abides what the loop itself turns. -/
theorem ownFrom_chg {β : Type} {B : Nat} {S : β → Nat → Prop} {w₀ : World} (hB : w₀.heap.size ≤ B) : OwnFrom B (fun (s : β) W => Chg (S s) w₀ W) :=
  fun _ _ _ _ hs hg hr => hs.grown hg (fun k e hk => by have := (hr k e).1; omega)

/-- A bed abides it. -/
theorem sd_kept {A B : World} {row : Option Nat} {q : Nat} {s : Sd} (h : SdAt A q s) (hg : A.grownBy B row) (hr : ∀ r, row = some r → ∃ o : Obj, A.heap[r]? = some o ∧ o.isCells = false) : SdAt B q s := by
  refine (hg.block q (lt_of_heap h) (fun e => ?_)).trans h
  obtain ⟨o, ho, hc⟩ := hr q e.symm
  unfold SdAt at h
  rw [h] at ho
  cases ho
  cases hc

theorem ok_shed {x : Ctl} (h : x.Ok) : ({ x with beds := shedL x.beds } : Ctl).Ok := by
  have q := ok_tick h true
  simp only [tickC, if_true] at q
  exact ⟨q.few, q.lev, q.once, h.w1, h.w2, h.cw⟩

theorem ok_fill {x : Ctl} (h : x.Ok) : ({ x with beds := x.beds.map zeroS } : Ctl).Ok :=
  ⟨by simpa using h.few, fun s hs => (by obtain ⟨t, _, rfl⟩ := List.mem_map.1 hs; exact Nat.zero_le _), by rw [zero_bed]; exact h.once, h.w1, h.w2, h.cw⟩

/-- The beds of whom one is turned. -/
theorem CS.modify {S : Nat → Prop} {w w' : World} {b : Nat} {v : Value} {zs : List (Nat × Sd)} {x : Ctl} (h : CS S w b v zs x) {i : Nat} (hi : i < zs.length) (hs : SdAt w' zs[i].1 (oneS zs[i].2)) (hc : Chg (fun k => k = zs[i].1) w w') (ok : ({ x with beds := x.beds.modify i oneS } : Ctl).Ok) :
    CS S w' b v (zs.modify i (fun z => (z.1, oneS z.2))) { x with beds := x.beds.modify i oneS } := by
  obtain ⟨a1, a2⟩ := h.apart
  have hm : zs[i] ∈ zs := List.getElem_mem hi
  have e1 : (zs.modify i (fun z => (z.1, oneS z.2))).map Prod.fst = zs.map Prod.fst := by
    apply List.ext_getElem?
    intro j
    simp only [List.getElem?_map, List.getElem?_modify]
    split
    · cases zs[j]? <;> rfl
    · cases zs[j]? <;> rfl
  have e2 : pcells (zs.modify i (fun z => (z.1, oneS z.2))) = pcells zs := by
    have : ∀ l : List (Nat × Sd), pcells l = (l.map Prod.fst).map Pv := fun l => by unfold pcells; rw [List.map_map]; rfl
    rw [this, this, e1]
  have mem : ∀ z ∈ zs.modify i (fun z => (z.1, oneS z.2)), (z = (zs[i].1, oneS zs[i].2)) ∨ (z ∈ zs ∧ z.1 ≠ zs[i].1) := fun z hz => by
    obtain ⟨j, hj, rfl⟩ := List.getElem_of_mem hz
    have hj' : j < zs.length := by simpa using hj
    rw [List.getElem_modify]
    split
    · rename_i e; subst e; exact .inl rfl
    · rename_i e
      refine .inr ⟨List.getElem_mem hj', fun q => e ?_⟩
      rcases Nat.lt_trichotomy i j with hh | hh | hh
      · have k := List.pairwise_iff_getElem.1 h.dist i j (by simpa using hi) (by simpa using hj') hh
        simp only [List.getElem_map] at k
        exact absurd q.symm k
      · exact hh
      · have k := List.pairwise_iff_getElem.1 h.dist j i (by simpa using hj') (by simpa using hi) hh
        simp only [List.getElem_map] at k
        exact absurd q k
  refine ⟨(hc.block b (h.lt b h.inB) (fun e => (a2 _ hm).2 e.symm)).trans h.head, ?_, ?_, fun z hz => ?_, by rw [e1]; exact h.dist, h.inB, h.inV, fun z hz => ?_, fun k hk => Nat.lt_of_lt_of_le (h.lt k hk) hc.size, ok⟩
  · show x.beds.modify i oneS = _
    rw [h.beds, map_modify Prod.snd (fun z => (z.1, oneS z.2)) oneS (fun _ => rfl)]
  · rw [e2, List.length_modify]
    exact ownsRow_keep h.own fun k hk => hc.block k (World.ownsRow.lt h.own k hk).2 (fun e => (a2 _ hm).1 (by rw [← e]; exact hk))
  · rcases mem z hz with rfl | ⟨q1, q2⟩
    · exact hs
    · exact (h.each z q1).chg hc q2
  · rcases mem z hz with rfl | ⟨q1, _⟩
    · exact h.inP zs[i] hm
    · exact h.inP z q1

theorem shed_turned {w W : World} {q : Nat} {s : Sd} {u : Value} (hs : SdAt W q s) (hB : Below w.heap.size w W) (hq : q < w.heap.size) (hcr : W.cell? ⟨w.heap.size, 0, none⟩ = some u) :
    ((W.setCell ⟨q, 2, none⟩ (.int .i64 ((s.lv : Int) + 1))).setCell ⟨w.heap.size, 0, none⟩ (.int .i64 s.bed)).cell? ⟨w.heap.size, 0, none⟩ = some (.int .i64 s.bed) ∧ SdAt ((W.setCell ⟨q, 2, none⟩ (.int .i64 ((s.lv : Int) + 1))).setCell ⟨w.heap.size, 0, none⟩ (.int .i64 s.bed)) q (oneS s) ∧ Chg (fun k => k = q) w ((W.setCell ⟨q, 2, none⟩ (.int .i64 ((s.lv : Int) + 1))).setCell ⟨w.heap.size, 0, none⟩ (.int .i64 s.bed)) := by
  have k1 : Chg (fun k => k = q) W (W.setCell ⟨q, 2, none⟩ (.int .i64 ((s.lv : Int) + 1))) := Chg.setCell (S := fun k => k = q) (Chg.refl _ W) (p := ⟨q, 2, none⟩) (fun _ => rfl) _
  have k2 : Chg (fun k => k = w.heap.size) (W.setCell ⟨q, 2, none⟩ (.int .i64 ((s.lv : Int) + 1))) ((W.setCell ⟨q, 2, none⟩ (.int .i64 ((s.lv : Int) + 1))).setCell ⟨w.heap.size, 0, none⟩ (.int .i64 s.bed)) := Chg.setCell (S := fun k => k = w.heap.size) (Chg.refl _ _) (p := ⟨w.heap.size, 0, none⟩) (fun _ => rfl) _
  have s1 : SdAt (W.setCell ⟨q, 2, none⟩ (.int .i64 ((s.lv : Int) + 1))) q (oneS s) := hs.set (s.lv + 1)
  have c1 := cell_chg k1 hcr (by show ¬ w.heap.size = q; omega)
  refine ⟨World.cell?_setCell_same' _ _ _ (by rw [c1]; rfl), s1.chg k2 (by omega), ?_⟩
  have k0 : Chg (fun k => k = q) w W := (below_chg hB).mono (fun _ f _ => f.elim)
  exact (k0.trans k1 (fun _ e _ => e)).trans k2 (fun k e hk => by omega)

/-- A tick's bed: the last one that isn't Off. -/
theorem up_of_row {m : Nat} {zs : List (Nat × Sd)} (hm : m = zs.length) {pr : List (Fin m)} {y : Fin m} (hrow : RowD (pr ++ [y])) (hp : ∀ t ∈ pr, (zs[t.val]'(hm ▸ t.isLt)).2.lv = 3) (h3 : (zs[y.val]'(hm ▸ y.isLt)).2.lv ≠ 3) : upS (zs.map Prod.snd) = some y.val := by
  refine upS_some (by simpa using hm ▸ y.isLt) (by simpa using h3) (fun j hj hij => ?_)
  have hj' : j < m := by rw [hm]; simpa using hj
  have := hp ⟨j, hj'⟩ (hrow.init.mem ⟨j, hj'⟩ (by have := hrow.last; show m ≤ j + pr.length; omega))
  simpa using this

theorem up_of_all {m : Nat} {zs : List (Nat × Sd)} (hm : m = zs.length) {ys : List (Fin m)} (hl : ys.length = m) (hrow : RowD ys) (hp : ∀ t ∈ ys, (zs[t.val]'(hm ▸ t.isLt)).2.lv = 3) : upS (zs.map Prod.snd) = none := by
  refine upS_none (fun s hs => ?_)
  obtain ⟨j, hj, rfl⟩ := List.getElem_of_mem hs
  have hj' : j < m := by rw [hm]; simpa using hj
  have := hp ⟨j, hj'⟩ (hrow.mem ⟨j, hj'⟩ (by show m ≤ j + ys.length; omega))
  simpa using this

set_option maxRecDepth 100000 in
set_option maxHeartbeats 2000000 in
theorem hshed_any (b : Nat) (S : Nat → Prop) (v : Value) (zs : List (Nat × Sd)) (x : Ctl) (w : World) (h : CS S w b v zs x) :
    Calls Try.prog 28 #[.pointer (some ⟨b, 0, none⟩)] w fun e w' => e = .returned (.int .i64 (shedD x.beds)) ∧ Ctr S w' b { x with beds := shedL x.beds } ∧ Chg S w w' := by
  obtain ⟨ao, cp, rfl, hz⟩ := h.form
  have HH := Hid.intro h
  obtain ⟨m, hm⟩ : ∃ m, m = zs.length := ⟨_, rfl⟩
  have hf := h.few
  refine (callsIn_wide (n := 4)).1 ?_
  refine callsIn_of_wp_marks Try.func28 rfl trivial ?_ rfl
  simp only [Try.ntmps28, List.size_toArray, List.length_cons, List.length_nil, Nat.reduceAdd, Nat.reduceSub, Array.replicate_succ, Array.replicate_zero, List.push_toArray, List.append_toArray, List.nil_append, List.cons_append]
  gi_wp2_with (refine ⟨trivial, ?_⟩; gi_at_call 37; refine (callsIn_wide.2 (hfromLast_any b _)).mono ?_; rintro e w' ⟨rfl, rfl⟩)
  have c0 := cellNewS w (.int .i64 0) 3
  have c1 := cellNewS (w.alloc (.cells #[.int .i64 0] 3)) (.pointer (some ⟨b, 0, none⟩)) 24
  simp only [World.size_alloc] at c1
  have hB0 : Below w.heap.size w ((w.alloc (.cells #[.int .i64 0] 3)).alloc (.cells #[.pointer (some ⟨b, 0, none⟩)] 24)) := ((Below.refl _ w).alloc (Nat.le_refl _) _).alloc (by simp) _
  have h2 := h.below hB0
  have sz2 : ((w.alloc (.cells #[.int .i64 0] 3)).alloc (.cells #[.pointer (some ⟨b, 0, none⟩)] 24)).heap.size = w.heap.size + 2 := by simp
  have EA := Hid.intro (fun (W : World) (hW : Below w.heap.size w W) (y : Fin m) => ((h.each (zs[y.val]'(hm ▸ y.isLt)) (List.getElem_mem _)).below hW).cells)
  have st := fromLast_stops 3 (by decide) b (w.heap.size + 1) ao cp m zs hm (by omega) _ (fun k => k = w.heap.size + 1 ∨ S k) (fun k hk => by
      rw [sz2]
      rcases hk with q | q
      · omega
      · have := h.lt k q; omega) (.inl rfl) (.inr h.inB) (fun ad e => .inr (h.inV _ (by rw [e]; rfl))) c1.1 (by rw [hm]; exact h2.cells.2.2.1) (fun q => by
        rw [hm] at q
        obtain ⟨g, e⟩ := hz.resolve_left (by omega)
        subst e
        exact ⟨g, rfl, fun i hi => h2.at hi⟩)
  clear h h2
  refine wpIn_rangeFunc_ownF rfl (by decide) (gf := 40) (lb := #[.pointer (some ⟨w.heap.size + 1, 0, none⟩)]) rfl trivial (enters_of Try.func40 (by kernel_rfl) rfl)
    st (fun p q => KpS.t p q) (KpS.b (fun k hk => by
      rw [sz2]
      rcases hk with q | q
      · omega
      · have := HH.out.lt k q; omega)) (Below.refl _ _) (fun _ => rfl)
    (fun pre W => ((∀ y ∈ pre, (zs[y.val]'(hm ▸ y.isLt)).2.lv = 3) ∧ W.cell? ⟨w.heap.size, 0, none⟩ = some (.int .i64 0) ∧ W.frozen? ⟨w.heap.size, 0, none⟩ = false) ∧ Below w.heap.size w W)
    (fun c pre W => c = .ret ∧ ∃ pr y, pre = pr ++ [y] ∧ (∀ y ∈ pr, (zs[y.val]'(hm ▸ y.isLt)).2.lv = 3) ∧ (zs[y.val]'(hm ▸ y.isLt)).2.lv ≠ 3 ∧ W.cell? ⟨w.heap.size, 0, none⟩ = some (.int .i64 (zs[y.val]'(hm ▸ y.isLt)).2.bed) ∧ SdAt W (zs[y.val]'(hm ▸ y.isLt)).1 (oneS (zs[y.val]'(hm ▸ y.isLt)).2) ∧ Chg (fun k => k = (zs[y.val]'(hm ▸ y.isLt)).1) w W)
    (OwnFrom.and (Own.from (fun s A B row hs hg hr => ⟨hs.1, cell_kept hs.2.1 hg hr, (frozen_kept hs.2.1 hg hr).trans hs.2.2⟩) _) (ownFrom_below (Nat.le_refl _) (by simp; omega)))
    (fun c s A B row hs hg hr => by
      obtain ⟨e, pr, y, e2, p1, p2, p3, p4, p5⟩ := hs
      exact ⟨e, pr, y, e2, p1, p2, cell_kept p3 hg (fun r q => (hr r q).2), sd_kept p4 hg (fun r q => (hr r q).2), p5.grown hg (fun k q hk => by have := (hr k q).1; rw [sz2] at this; omega)⟩)
    ⟨⟨by simp, cellOldS _ c0.1, frozenOldS _ c0.1 c0.2⟩, hB0⟩
    (fun y => { tmps := #[.pointer (some ⟨b, 0, none⟩), undef, .pointer (some ⟨w.heap.size, 0, none⟩), Pv (zs[y.val]'(hm ▸ y.isLt)).1, .pointer (some ⟨b, 0, none⟩), .func (.func 40) #[] #[.pointer (some ⟨w.heap.size + 1, 0, none⟩)], Pv (zs[y.val]'(hm ▸ y.isLt)).1, undef, undef, undef, undef, undef, undef, undef, undef, undef, undef, undef, undef, undef, undef, undef, undef], defers := [] }) ?assign ?body ?done ?stop
  case assign =>
    intro l x W K hK
    gi_wp2
    exact hK
  case body =>
    rintro l pre y W ⟨⟨hp, hcr, hfr⟩, hB⟩ _
    obtain ⟨d0, _, d2, d3⟩ := EA.out W hB y
    have hq : (zs[y.val]'(hm ▸ y.isLt)).1 < w.heap.size := HH.out.lt _ (HH.out.inP _ (List.getElem_mem _))
    have SDH := Hid.intro ((HH.out.each (zs[y.val]'(hm ▸ y.isLt)) (List.getElem_mem _)).below hB)
    have le3 := Hid.intro (HH.out.ok.lev (zs[y.val]'(hm ▸ y.isLt)).2 (by rw [HH.out.beds]; exact List.mem_map.2 ⟨_, List.getElem_mem _, rfl⟩))
    by_cases h3 : (zs[y.val]'(hm ▸ y.isLt)).2.lv = 3
    · have HP : Hid (∀ t ∈ pre ++ [y], (zs[t.val]'(hm ▸ t.isLt)).2.lv = 3) := fun t ht => (List.mem_append.1 ht).elim (hp t) (fun e => by simp at e; subst e; exact h3)
      clear hp SDH le3
      generalize (zs[y.val]'(hm ▸ y.isLt)).2.lv = lv at d2 h3
      generalize (zs[y.val]'(hm ▸ y.isLt)).2.bed = bd at d0
      generalize (zs[y.val]'(hm ▸ y.isLt)).1 = q at *
      subst h3
      gi_wp2
      exact ⟨KeepsOthers.refl _, fun _ _ => rfl, ⟨HP.out, hcr, hfr⟩, hB⟩
    · have PP := Hid.intro hp
      have L3 := Hid.intro h3
      have hqn : (zs[y.val]'(hm ▸ y.isLt)).1 ≠ w.heap.size := by omega
      have FI : Hid (∀ W', W' = (W.setCell ⟨(zs[y.val]'(hm ▸ y.isLt)).1, 2, none⟩ (.int .i64 (((zs[y.val]'(hm ▸ y.isLt)).2.lv : Int) + 1))).setCell ⟨w.heap.size, 0, none⟩ (.int .i64 (zs[y.val]'(hm ▸ y.isLt)).2.bed) → Code.ret = Code.ret ∧ ∃ pr y', pre ++ [y] = pr ++ [y'] ∧ (∀ y ∈ pr, (zs[y.val]'(hm ▸ y.isLt)).2.lv = 3) ∧ (zs[y'.val]'(hm ▸ y'.isLt)).2.lv ≠ 3 ∧ W'.cell? ⟨w.heap.size, 0, none⟩ = some (.int .i64 (zs[y'.val]'(hm ▸ y'.isLt)).2.bed) ∧ SdAt W' (zs[y'.val]'(hm ▸ y'.isLt)).1 (oneS (zs[y'.val]'(hm ▸ y'.isLt)).2) ∧ Chg (fun k => k = (zs[y'.val]'(hm ▸ y'.isLt)).1) w W') := fun W' e => by
        subst e
        exact ⟨rfl, pre, y, rfl, hp, h3, shed_turned SDH.out hB hq hcr⟩
      have KO : Hid (KeepsOthers W ((W.setCell ⟨(zs[y.val]'(hm ▸ y.isLt)).1, 2, none⟩ (.int .i64 (((zs[y.val]'(hm ▸ y.isLt)).2.lv : Int) + 1))).setCell ⟨w.heap.size, 0, none⟩ (.int .i64 (zs[y.val]'(hm ▸ y.isLt)).2.bed))) := (KeepsOthers.setCell _ _ _).trans (KeepsOthers.setCell _ _ _)
      clear hp SDH
      generalize (zs[y.val]'(hm ▸ y.isLt)).2.lv = lv at *
      generalize (zs[y.val]'(hm ▸ y.isLt)).2.bed = bd at *
      generalize (zs[y.val]'(hm ▸ y.isLt)).1 = q at *
      have h3' : ((lv : Int) != 3) = true := by simp; omega
      have le := le3.out
      gi_wp2
      exact ⟨KO.out, rfl, (FI.out _ rfl).2⟩
  case done =>
    rintro D ys W hD ⟨hl, hrow⟩ ⟨⟨hne, hcr, hfr⟩, hB⟩ hK
    have up := up_of_all hm hl hrow hne
    rw [← HH.out.beds] at up
    gi_wp2
    have hK' := (KeepsOthers.setCell W ⟨w.heap.size, 0, none⟩ (.int .i64 (-1))).same D _ hK rfl
    refine ⟨by simp, .inl ⟨_, _, rfl, run_takeDeferred hK', ?_⟩⟩
    have hc5 := cell_kept (World.cell?_setCell_same' W ⟨w.heap.size, 0, none⟩ (.int .i64 (-1)) (by rw [hcr]; rfl)) (grownBy_putObj' _ D (.deferred none)) (fun r e => by cases e; exact ⟨_, hK', rfl⟩)
    have hB5 := (hB.setCell (p := ⟨w.heap.size, 0, none⟩) (by simp) (.int .i64 (-1))).trans (belowK_b (w := w) (Nat.le_refl _) _ D _ (.deferred none) (by simp at hD; omega) hK' rfl rfl)
    refine ⟨.int .i64 (-1), ?_, by rw [shedD_miss up], ?_, (below_chg hB5).mono (fun _ f _ => f.elim)⟩
    · simp [results, Try.f28, go_sem, hc5]
    · rw [shedL_miss up]
      exact ⟨_, _, HH.out.below hB5⟩
  case stop =>
    rintro D c pre W hD hpre ⟨rfl, pr, y, rfl, p1, p2, p3, p4, p5⟩ hK
    have up := up_of_row hm hpre p1 p2
    rw [← HH.out.beds] at up
    gi_wp2
    refine ⟨by simp, .inl ⟨_, _, rfl, run_takeDeferred hK, ?_⟩⟩
    have hg := grownBy_putObj' W D (.deferred none)
    have hr : ∀ r, some D = some r → ∃ o : Obj, W.heap[r]? = some o ∧ o.isCells = false := fun r e => by cases e; exact ⟨_, hK, rfl⟩
    have hc5 := cell_kept p3 hg hr
    have s5 := sd_kept p4 hg hr
    have c5 := p5.grown hg (fun k q hk => by cases q; simp at hD; omega)
    have hy : y.val < x.beds.length := by rw [HH.out.len, ← hm]; exact y.isLt
    have hyz : y.val < zs.length := hm ▸ y.isLt
    have eb : shedD x.beds = (zs[y.val]'hyz).2.bed := by
      rw [shedD_hit hy up]
      have : x.beds[y.val] = (zs[y.val]'hyz).2 := by simp [HH.out.beds]
      rw [this]
    refine ⟨.int .i64 (zs[y.val]'hyz).2.bed, ?_, by rw [eb], ?_, c5.mono (fun k e _ => by rw [e]; exact HH.out.inP _ (List.getElem_mem _))⟩
    · simp [results, Try.f28, go_sem, hc5]
    · have ok := ok_shed HH.out.ok
      rw [shedL_hit up] at ok ⊢
      exact ⟨_, _, HH.out.modify hyz s5 c5 ok⟩

end Go.Proofs.Ythfmgdhhjnngaaa
