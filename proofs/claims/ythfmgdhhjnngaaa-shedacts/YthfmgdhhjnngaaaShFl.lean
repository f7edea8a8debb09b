/- Package shed: fill. -/
import Derived.Test.YthfmgdhhjnngaaaShSf
namespace Go.Proofs.Ythfmgdhhjnngaaa
open Go.RowKit Go.Shelf
open Bt
attribute [local go_sem] Oper.semAt_some

theorem CS.zeroed {S : Nat → Prop} {w w' : World} {b : Nat} {v : Value} {zs : List (Nat × Sd)} {x : Ctl} (h : CS S w b v zs x) (hs : ∀ z ∈ zs, SdAt w' z.1 (zeroS z.2)) (hc : Chg (fun k => ∃ z ∈ zs, k = z.1) w w') :
    CS S w' b v (zs.map (fun z => (z.1, zeroS z.2))) { x with beds := x.beds.map zeroS } := by
  obtain ⟨a1, a2⟩ := h.apart
  have e1 : (zs.map (fun z => (z.1, zeroS z.2))).map Prod.fst = zs.map Prod.fst := by rw [List.map_map]; rfl
  have e2 : pcells (zs.map (fun z => (z.1, zeroS z.2))) = pcells zs := by unfold pcells; rw [List.map_map]; rfl
  refine ⟨(hc.block b (h.lt b h.inB) (fun ⟨z, hz, e⟩ => (a2 z hz).2 e.symm)).trans h.head, ?_, ?_, fun z hz => ?_, by rw [e1]; exact h.dist, h.inB, h.inV, fun z hz => ?_, fun k hk => Nat.lt_of_lt_of_le (h.lt k hk) hc.size, ok_fill h.ok⟩
  · show x.beds.map zeroS = _
    rw [h.beds, List.map_map, List.map_map]; rfl
  · rw [e2, List.length_map]
    exact ownsRow_keep h.own fun k hk => hc.block k (World.ownsRow.lt h.own k hk).2 (fun ⟨z, hz, e⟩ => (a2 z hz).1 (by rw [← e]; exact hk))
  · obtain ⟨t, ht, rfl⟩ := List.mem_map.1 hz
    exact hs t ht
  · obtain ⟨t, ht, rfl⟩ := List.mem_map.1 hz
    exact h.inP t ht

theorem fst_inj {zs : List (Nat × Sd)} (h : (zs.map Prod.fst).Nodup) {i j : Nat} (hi : i < zs.length) (hj : j < zs.length) (e : zs[i].1 = zs[j].1) : i = j := by
  rcases Nat.lt_trichotomy i j with hh | hh | hh
  · have k := List.pairwise_iff_getElem.1 h i j (by simpa using hi) (by simpa using hj) hh
    simp only [List.getElem_map] at k
    exact absurd e k
  · exact hh
  · have k := List.pairwise_iff_getElem.1 h j i (by simpa using hj) (by simpa using hi) hh
    simp only [List.getElem_map] at k
    exact absurd e.symm k

theorem SdAt.zero {w : World} {q : Nat} {s : Sd} (h : SdAt w q s) : SdAt (w.setCell ⟨q, 2, none⟩ (.int .i64 0)) q (zeroS s) := h.set 0

set_option maxRecDepth 100000 in
set_option maxHeartbeats 2000000 in
theorem hfill_any (b : Nat) (S : Nat → Prop) (v : Value) (zs : List (Nat × Sd)) (x : Ctl) (w : World) (h : CS S w b v zs x) :
    Calls Try.prog 29 #[.pointer (some ⟨b, 0, none⟩)] w fun e w' => e = .returned (.tuple #[]) ∧ Ctr S w' b { x with beds := x.beds.map zeroS } ∧ Chg S w w' := by
  obtain ⟨ao, cp, rfl, hz⟩ := h.form
  have HH := Hid.intro h
  obtain ⟨m, hm⟩ : ∃ m, m = zs.length := ⟨_, rfl⟩
  have hf := h.few
  refine (callsIn_wide (n := 4)).1 ?_
  refine callsIn_of_wp_marks Try.func29 rfl trivial ?_ rfl
  simp only [Try.ntmps29, List.size_toArray, List.length_cons, List.length_nil, Nat.reduceAdd, Nat.reduceSub, Array.replicate_succ, Array.replicate_zero, List.push_toArray, List.append_toArray, List.nil_append, List.cons_append]
  gi_wp2_with (refine ⟨trivial, ?_⟩; gi_at_call 37; refine (callsIn_wide.2 (hfromLast_any b _)).mono ?_; rintro e w' ⟨rfl, rfl⟩)
  have c1 := cellNewS w (.pointer (some ⟨b, 0, none⟩)) 24
  have hB0 : Below w.heap.size w (w.alloc (.cells #[.pointer (some ⟨b, 0, none⟩)] 24)) := (Below.refl _ w).alloc (Nat.le_refl _) _
  have h2 := h.below hB0
  have sz2 : (w.alloc (.cells #[.pointer (some ⟨b, 0, none⟩)] 24)).heap.size = w.heap.size + 1 := by simp
  have DD : ∀ k, (k = w.heap.size ∨ k = b ∨ ∃ ad, ao = some ad ∧ k = ad.block) → k < w.heap.size + 1 := fun k hk => by
    rcases hk with q | q | ⟨ad, e, q⟩
    · omega
    · rw [q]; have := h.lt b h.inB; omega
    · have := h.lt k (h.inV k (by rw [e, q]; rfl)); omega
  have st := fromLast_stops 3 (by decide) b w.heap.size ao cp m zs hm (by omega) _ (fun k => k = w.heap.size ∨ k = b ∨ ∃ ad, ao = some ad ∧ k = ad.block) (fun k hk => by rw [sz2]; exact DD k hk) (.inl rfl) (.inr (.inl rfl)) (fun ad e => .inr (.inr ⟨ad, e, rfl⟩)) c1.1 (by rw [hm]; exact h2.cells.2.2.1) (fun q => by
        rw [hm] at q
        obtain ⟨g, e⟩ := hz.resolve_left (by omega)
        subst e
        exact ⟨g, rfl, fun i hi => h2.at hi⟩)
  have ap : ∀ y : Fin m, ∀ k, (k = w.heap.size ∨ k = b ∨ ∃ ad, ao = some ad ∧ k = ad.block) → k ≠ (zs[y.val]'(hm ▸ y.isLt)).1 := fun y k hk e => by
    have a2 := h.apart.2 (zs[y.val]'(hm ▸ y.isLt)) (List.getElem_mem _)
    have a3 := h.lt _ (h.inP (zs[y.val]'(hm ▸ y.isLt)) (List.getElem_mem _))
    rcases hk with q | q | ⟨ad, q1, q⟩
    · omega
    · exact a2.2 (by omega)
    · exact a2.1 (by rw [q1]; show some ad.block = _; rw [← q, e])
  have S0 : ∀ y : Fin m, SdAt (w.alloc (.cells #[.pointer (some ⟨b, 0, none⟩)] 24)) (zs[y.val]'(hm ▸ y.isLt)).1 (if y ∈ ([] : List (Fin m)) then zeroS (zs[y.val]'(hm ▸ y.isLt)).2 else (zs[y.val]'(hm ▸ y.isLt)).2) := fun y => by
    rw [if_neg (by simp)]
    exact h2.each _ (List.getElem_mem _)
  have AP := Hid.intro ap
  clear h h2 ap
  refine wpIn_rangeFunc_ownF rfl (by decide) (gf := 40) (lb := #[.pointer (some ⟨w.heap.size, 0, none⟩)]) rfl trivial (enters_of Try.func40 (by kernel_rfl) rfl)
    st (fun p q => KpS.t p q) (KpS.b (fun k hk => by rw [sz2]; exact DD k hk)) (Below.refl _ _) (fun _ => rfl)
    (fun pre W => (∀ y : Fin m, SdAt W (zs[y.val]'(hm ▸ y.isLt)).1 (if y ∈ pre then zeroS (zs[y.val]'(hm ▸ y.isLt)).2 else (zs[y.val]'(hm ▸ y.isLt)).2)) ∧ Chg (fun k => ∃ z ∈ zs, k = z.1) w W)
    (fun c pre W => False)
    (fun s A B row hs hg hr => ⟨fun y => sd_kept (hs.1 y) hg (fun r q => (hr r q).2), hs.2.grown hg (fun k q hk => by have := (hr k q).1; rw [sz2] at this; omega)⟩)
    (fun c s A B row hs hg hr => hs)
    ⟨S0, (below_chg hB0).mono (fun _ f _ => f.elim)⟩
    (fun y => { tmps := #[.pointer (some ⟨b, 0, none⟩), undef, Pv (zs[y.val]'(hm ▸ y.isLt)).1, .pointer (some ⟨b, 0, none⟩), .func (.func 40) #[] #[.pointer (some ⟨w.heap.size, 0, none⟩)], Pv (zs[y.val]'(hm ▸ y.isLt)).1, undef, undef, undef], defers := [] }) ?assign ?body ?done ?stop
  case assign =>
    intro l x W K hK
    gi_wp2
    exact hK
  case body =>
    rintro l pre y W ⟨hsd, hch⟩ _
    obtain ⟨_, _, d2, d3⟩ := (hsd y).cells
    have FI : Hid ((∀ t : Fin m, SdAt (W.setCell ⟨(zs[y.val]'(hm ▸ y.isLt)).1, 2, none⟩ (.int .i64 0)) (zs[t.val]'(hm ▸ t.isLt)).1 (if t ∈ pre ++ [y] then zeroS (zs[t.val]'(hm ▸ t.isLt)).2 else (zs[t.val]'(hm ▸ t.isLt)).2)) ∧ Chg (fun k => ∃ z ∈ zs, k = z.1) w (W.setCell ⟨(zs[y.val]'(hm ▸ y.isLt)).1, 2, none⟩ (.int .i64 0))) := by
      refine ⟨fun t => ?_, hch.setCell (p := ⟨(zs[y.val]'(hm ▸ y.isLt)).1, 2, none⟩) (fun _ => ⟨_, List.getElem_mem _, rfl⟩) _⟩
      by_cases e : t = y
      · subst e
        rw [if_pos (by simp)]
        have q := (hsd t).zero
        have e2 : zeroS (if t ∈ pre then zeroS (zs[t.val]'(hm ▸ t.isLt)).2 else (zs[t.val]'(hm ▸ t.isLt)).2) = zeroS (zs[t.val]'(hm ▸ t.isLt)).2 := by split <;> rfl
        rw [e2] at q
        exact q
      · have e2 : (t ∈ pre ++ [y]) ↔ t ∈ pre := by simp [e]
        have q := (hsd t).chg (S := fun k => k = (zs[y.val]'(hm ▸ y.isLt)).1) (Chg.setCell (S := fun k => k = (zs[y.val]'(hm ▸ y.isLt)).1) (Chg.refl _ W) (p := ⟨(zs[y.val]'(hm ▸ y.isLt)).1, 2, none⟩) (fun _ => rfl) (.int .i64 0)) (fun q => e (Fin.ext (fst_inj HH.out.dist (hm ▸ t.isLt) (hm ▸ y.isLt) q)))
        simp only [e2]
        exact q
    have KP : Hid (KpS (fun k => k = w.heap.size ∨ k = b ∨ ∃ ad, ao = some ad ∧ k = ad.block) W (W.setCell ⟨(zs[y.val]'(hm ▸ y.isLt)).1, 2, none⟩ (.int .i64 0))) := fun k hk => Below.heap_setCell _ _ _ _ (AP.out y k hk)
    clear hsd hch
    generalize (if y ∈ pre then zeroS (zs[y.val]'(hm ▸ y.isLt)).2 else (zs[y.val]'(hm ▸ y.isLt)).2).lv = lv at *
    generalize (zs[y.val]'(hm ▸ y.isLt)).1 = q at *
    gi_wp2
    exact ⟨KeepsOthers.setCell _ _ _, KP.out, FI.out⟩
  case done =>
    rintro D ys W hD ⟨hl, hrow⟩ ⟨hsd, hch⟩ hK
    gi_wp2
    have hg := grownBy_putObj' W D (.deferred none)
    have hr : ∀ r, some D = some r → ∃ o : Obj, W.heap[r]? = some o ∧ o.isCells = false := fun r e => by cases e; exact ⟨_, hK, rfl⟩
    have c5 := hch.grown hg (fun k q hk => by cases q; simp at hD; omega)
    refine ⟨by simp, .inl ⟨_, _, rfl, run_takeDeferred hK, ?_⟩⟩
    refine ⟨_, results_none rfl _ _ _, rfl, ⟨_, _, HH.out.zeroed (fun z hz => ?_) c5⟩, c5.mono (fun k ⟨z, hz, e⟩ _ => by rw [e]; exact HH.out.inP z hz)⟩
    obtain ⟨j, hj, rfl⟩ := List.getElem_of_mem hz
    have q := hsd ⟨j, hm ▸ hj⟩
    rw [if_pos (hrow.mem _ (by show m ≤ j + ys.length; omega))] at q
    exact sd_kept q hg hr
  case stop =>
    rintro D c pre W _ _ h _
    exact h.elim

end Go.Proofs.Ythfmgdhhjnngaaa
