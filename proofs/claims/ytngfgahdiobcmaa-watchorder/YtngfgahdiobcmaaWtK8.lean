/- Package watch: Look. -/
import Derived.Test.YtngfgahdiobcmaaWtK6
import Derived.Test.YtngfgahdiobcmaaStIn
namespace Go.Proofs.Ytngfgahdiobcmaa
open Go.RowKit Go.Shelf
open Bt
attribute [local go_sem] Oper.semAt_some

theorem grown_of_below {W W' : World} (h : Below W.heap.size W W') : W.grownBy W' none := ⟨h.os, h.tape, h.output, h.size, fun k hk _ => h.block k hk⟩

theorem keeps_of_below {B : Nat} {W W' : World} (h : Below W.heap.size W W') : KeepsFrom B W W' := ⟨h.size, fun k _ _ hk _ => (h.block k (lt_of_heap hk)).trans hk⟩

theorem keeps_of_cell (B : Nat) (W : World) (p : Addr) (u : Value) (h : p.block < B) : KeepsFrom B W (W.setCell p u) :=
  ⟨(Chg.setCell (S := fun k => k = p.block) (Chg.refl _ W) (p := p) (fun _ => rfl) u).size, fun k _ hB hk _ => (Below.heap_setCell _ _ _ _ (by omega)).trans hk⟩

variable {w W W' : World} {v ow : Value} {L L' : List Wb} {l : List Int} {rv : Option Addr}

/-- A bed's cell is written. -/
theorem RdN.put {g n c i k : Nat} {y : Wb} {u : Value} (hv : g < w.heap.size) (h : RdN (fun k => k = g) w W rv (.slice (some ⟨g, 0, none⟩) n c) L' l ow) (hi : i < L'.length) (hk : k < 4) (hy : wcell15 y = (wcell15 L'[i]).set k u) :
    RdN (fun k => k = g) w (W.setCell ⟨g, i * 4 + k, none⟩ u) rv (.slice (some ⟨g, 0, none⟩) n c) (L'.set i y) l ow := by
  have C : Chg (fun k => k = g) W (W.setCell ⟨g, i * 4 + k, none⟩ u) := Chg.setCell (S := fun k => k = g) (Chg.refl _ W) (p := ⟨g, i * 4 + k, none⟩) (fun _ => rfl) _
  obtain rfl : n = L'.length := by obtain ⟨_, _, e, _⟩ := ownsRow_form h.own; cases e; rfl
  have st := (World.ownsRow.stored h.own (i * 4 + k) u).1
  rw [wcells15_set L' hi hk hy] at st
  refine ⟨h.chg.trans C (fun _ q _ => q), by rw [List.length_set]; exact st, (C.block _ (lt_of_heap h.box) (by omega)).trans h.box, (C.block _ (lt_of_heap h.ptr) (by omega)).trans h.ptr, ownsRow_keep h.nums fun k hk => C.block k (World.ownsRow.lt h.nums k hk).2 (fun q => by have := h.ge k hk; omega), h.ge⟩

/-- Between two rounds. -/
def LkI (T : Nat → Prop) (w : World) (rv : Option Addr) (v : Value) (L : List Wb) (now : Int) (c : Nat) (W : World) : Prop := ∃ ow, RdN T w W rv v (lookAt L now c) (lookWl (L.take c) now) ow

theorem lookWl_len (L : List Wb) (now : Int) : (lookWl L now).length ≤ L.length := by
  unfold lookWl
  rw [List.length_map]
  exact List.length_filter_le _ _

set_option maxRecDepth 100000 in
set_option maxHeartbeats 4000000 in
theorem look_core (rv : Option Addr) (g : Nat) (now : Int) (hnow : timeWb now) (v : Value) (L : List Wb) (w : World) (ok : OkWb L) (hv : ∀ k, v.ownBlock = some k → k = g ∧ g < w.heap.size) (hown : w.ownsRow 0 58 4 v L.length (wcells15 L)) (hg : 0 < L.length → ∃ c, v = .slice (some ⟨g, 0, none⟩) L.length c)
    (hit : ∀ (l : Nat) (J : Nat → World → Prop) (W : World), (∀ c W, J c W → LkI (fun k => k = g) (w.alloc (.cells #[.int .i64 now] 3)) rv v L now c W) → (∀ c W1, c < L.length → J c W1 → YieldAt Fence.wide 2 Try.prog l #[.pointer (some ⟨g, c * 4, none⟩)] W1 fun e W' => e = .returned (.bool true) ∧ J (c + 1) W') → J 0 W → CallsIn Fence.wide 3 Try.prog 33 (#[.func (.yield l) #[] #[]] ++ #[.pointer (some ⟨w.heap.size + 2, 0, none⟩)]) W fun e W' => (∃ u, e = .returned u) ∧ J L.length W') :
    Calls Try.prog 14 #[.pointer rv, .int .i64 now] w fun e w' => ∃ v', e = .returned v' ∧ NumsAt (fun k => w.heap.size ≤ k ∧ k < w'.heap.size) w' v' (lookWl L now) ∧ Chg (fun k => k = g) w w' ∧ w'.ownsRow 0 58 4 v L.length (wcells15 (lookWt L now)) := by
  have hmo : Try.prog.follows .mixedOrders = true := by kernel_rfl
  have hf := ok.few
  have hwf : Fence.wide.fn 30 := trivial
  have B1 := (Below.refl _ w).alloc (Nat.le_refl _) (.cells #[.int .i64 now] 3)
  have g1 := (cellNewS w (.int .i64 now) 3).1
  have z1 := World.size_alloc w (.cells #[.int .i64 now] 3)
  have own1 : (w.alloc (.cells #[.int .i64 now] 3)).ownsRow 0 58 4 v (lookAt L now 0).length (wcells15 (lookAt L now 0)) := by
    rw [lookAt_zero]
    exact ownsRow_keep hown fun k hk => B1.block k (World.ownsRow.lt hown k hk).2
  have ST := rd_start (T := fun k => k = g) (rv := rv) own1
  have hv1 : ∀ k, v.ownBlock = some k → k < (w.alloc (.cells #[.int .i64 now] 3)).heap.size := fun k hk => by have := hv k hk; omega
  refine (callsIn_wide (n := 4)).1 ?_
  refine callsIn_of_wp_marks Try.func14 rfl trivial ?_ rfl
  simp only [Try.ntmps14, List.size_toArray, List.length_cons, List.length_nil, Nat.reduceAdd, Nat.reduceSub, Array.replicate_succ, Array.replicate_zero, List.push_toArray, List.append_toArray, List.nil_append, List.cons_append]
  gi_wp2_with (refine ⟨trivial, ?_⟩; gi_at_call 29; refine (callsIn_wide.2 (wall_any rv _)).mono ?_; rintro e w' ⟨rfl, rfl⟩)
  have hsz : (((w.alloc (.cells #[.int .i64 now] 3)).alloc (.cells #[.slice none 0 0] 30)).alloc (.cells #[.pointer rv] 25)).heap.size = w.heap.size + 3 := by simp
  generalize ((w.alloc (.cells #[.int .i64 now] 3)).alloc (.cells #[.slice none 0 0] 30)).alloc (.cells #[.pointer rv] 25) = W5 at ST hsz ⊢
  generalize w.alloc (.cells #[.int .i64 now] 3) = wn at *
  simp only [Nat.add_assoc, Nat.reduceAdd]
  refine wpIn_range_told rfl (by decide) (gf := 33) (lb := #[.pointer (some ⟨w.heap.size + 2, 0, none⟩)]) rfl trivial (enters_of Try.func33 (by kernel_rfl) rfl)
    L.length (LkI (fun k => k = g) wn rv v L now) (fun c => #[.pointer (some ⟨g, c * 4, none⟩)]) (by rw [hsz]; exact fun c W W' row ⟨ow, h⟩ hg hr => ⟨ow, h.grown hv1 hg (fun r e => ⟨by have := (hr r e).1; omega, (hr r e).2⟩)⟩) ⟨_, ST⟩ (fun _ => rfl)
    (fun l J W hJI _ hY h0 => hit l J W hJI hY h0)
    (fun c => { tmps := #[.pointer rv, .int .i64 now, undef, .pointer (some ⟨w.heap.size, 0, none⟩), .slice none 0 0, .pointer (some ⟨w.heap.size + 1, 0, none⟩), .pointer (some ⟨g, c * 4, none⟩), .pointer rv, .func (.func 33) #[] #[.pointer (some ⟨w.heap.size + 2, 0, none⟩)], .pointer (some ⟨g, c * 4, none⟩), undef, undef, undef, undef, undef, undef, undef, undef, undef, undef, undef, undef, undef, undef, undef, undef, undef, undef, undef, undef, undef], defers := [] }) ?assign ?body ?done
  case assign =>
    intro l c W K _ hK
    gi_wp2
    exact hK
  case body =>
    rintro l c W hc ⟨ow, hT⟩
    obtain ⟨vc, rfl⟩ := hg (by omega)
    have hgw := (hv g rfl).2
    have hcl : c < (lookAt L now c).length := by rw [lookAt_len]; exact hc
    have own2 := hT.own
    rw [lookAt_len] at own2
    have cc := ws_at own2 hcl
    rw [lookAt_here now hc] at cc
    obtain ⟨c0, c1, c2, c3⟩ := cc
    have kn := cell_chg hT.chg g1 (by show ¬ w.heap.size = g; omega)
    have SAME : Hid (dueWb now L[c] = false → ∀ W2, Below W.heap.size W W2 → toldPost W5.heap.size (LkI (fun k => k = g) wn rv (.slice (some ⟨g, 0, none⟩) L.length vc) L now (c + 1)) W .normal ⟨#[], []⟩ W2) := fun hd W2 hW2 => by
      refine ⟨keeps_of_below hW2, ow, ?_⟩
      have h2 := hT.grown hv1 (grown_of_below hW2) (fun r e => by cases e)
      rw [← lookAt_same now hc hd, lookWl_next now hc, if_neg (by rw [hd]; simp), List.append_nil]
      exact h2
    by_cases hl : L[c].lost = true
    · have hd : dueWb now L[c] = false := by simp [dueWb, hl]
      rw [hl] at c3
      have FIN := Hid.intro (SAME.out hd W (Below.refl _ W))
      clear hT SAME own2 hit ST own1 c0 c1 c2
      generalize c * 4 = o at *
      gi_wp2
      exact FIN.out
    · have hl' : L[c].lost = false := by simpa using hl
      rw [hl'] at c3
      have hm := ok.most L[c] (List.getElem_mem hc)
      have ht := ok.last L[c] (List.getElem_mem hc)
      have SI := Hid.intro (wsilent_any g (c * 4) now L[c].last L[c].most hnow.1 hnow.2 ht.1 ht.2 hm.1 hm.2 W c1 c2)
      have ed : decide (L[c].last + L[c].most < now) = dueWb now L[c] := by simp [dueWb, hl']
      rw [ed] at SI
      cases hd : dueWb now L[c] with
      | false =>
        rw [hd] at SI
        have FIN := Hid.intro (SAME.out hd)
        clear hT SAME own2 hit ST own1 c0 c1 c2 ed
        generalize c * 4 = o at *
        have h1 : 1 ≤ 4 - 1 - 1 := by decide
        gi_wp2
        refine (CallsIn.inRound l (callsIn_wide.2 SI.out)).mono ?_
        rintro e w1 ⟨rfl, B2⟩
        have F1 := Hid.intro (FIN.out w1 B2)
        clear B2 FIN SI kn c3
        gi_wp2
        exact F1.out
      | true =>
        rw [hd] at SI
        have GO : Hid (∀ W2, Below W.heap.size W W2 → ∃ v' wb oa oc, v' = .slice oa ((lookWl (L.take c) now).length + 1) oc ∧ (W2.setCell ⟨g, c * 4 + 3, none⟩ (.bool true)).drew.cell? ⟨w.heap.size + 1, 0, none⟩ = some ow ∧ (W2.setCell ⟨g, c * 4 + 3, none⟩ (.bool true)).drew.cell? ⟨g, c * 4, none⟩ = some (.int .i64 L[c].bed) ∧
            (Builtin.append_ #[30, 30] 30 #[ow, .slice (some ⟨(W2.setCell ⟨g, c * 4 + 3, none⟩ (.bool true)).drew.heap.size, 0, none⟩) 1 1]).run Try.prog ((W2.setCell ⟨g, c * 4 + 3, none⟩ (.bool true)).drew.alloc (.cells #[.int .i64 L[c].bed] 3)) = .ok v' wb ∧ (wb.cell? ⟨w.heap.size + 1, 0, none⟩ = some ow ∧ wb.frozen? ⟨w.heap.size + 1, 0, none⟩ = false) ∧
            toldPost W5.heap.size (LkI (fun k => k = g) wn rv (.slice (some ⟨g, 0, none⟩) L.length vc) L now (c + 1)) W .normal ⟨#[], []⟩ (wb.setCell ⟨w.heap.size + 1, 0, none⟩ v')) := fun W2 hW2 => by
          have h2 := hT.grown hv1 (grown_of_below hW2) (fun r e => by cases e)
          have h3 := h2.put (i := c) (k := 3) (y := lookOne now L[c]) (u := .bool true) (by omega) hcl (by omega) (by
            rw [lookAt_here now hc]
            unfold lookOne
            rw [if_pos hd]
            simp [wcell15])
          rw [lookAt_next now hc] at h3
          have h4 := h3.grown hv1 (grown_drew _ 1) (fun r e => by cases e)
          obtain ⟨v', wb, hrun, hz, ⟨oa, oc, hvf⟩, hN, hK0⟩ := h4.more hv1 L[c].bed (by have := lookWl_len (L.take c) now; rw [List.length_take] at this; omega) 30
          have k0 := h4.cells.1.1
          have own4 := h4.own
          rw [lookAt_len] at own4
          have cb := (ws_at own4 (t := c) (by rw [lookAt_len]; exact hc)).1
          have eb : ((lookAt L now (c + 1))[c]'(by rw [lookAt_len]; exact hc)).bed = L[c].bed := by
            have := lookAt_next now hc
            have e2 : (lookAt L now (c + 1))[c]'(by rw [lookAt_len]; exact hc) = lookOne now L[c] := by
              simp only [← this, List.getElem_set_self]
            rw [e2]
            unfold lookOne
            split <;> rfl
          rw [eb] at cb
          rw [z1] at hz k0
          refine ⟨v', wb, oa, oc, hvf, k0, cb, hrun, hz, ?_, v', ?_⟩
          · have K1 := (keeps_of_below (B := W5.heap.size) hW2).trans (keeps_of_cell W5.heap.size W2 ⟨g, c * 4 + 3, none⟩ (.bool true) (by show g < _; omega))
            refine ⟨Nat.le_trans K1.size (by have := hK0.size; rw [z1] at this; exact this), fun k o hk ho hcc => ?_⟩
            have q := hK0.same k o (by omega) (K1.same k o hk ho hcc) hcc
            rw [z1] at q
            exact q
          · rw [lookWl_next now hc, if_pos hd]
            rw [z1] at hN
            exact hN
        have C3 := Hid.intro (fun W2 (hW2 : Below W.heap.size W W2) => cell_chg (below_chg hW2) c3 id)
        have F3 : Hid (∀ W2, Below W.heap.size W W2 → W2.frozen? ⟨g, c * 4 + 3, none⟩ = false) := fun W2 hW2 => by
          have o2 := (hT.grown hv1 (grown_of_below hW2) (fun r e => by cases e)).own
          rw [lookAt_len] at o2
          exact frozen_own15 o2 _
        clear hT SAME own2 hit ST own1 c0 c1 c2 ed hm ht
        generalize L[c].bed = x at *
        generalize (lookWl (L.take c) now).length = n at *
        generalize hco : c * 4 = o at *
        clear hco
        have h1 : 1 ≤ 4 - 1 - 1 := by decide
        gi_wp2
        refine (CallsIn.inRound l (callsIn_wide.2 SI.out)).mono ?_
        rintro e w1 ⟨rfl, B2⟩
        have d3 := C3.out w1 B2
        have f3 := F3.out w1 B2
        obtain ⟨v', wb, oa, oc, rfl, k0, c0, hrun, ⟨z3, z4⟩, hN⟩ := GO.out w1 B2
        have HN := Hid.intro hN
        have k1 := cellOldS (.cells #[.int .i64 x] 3) k0
        clear B2 C3 F3 GO SI kn c3 hN
        gi_wp2
        refine wpIn_region_any hmo ?_
        try (change wpAnyIn _ _ _ _ _ _ _ _ _ (World.drew _))
        generalize (w1.setCell ⟨g, o + 3, none⟩ (.bool true)).drew = W1 at *
        refine wpAnyIn_ready (rs := [0, 1]) (by kernel_rfl) (by simp) ?_
        refine AllReadyIn.cons rfl (fun K hK => ?_) ?_
        · go_simp
          refine hK _ _ ?_
          clear hK K
          refine wpAnyIn_ready (rs := [1]) (by kernel_rfl) (by simp) ?_
          refine AllReadyIn.cons rfl (fun K hK => ?_) ?_
          · go_simp
            refine hK _ _ ?_
            clear hK K
            refine wpAnyIn_ready (rs := [2]) (by kernel_rfl) (by simp) ?_
            refine AllReadyIn.cons rfl (fun K hK => ?_) ?_
            · go_simp
              refine hK _ _ ?_
              clear hK K
              refine wpAnyIn_ready (rs := [3]) (by kernel_rfl) (by simp) ?_
              refine AllReadyIn.cons rfl (fun K hK => ?_) ?_
              · go_simp
                refine hK _ _ ?_
                clear hK K
                refine wpAnyIn_ready (rs := [4]) (by kernel_rfl) (by simp) ?_
                refine AllReadyIn.cons rfl (fun K hK => ?_) ?_
                · go_simp
                  refine hK _ _ ?_
                  clear hK K
                  refine wpAnyIn_ready (rs := [5]) (by kernel_rfl) (by simp) ?_
                  refine AllReadyIn.cons rfl (fun K hK => ?_) ?_
                  · go_simp
                    refine hK _ _ ?_
                    clear hK K
                    refine wpAnyIn_ready (rs := [6]) (by kernel_rfl) (by simp) ?_
                    refine AllReadyIn.cons rfl (fun K hK => ?_) ?_
                    · refine stepIn_append rfl _ _ _ rfl _ _ _ _ (by rfl) (by rfl) hrun ?_
                      refine hK _ _ ?_
                      clear hK K
                      simp only [Act.put, List.setIfInBounds_toArray]
                      refine wpAnyIn_ready (rs := [7]) (by kernel_rfl) (by simp) ?_
                      refine AllReadyIn.cons rfl (fun K hK => ?_) ?_
                      · go_simp
                        refine hK _ _ ?_
                        clear hK K
                        refine wpAnyIn_done (by kernel_rfl) ?_ _
                        exact HN.out
                      exact AllReadyIn.nil
                    exact AllReadyIn.nil
                  exact AllReadyIn.nil
                exact AllReadyIn.nil
              exact AllReadyIn.nil
            exact AllReadyIn.nil
          exact AllReadyIn.nil
        refine AllReadyIn.cons rfl (fun K hK => ?_) ?_
        · go_simp
          refine hK _ _ ?_
          clear hK K
          refine wpAnyIn_ready (rs := [0, 2]) (by kernel_rfl) (by simp) ?_
          refine AllReadyIn.cons rfl (fun K hK => ?_) ?_
          · go_simp
            refine hK _ _ ?_
            clear hK K
            refine wpAnyIn_ready (rs := [2]) (by kernel_rfl) (by simp) ?_
            refine AllReadyIn.cons rfl (fun K hK => ?_) ?_
            · go_simp
              refine hK _ _ ?_
              clear hK K
              refine wpAnyIn_ready (rs := [3]) (by kernel_rfl) (by simp) ?_
              refine AllReadyIn.cons rfl (fun K hK => ?_) ?_
              · go_simp
                refine hK _ _ ?_
                clear hK K
                refine wpAnyIn_ready (rs := [4]) (by kernel_rfl) (by simp) ?_
                refine AllReadyIn.cons rfl (fun K hK => ?_) ?_
                · go_simp
                  refine hK _ _ ?_
                  clear hK K
                  refine wpAnyIn_ready (rs := [5]) (by kernel_rfl) (by simp) ?_
                  refine AllReadyIn.cons rfl (fun K hK => ?_) ?_
                  · go_simp
                    refine hK _ _ ?_
                    clear hK K
                    refine wpAnyIn_ready (rs := [6]) (by kernel_rfl) (by simp) ?_
                    refine AllReadyIn.cons rfl (fun K hK => ?_) ?_
                    · refine stepIn_append rfl _ _ _ rfl _ _ _ _ (by rfl) (by rfl) hrun ?_
                      refine hK _ _ ?_
                      clear hK K
                      simp only [Act.put, List.setIfInBounds_toArray]
                      refine wpAnyIn_ready (rs := [7]) (by kernel_rfl) (by simp) ?_
                      refine AllReadyIn.cons rfl (fun K hK => ?_) ?_
                      · go_simp
                        refine hK _ _ ?_
                        clear hK K
                        refine wpAnyIn_done (by kernel_rfl) ?_ _
                        exact HN.out
                      exact AllReadyIn.nil
                    exact AllReadyIn.nil
                  exact AllReadyIn.nil
                exact AllReadyIn.nil
              exact AllReadyIn.nil
            exact AllReadyIn.nil
          refine AllReadyIn.cons rfl (fun K hK => ?_) ?_
          · go_simp
            refine hK _ _ ?_
            clear hK K
            refine wpAnyIn_ready (rs := [0, 3]) (by kernel_rfl) (by simp) ?_
            refine AllReadyIn.cons rfl (fun K hK => ?_) ?_
            · go_simp
              refine hK _ _ ?_
              clear hK K
              refine wpAnyIn_ready (rs := [3]) (by kernel_rfl) (by simp) ?_
              refine AllReadyIn.cons rfl (fun K hK => ?_) ?_
              · go_simp
                refine hK _ _ ?_
                clear hK K
                refine wpAnyIn_ready (rs := [4]) (by kernel_rfl) (by simp) ?_
                refine AllReadyIn.cons rfl (fun K hK => ?_) ?_
                · go_simp
                  refine hK _ _ ?_
                  clear hK K
                  refine wpAnyIn_ready (rs := [5]) (by kernel_rfl) (by simp) ?_
                  refine AllReadyIn.cons rfl (fun K hK => ?_) ?_
                  · go_simp
                    refine hK _ _ ?_
                    clear hK K
                    refine wpAnyIn_ready (rs := [6]) (by kernel_rfl) (by simp) ?_
                    refine AllReadyIn.cons rfl (fun K hK => ?_) ?_
                    · refine stepIn_append rfl _ _ _ rfl _ _ _ _ (by rfl) (by rfl) hrun ?_
                      refine hK _ _ ?_
                      clear hK K
                      simp only [Act.put, List.setIfInBounds_toArray]
                      refine wpAnyIn_ready (rs := [7]) (by kernel_rfl) (by simp) ?_
                      refine AllReadyIn.cons rfl (fun K hK => ?_) ?_
                      · go_simp
                        refine hK _ _ ?_
                        clear hK K
                        refine wpAnyIn_done (by kernel_rfl) ?_ _
                        exact HN.out
                      exact AllReadyIn.nil
                    exact AllReadyIn.nil
                  exact AllReadyIn.nil
                exact AllReadyIn.nil
              exact AllReadyIn.nil
            refine AllReadyIn.cons rfl (fun K hK => ?_) ?_
            · go_simp
              refine hK _ _ ?_
              clear hK K
              refine wpAnyIn_ready (rs := [0, 4]) (by kernel_rfl) (by simp) ?_
              refine AllReadyIn.cons rfl (fun K hK => ?_) ?_
              · go_simp
                refine hK _ _ ?_
                clear hK K
                refine wpAnyIn_ready (rs := [4]) (by kernel_rfl) (by simp) ?_
                refine AllReadyIn.cons rfl (fun K hK => ?_) ?_
                · go_simp
                  refine hK _ _ ?_
                  clear hK K
                  refine wpAnyIn_ready (rs := [5]) (by kernel_rfl) (by simp) ?_
                  refine AllReadyIn.cons rfl (fun K hK => ?_) ?_
                  · go_simp
                    refine hK _ _ ?_
                    clear hK K
                    refine wpAnyIn_ready (rs := [6]) (by kernel_rfl) (by simp) ?_
                    refine AllReadyIn.cons rfl (fun K hK => ?_) ?_
                    · refine stepIn_append rfl _ _ _ rfl _ _ _ _ (by rfl) (by rfl) hrun ?_
                      refine hK _ _ ?_
                      clear hK K
                      simp only [Act.put, List.setIfInBounds_toArray]
                      refine wpAnyIn_ready (rs := [7]) (by kernel_rfl) (by simp) ?_
                      refine AllReadyIn.cons rfl (fun K hK => ?_) ?_
                      · go_simp
                        refine hK _ _ ?_
                        clear hK K
                        refine wpAnyIn_done (by kernel_rfl) ?_ _
                        exact HN.out
                      exact AllReadyIn.nil
                    exact AllReadyIn.nil
                  exact AllReadyIn.nil
                exact AllReadyIn.nil
              refine AllReadyIn.cons rfl (fun K hK => ?_) ?_
              · go_simp
                refine hK _ _ ?_
                clear hK K
                refine wpAnyIn_ready (rs := [0, 5]) (by kernel_rfl) (by simp) ?_
                refine AllReadyIn.cons rfl (fun K hK => ?_) ?_
                · go_simp
                  refine hK _ _ ?_
                  clear hK K
                  refine wpAnyIn_ready (rs := [5]) (by kernel_rfl) (by simp) ?_
                  refine AllReadyIn.cons rfl (fun K hK => ?_) ?_
                  · go_simp
                    refine hK _ _ ?_
                    clear hK K
                    refine wpAnyIn_ready (rs := [6]) (by kernel_rfl) (by simp) ?_
                    refine AllReadyIn.cons rfl (fun K hK => ?_) ?_
                    · refine stepIn_append rfl _ _ _ rfl _ _ _ _ (by rfl) (by rfl) hrun ?_
                      refine hK _ _ ?_
                      clear hK K
                      simp only [Act.put, List.setIfInBounds_toArray]
                      refine wpAnyIn_ready (rs := [7]) (by kernel_rfl) (by simp) ?_
                      refine AllReadyIn.cons rfl (fun K hK => ?_) ?_
                      · go_simp
                        refine hK _ _ ?_
                        clear hK K
                        refine wpAnyIn_done (by kernel_rfl) ?_ _
                        exact HN.out
                      exact AllReadyIn.nil
                    exact AllReadyIn.nil
                  exact AllReadyIn.nil
                refine AllReadyIn.cons rfl (fun K hK => ?_) ?_
                · go_simp
                  refine hK _ _ ?_
                  clear hK K
                  refine wpAnyIn_ready (rs := [0]) (by kernel_rfl) (by simp) ?_
                  refine AllReadyIn.cons rfl (fun K hK => ?_) ?_
                  · go_simp
                    refine hK _ _ ?_
                    clear hK K
                    refine wpAnyIn_ready (rs := [6]) (by kernel_rfl) (by simp) ?_
                    refine AllReadyIn.cons rfl (fun K hK => ?_) ?_
                    · refine stepIn_append rfl _ _ _ rfl _ _ _ _ (by rfl) (by rfl) hrun ?_
                      refine hK _ _ ?_
                      clear hK K
                      simp only [Act.put, List.setIfInBounds_toArray]
                      refine wpAnyIn_ready (rs := [7]) (by kernel_rfl) (by simp) ?_
                      refine AllReadyIn.cons rfl (fun K hK => ?_) ?_
                      · go_simp
                        refine hK _ _ ?_
                        clear hK K
                        refine wpAnyIn_done (by kernel_rfl) ?_ _
                        exact HN.out
                      exact AllReadyIn.nil
                    exact AllReadyIn.nil
                  exact AllReadyIn.nil
                exact AllReadyIn.nil
              exact AllReadyIn.nil
            exact AllReadyIn.nil
          exact AllReadyIn.nil
        exact AllReadyIn.nil
  case done =>
    rintro D W hD ⟨ow, hT⟩ hK
    rw [List.take_length, lookAt_end] at hT
    rw [hsz] at hD
    have h2 := hT.grown hv1 (grownBy_putObj' W D (.deferred none)) (fun r e => by cases e; exact ⟨by omega, _, hK, rfl⟩)
    have k0 := hT.cells.1.1
    rw [z1] at k0
    obtain ⟨oa, oc, hof, _⟩ := ownsRow_form hT.nums
    subst hof
    have FIN : Hid (NumsAt (fun k => w.heap.size ≤ k ∧ k < (W.putObj D (.deferred none)).heap.size) (W.putObj D (.deferred none)) (.slice oa (lookWl L now).length oc) (lookWl L now) ∧ Chg (fun k => k = g) w (W.putObj D (.deferred none)) ∧ (W.putObj D (.deferred none)).ownsRow 0 58 4 v L.length (wcells15 (lookWt L now))) := by
      refine ⟨nums_own15 rfl h2.nums (fun k hk => ⟨by have := h2.ge k hk; omega, (World.ownsRow.lt h2.nums k hk).2⟩), ((below_chg B1).mono (fun _ f _ => f.elim)).trans h2.chg (fun _ q _ => q), ?_⟩
      have o2 := h2.own
      have e : (lookWt L now).length = L.length := by simp [lookWt]
      rw [e] at o2
      exact o2
    clear hT h2 ST hit hown own1
    generalize (lookWl L now).length = n at *
    gi_wp2
    refine ⟨by simp, .inl ⟨_, _, rfl, run_takeDeferred hK, ?_⟩⟩
    exact ⟨_, results_tmp rfl _ _ _, .slice oa n oc, rfl, FIN.out⟩

theorem wlook_any (b : Nat) (now : Int) (hnow : timeWb now) (S : Nat → Prop) (L : List Wb) (w : World) (h : WS b L S w) :
    Calls Try.prog 14 #[.pointer (some ⟨b, 0, none⟩), .int .i64 now] w fun e w' => ∃ v', e = .returned v' ∧ NumsAt (fun k => w.heap.size ≤ k ∧ k < w'.heap.size) w' v' (lookWl L now) ∧ WS b (lookWt L now) S w' ∧ Chg S w w' := by
  obtain ⟨v, h⟩ := h
  have hf := h.ok.few
  have hvb : v.ownBlock ≠ some b := row_not_block h.own h.head (by decide)
  have hbl := h.lt b h.inB
  obtain ⟨ao, c, rfl, hz⟩ := ownsRow_form h.own
  obtain ⟨g, hg, hgv, hgS, hgb⟩ : ∃ g, (0 < L.length → ao = some ⟨g, 0, none⟩) ∧ (∀ k, (Value.slice ao L.length c).ownBlock = some k → k = g ∧ g < w.heap.size) ∧ (g < w.heap.size → S g) ∧ b ≠ g := by
    cases ao with
    | none =>
      refine ⟨w.heap.size + 9, fun r => ?_, fun k hk => (by cases hk), fun q => (by omega), by omega⟩
      rcases hz with q | ⟨g, q⟩
      · omega
      · cases q
    | some a =>
      have ha := h.inV a.block rfl
      refine ⟨a.block, fun r => ?_, fun k hk => by cases hk; exact ⟨rfl, h.lt _ ha⟩, fun _ => ha, fun q => hvb (by rw [q]; rfl)⟩
      rcases hz with q | ⟨g, q⟩
      · omega
      · cases q; rfl
  refine (look_core (some ⟨b, 0, none⟩) g now hnow (.slice ao L.length c) L w h.ok hgv h.own (fun q => ⟨c, by rw [hg q]⟩) (fun l J W hJI hY h0 => all1_told 3 (by decide) b (w.heap.size + 2) g L.length c ao (by omega) hg (LkI (fun k => k = g) (w.alloc (.cells #[.int .i64 now] 3)) (some ⟨b, 0, none⟩) (.slice ao L.length c) L now) (fun c W ⟨ow, hT⟩ => ⟨?_, ?_⟩) l J W hJI hY h0)).mono ?_
  · have := hT.cells.2
    simp only [World.size_alloc, Nat.add_assoc, Nat.reduceAdd] at this
    exact this
  · exact cell_chg hT.chg (cellOldS _ h.cells.1) hgb
  · rintro e w' ⟨v', rfl, hN, hC, hO⟩
    refine ⟨v', rfl, hN, ⟨_, ⟨(hC.block b hbl hgb).trans h.head, ?_, h.inB, h.inV, fun k hk => Nat.lt_of_lt_of_le (h.lt k hk) hC.size, lookWt_ok h.ok now⟩⟩, hC.mono (fun k q hk => by subst q; exact hgS hk)⟩
    have e : (lookWt L now).length = L.length := by simp [lookWt]
    rw [e]
    exact hO

theorem wlook_nil (now : Int) (hnow : timeWb now) (w : World) :
    Calls Try.prog 14 #[.pointer none, .int .i64 now] w fun e w' => ∃ v', e = .returned v' ∧ NumsAt (fun k => w.heap.size ≤ k ∧ k < w'.heap.size) w' v' [] ∧ Below w.heap.size w w' := by
  refine (look_core none (w.heap.size + 9) now hnow (.slice none 0 0) [] w okWb_nil (fun k hk => by cases hk) (own_noneR _ _ _) (fun q => absurd q (by simp)) (fun l J W hJI _ h0 => all1_told_nil 3 (w.heap.size + 2) (LkI (fun k => k = w.heap.size + 9) (w.alloc (.cells #[.int .i64 now] 3)) none (.slice none 0 0) [] now) (fun c W ⟨_, hT⟩ => ?_) l J W hJI h0)).mono ?_
  · have := hT.cells.2
    simp only [World.size_alloc, Nat.add_assoc, Nat.reduceAdd] at this
    exact this
  · rintro e w' ⟨v', rfl, hN, hC, _⟩
    exact ⟨v', rfl, hN, hC.below (Nat.le_refl _) (fun k hk => by omega)⟩

end Go.Proofs.Ytngfgahdiobcmaa
