/- Package watch: find. -/
import Derived.Test.YtngfgahdiobcmaaWtIt
namespace Go.Proofs.Ytngfgahdiobcmaa
open Go.RowKit Go.Shelf
open Bt
attribute [local go_sem] Oper.semAt_some

theorem cellNewS (w : World) (v : Value) (t : TypeId) : (w.alloc (.cells #[v] t)).cell? ⟨w.heap.size, 0, none⟩ = some v ∧ (w.alloc (.cells #[v] t)).frozen? ⟨w.heap.size, 0, none⟩ = false := by
  have h := heap_alloc_new w (.cells #[v] t)
  exact ⟨by rw [cell_of_row _ _ _ _ _ _ h]; rfl, frozen_of_row _ _ _ _ _ h⟩

theorem cellOldS {w : World} {a : Addr} {v : Value} (o : Obj) (h : w.cell? a = some v) : (w.alloc o).cell? a = some v :=
  (World.cell?_alloc_lt _ _ _ (World.block_lt_of_cell? w a h)).trans h

theorem frozenOldS {w : World} {a : Addr} {v : Value} (o : Obj) (h : w.cell? a = some v) (hf : w.frozen? a = false) : (w.alloc o).frozen? a = false :=
  (World.frozen?_alloc_old _ _ _ (Nat.ne_of_lt (World.block_lt_of_cell? w a h))).trans hf

/-- Where a bed's cells begin; none. -/
def atW (g : Nat) (p : Int) : Option Addr := if p < 0 then none else some ⟨g, p.toNat * 4, none⟩

theorem atW_hit (g i : Nat) : atW g (i : Int) = some ⟨g, i * 4, none⟩ := by
  unfold atW
  rw [if_neg (by omega)]
  simp

theorem atW_miss (g : Nat) : atW g (-1) = none := rfl

/-- The world behind what lies ahead of the rounds. -/
abbrev fdW (w : World) (bed : Int) (rv : Option Addr) : World := ((w.alloc (.cells #[.int .i64 bed] 3)).alloc (.cells #[.pointer none] 52)).alloc (.cells #[.pointer rv] 25)

set_option maxRecDepth 100000 in
set_option maxHeartbeats 2000000 in
theorem find_core (rv : Option Addr) (g m : Nat) (bed : Int) (L : List Wb) (hm : m = L.length) (w : World) (D : Nat → Prop) (hD : ∀ k, D k → k < w.heap.size ∨ k = w.heap.size + 2)
    (HC : ∀ W, Below w.heap.size w W → ∀ t, (ht : t < L.length) → W.cell? ⟨g, t * 4, none⟩ = some (.int .i64 L[t].bed))
    (st : SeqStopsK Fence.wide 3 Try.prog 33 #[.pointer (some ⟨w.heap.size + 2, 0, none⟩)] (encP g) (KpS D) (fun xs : List (Fin m) => xs.length = m ∧ RowU xs) (fun pre => RowU pre) m (fdW w bed rv)) :
    Calls Try.prog 26 #[.pointer rv, .int .i64 bed] w fun e w' => e = .returned (.pointer (atW g (posP (isWb bed) L))) ∧ Below w.heap.size w w' := by
  refine (callsIn_wide (n := 4)).1 ?_
  refine callsIn_of_wp_marks Try.func26 rfl trivial ?_ rfl
  simp only [Try.ntmps26, List.size_toArray, List.length_cons, List.length_nil, Nat.reduceAdd, Nat.reduceSub, Array.replicate_succ, Array.replicate_zero, List.push_toArray, List.append_toArray, List.nil_append, List.cons_append]
  gi_wp2_with (refine ⟨trivial, ?_⟩; gi_at_call 29; refine (callsIn_wide.2 (wall_any rv _)).mono ?_; rintro e w' ⟨rfl, rfl⟩)
  have hmo : Try.prog.follows .mixedOrders = true := by kernel_rfl
  have c0 := cellNewS w (.int .i64 bed) 3
  have c1 := cellNewS (w.alloc (.cells #[.int .i64 bed] 3)) (.pointer none) 52
  simp only [World.size_alloc] at c1
  have d0 := cellOldS (.cells #[.pointer rv] 25) (cellOldS (.cells #[.pointer none] 52) c0.1)
  have d1 := cellOldS (.cells #[.pointer rv] 25) c1.1
  have f1 := frozenOldS (.cells #[.pointer rv] 25) c1.1 c1.2
  have hB0 : Below w.heap.size w (fdW w bed rv) := (((Below.refl _ w).alloc (Nat.le_refl _) _).alloc (by simp) _).alloc (by simp; omega) _
  have sz2 : (fdW w bed rv).heap.size = w.heap.size + 3 := by simp
  have HCH := Hid.intro HC
  clear c0 c1 HC
  simp only [Nat.add_assoc, Nat.reduceAdd]
  unfold fdW at st hB0 sz2
  generalize ((w.alloc (.cells #[.int .i64 bed] 3)).alloc (.cells #[.pointer none] 52)).alloc (.cells #[.pointer rv] 25) = W3 at st d0 d1 f1 hB0 sz2 ⊢
  refine wpIn_rangeFunc_ownF rfl (by decide) (gf := 33) (lb := #[.pointer (some ⟨w.heap.size + 2, 0, none⟩)]) rfl trivial (enters_of Try.func33 (by kernel_rfl) rfl)
    st (fun p q => KpS.t p q) (KpS.b (fun k hk => by
      rw [sz2]
      rcases hD k hk with q | q
      · omega
      · omega)) (Below.refl _ _) (fun _ => rfl)
    (fun pre W => ((∀ y ∈ pre, isWb bed (L[y.val]'(hm ▸ y.isLt)) = false) ∧ (W.cell? ⟨w.heap.size, 0, none⟩ = some (.int .i64 bed) ∧ W.cell? ⟨w.heap.size + 1, 0, none⟩ = some (.pointer none) ∧ W.frozen? ⟨w.heap.size + 1, 0, none⟩ = false)) ∧ Below w.heap.size w W)
    (fun c pre W => (c = .ret ∧ ∃ pr y, pre = pr ++ [y] ∧ (∀ y ∈ pr, isWb bed (L[y.val]'(hm ▸ y.isLt)) = false) ∧ isWb bed (L[y.val]'(hm ▸ y.isLt)) = true ∧ W.cell? ⟨w.heap.size + 1, 0, none⟩ = some (.pointer (some ⟨g, y.val * 4, none⟩))) ∧ Below w.heap.size w W)
    (OwnFrom.and (Own.from (fun s A B row hs hg hr => ⟨hs.1, cell_kept hs.2.1 hg hr, cell_kept hs.2.2.1 hg hr, (frozen_kept hs.2.2.1 hg hr).trans hs.2.2.2⟩) _) (ownFrom_below (Nat.le_refl _) (by omega)))
    (fun c => OwnFrom.and (Own.from (fun s A B row hs hg hr => by
      obtain ⟨e, pr, y, e2, p1, p2, p3⟩ := hs
      exact ⟨e, pr, y, e2, p1, p2, cell_kept p3 hg hr⟩) _) (ownFrom_below (Nat.le_refl _) (by omega)))
    ⟨⟨by simp, d0, d1, f1⟩, hB0⟩
    (fun y => { tmps := #[.pointer rv, .int .i64 bed, undef, .pointer (some ⟨w.heap.size, 0, none⟩), .pointer (some ⟨w.heap.size + 1, 0, none⟩), .pointer (some ⟨g, y.val * 4, none⟩), .pointer rv, .func (.func 33) #[] #[.pointer (some ⟨w.heap.size + 2, 0, none⟩)], .pointer (some ⟨g, y.val * 4, none⟩), undef, undef, undef, undef, undef, undef, undef], defers := [] }) ?assign ?body ?done ?stop
  case assign =>
    intro l x W K hK
    gi_wp2
    exact hK
  case body =>
    rintro l pre y W ⟨⟨hp, hb, hcr, hfr⟩, hB⟩ _
    have cb := HCH.out W hB y.val (hm ▸ y.isLt)
    have BH := Hid.intro hB
    clear hB
    by_cases h3 : isWb bed (L[y.val]'(hm ▸ y.isLt)) = true
    · have e := isWb_iff.1 h3
      rw [e] at cb
      have FI : Hid (∀ W', W' = (W.setCell ⟨w.heap.size + 1, 0, none⟩ (.pointer (some ⟨g, y.val * 4, none⟩))).drew → (∃ pr y', pre ++ [y] = pr ++ [y'] ∧ (∀ y ∈ pr, isWb bed (L[y.val]'(hm ▸ y.isLt)) = false) ∧ isWb bed (L[y'.val]'(hm ▸ y'.isLt)) = true ∧ W'.cell? ⟨w.heap.size + 1, 0, none⟩ = some (.pointer (some ⟨g, y'.val * 4, none⟩))) ∧ Below w.heap.size w W') := fun W' q => by
        subst q
        exact ⟨⟨pre, y, rfl, hp, h3, World.cell?_setCell_same' _ _ _ (by rw [hcr]; rfl)⟩, (BH.out.setCell (p := ⟨w.heap.size + 1, 0, none⟩) (by simp) _).drew⟩
      have KO : Hid (KeepsOthers W ((W.setCell ⟨w.heap.size + 1, 0, none⟩ (.pointer (some ⟨g, y.val * 4, none⟩))).drew)) := ⟨(KeepsOthers.setCell W _ _).size, (KeepsOthers.setCell W _ _).same⟩
      clear hp h3 e HCH st
      gi_wp2
      gi_region_with_o (fail)
      all_goals
        gi_wp2
        exact ⟨KO.out, ⟨rfl, (FI.out _ rfl).1⟩, (FI.out _ rfl).2⟩
    · have h3' : isWb bed (L[y.val]'(hm ▸ y.isLt)) = false := by simpa using h3
      have NX : Hid (∀ t ∈ pre ++ [y], isWb bed (L[t.val]'(hm ▸ t.isLt)) = false) := fun t ht => (List.mem_append.1 ht).elim (hp t) (fun e => by simp at e; subst e; exact h3')
      have e' : ((L[y.val]'(hm ▸ y.isLt)).bed == bed) = false := by
        rw [beq_eq_false_iff_ne]
        exact fun q => h3 (isWb_iff.2 q)
      have FI : Hid (KeepsOthers W W.drew ∧ KpS D W W.drew ∧ (W.drew.cell? ⟨w.heap.size, 0, none⟩ = some (.int .i64 bed) ∧ W.drew.cell? ⟨w.heap.size + 1, 0, none⟩ = some (.pointer none) ∧ W.drew.frozen? ⟨w.heap.size + 1, 0, none⟩ = false) ∧ Below w.heap.size w W.drew) :=
        ⟨⟨(KeepsOthers.refl W).size, (KeepsOthers.refl W).same⟩, fun _ _ => rfl, ⟨hb, hcr, hfr⟩, BH.out.drew⟩
      clear hp h3 h3' HCH st
      generalize (L[y.val]'(hm ▸ y.isLt)).bed = bd at *
      generalize y.val * 4 = o at *
      gi_wp2
      gi_region_with_o (fail)
      all_goals
        gi_wp2
        exact ⟨FI.out.1, FI.out.2.1, ⟨NX.out, FI.out.2.2.1⟩, FI.out.2.2.2⟩
  case done =>
    rintro D' ys W hD' ⟨hl, hrow⟩ ⟨⟨hne, hb, hcr, hfr⟩, hB⟩ hK
    have up := (posP_miss (p := isWb bed) (L := L) (fun j hj => hne ⟨j, hm ▸ hj⟩ (hrow.mem _ (by show j < ys.length; omega)))).1
    gi_wp2
    have hK' := (KeepsOthers.setCell W ⟨w.heap.size + 1, 0, none⟩ (.pointer none)).same D' _ hK rfl
    refine ⟨by simp, .inl ⟨_, _, rfl, run_takeDeferred hK', ?_⟩⟩
    have hc5 := cell_kept (World.cell?_setCell_same' W ⟨w.heap.size + 1, 0, none⟩ (.pointer none) (by rw [hcr]; rfl)) (grownBy_putObj' _ D' (.deferred none)) (fun r e => by cases e; exact ⟨_, hK', rfl⟩)
    have hB5 := (hB.setCell (p := ⟨w.heap.size + 1, 0, none⟩) (by simp) (.pointer none)).trans (belowK_b (w := w) (Nat.le_refl _) _ D' _ (.deferred none) (by omega) hK' rfl rfl)
    refine ⟨.pointer none, ?_, by rw [up]; rfl, hB5⟩
    simp [results, Try.f26, go_sem, hc5]
  case stop =>
    rintro D' c pre W hD' hpre ⟨⟨rfl, pr, y, rfl, p1, p2, p3⟩, hB⟩ hK
    have hy : y.val < L.length := hm ▸ y.isLt
    have up := (posP_hit (p := isWb bed) hy p2 (fun j hj hji => p1 ⟨j, hm ▸ hj⟩ (hpre.init.mem _ (by show j < pr.length; have := hpre.last; omega)))).1
    gi_wp2
    refine ⟨by simp, .inl ⟨_, _, rfl, run_takeDeferred hK, ?_⟩⟩
    have hc5 := cell_kept p3 (grownBy_putObj' W D' (.deferred none)) (fun r e => by cases e; exact ⟨_, hK, rfl⟩)
    have hB5 := hB.trans (belowK_b (w := w) (Nat.le_refl _) _ D' _ (.deferred none) (by omega) hK rfl rfl)
    refine ⟨.pointer (some ⟨g, y.val * 4, none⟩), ?_, by rw [up, atW_hit], hB5⟩
    simp [results, Try.f26, go_sem, hc5]

/-- The block that a list lies in; 0. -/
def blkW (v : Value) : Nat := v.ownBlock.getD 0

theorem wfind_any (b : Nat) (bed : Int) (S : Nat → Prop) (v : Value) (L : List Wb) (w : World) (h : WtS S w b v L) :
    Calls Try.prog 26 #[.pointer (some ⟨b, 0, none⟩), .int .i64 bed] w fun e w' => e = .returned (.pointer (atW (blkW v) (posP (isWb bed) L))) ∧ Below w.heap.size w w' := by
  have hf := h.ok.few
  have hbl := h.lt b h.inB
  obtain ⟨ao, c, rfl, hz⟩ := ownsRow_form h.own
  have hB0 : Below w.heap.size w (fdW w bed (some ⟨b, 0, none⟩)) := (((Below.refl _ w).alloc (Nat.le_refl _) _).alloc (by simp) _).alloc (by simp; omega) _
  have sz2 : (fdW w bed (some ⟨b, 0, none⟩)).heap.size = w.heap.size + 3 := by simp
  have cx := (cellNewS ((w.alloc (.cells #[.int .i64 bed] 3)).alloc (.cells #[.pointer none] 52)) (.pointer (some ⟨b, 0, none⟩)) 25).1
  simp only [World.size_alloc, Nat.add_assoc, Nat.reduceAdd] at cx
  refine find_core (some ⟨b, 0, none⟩) (blkW (.slice ao L.length c)) L.length bed L rfl w (fun k => k = w.heap.size + 2 ∨ k = b) (fun k hk => by omega) (fun W hW t ht => ?_)
    (all_stops 3 (by decide) b (w.heap.size + 2) (blkW (.slice ao L.length c)) ao c L.length (by omega) _ _ (fun k hk => by rw [sz2]; omega) (.inl rfl) (.inr rfl) cx (h.below hB0).cells.1 (fun q => ?_))
  · obtain ⟨g, rfl⟩ := hz.resolve_left (by omega)
    exact (ws_at (h.below hW).own ht).1
  · obtain ⟨g, rfl⟩ := hz.resolve_left (by omega)
    rfl

theorem wfind_nil (bed : Int) (w : World) :
    Calls Try.prog 26 #[.pointer none, .int .i64 bed] w fun e w' => e = .returned (.pointer none) ∧ Below w.heap.size w w' := by
  have cx := (cellNewS ((w.alloc (.cells #[.int .i64 bed] 3)).alloc (.cells #[.pointer none] 52)) (.pointer none) 25).1
  simp only [World.size_alloc, Nat.add_assoc, Nat.reduceAdd] at cx
  exact find_core none 0 0 bed [] rfl w (fun _ => False) (fun k hk => hk.elim) (fun W hW t ht => absurd ht (by simp))
    (all_stops_nil 3 (w.heap.size + 2) 0 _ _ (by simp) cx)

end Go.Proofs.Ytngfgahdiobcmaa
