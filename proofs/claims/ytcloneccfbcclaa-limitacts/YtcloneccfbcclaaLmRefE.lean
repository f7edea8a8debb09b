/- The document's own answer of layer 14: Set. -/
import Derived.Test.YtcloneccfbcclaaLmRefD
import Derived.Test.YtcloneccfbcclaaLmRefM
import Derived.Test.YtcloneccfbcclaaLmK1
import Derived.StillTailTactics
import Derived.Deep.RegionLaw
namespace Go.Proofs.Ytcloneccfbcclaa
open Go.RowKit
open Bt

theorem left_from {P : (Nat → Prop) → World → Prop} {S : Nat → Prop} {w w1 w' : World} (hb : Below w.heap.size w w1) (h : LeftG P S w1 w') : LeftG P S w w' := by
  obtain ⟨S', h1, h2, h3⟩ := h
  have := hb.size
  exact ⟨S', h1, ((below_chg hb).mono (fun _ f _ => f.elim)).trans h2 (fun _ q _ => q), fun k hk => by
    rcases h3 k hk with q | q
    · exact .inl q
    · exact .inr (by omega)⟩

/-- The limit stands in the list, and its values not yet. -/
structure RHf (S : Nat → Prop) (w W : World) (b : Nat) (vL' vV : Value) (zs : List Rz) (l : Lm) : Prop where
  head : W.heap[b]? = some (.cells #[vL', vV] 39 (0, 0))
  ol : W.ownsRow 0 30 5 vL' (zs.length + 1) (lcells (zs.map Rz.lm ++ [l]))
  ge : ∀ k, vL'.ownBlock = some k → w.heap.size ≤ k
  ov : W.ownsRow 0 46 1 vV zs.length (zs.map Rz.v)
  iv : ∀ z ∈ zs, W.ownsRow 0 3 1 z.v z.vs.length (z.vs.map Iv)
  chg : Chg S w W

theorem RT.half {S : Nat → Prop} {w wb : World} {b : Nat} {vL vV vb : Value} {zs : List Rz} {m : Nat} {l : Lm} (h : RT S w b vL vV zs m) (hN : NewR 30 5 w.heap.size w (zs.length + 1) (lcells (zs.map Rz.lm ++ [l])) wb vb) :
    (wb.cell? ⟨b, 0, none⟩ = some vL ∧ wb.frozen? ⟨b, 0, none⟩ = false) ∧ RHf S w (wb.setCell ⟨b, 0, none⟩ vb) b vb vV zs l := by
  have h1 := h.below hN.below
  have C : Chg (fun k => k = b) wb (wb.setCell ⟨b, 0, none⟩ vb) := (Chg.refl _ wb).setCell (S := fun k => k = b) (p := ⟨b, 0, none⟩) (fun _ => rfl) _
  refine ⟨⟨h1.cells.1, h1.cells.2.2 0⟩, by rw [heap_setCell_same wb b 0 _ _ vb h1.head]; rfl, ?_, hN.ge, ?_, fun z hz => ?_, ?_⟩
  · exact ownsRow_keep hN.own fun k hk => C.block k (World.ownsRow.lt hN.own k hk).2 (fun q => row_not_block hN.own h1.head (by decide) (by rw [← q]; exact hk))
  · exact ownsRow_keep h1.ov fun k hk => C.block k (World.ownsRow.lt h1.ov k hk).2 (fun q => row_not_block h1.ov h1.head (by decide) (by rw [← q]; exact hk))
  · exact ownsRow_keep (h1.iv z hz).1 fun k hk => C.block k (World.ownsRow.lt (h1.iv z hz).1 k hk).2 (fun q => row_not_block (h1.iv z hz).1 h1.head (by decide) (by rw [← q]; exact hk))
  · exact ((below_chg hN.below).mono (fun _ f _ => f.elim)).trans C (fun k hk _ => by subst hk; exact h.inB)

theorem RHf.done {S : Nat → Prop} {w W ws : World} {b : Nat} {vL vL' vV vV' : Value} {zs : List Rz} {m : Nat} {l : Lm} (h0 : RT S w b vL vV zs m) (h : RHf S w W b vL' vV zs l) (hN : NewR 46 1 W.heap.size W (zs.length + 1) (zs.map Rz.v ++ [.slice none 0 0]) ws vV') (ok : OkT (kpsR zs ++ [⟨l, 0⟩]) m) :
    (ws.cell? ⟨b, 1, none⟩ = some vV ∧ ws.frozen? ⟨b, 1, none⟩ = false) ∧ LeftG (RB b (kpsR zs ++ [⟨l, 0⟩]) m) S w (ws.setCell ⟨b, 1, none⟩ vV') := by
  have bl : b < W.heap.size := Nat.lt_of_lt_of_le (h0.lt b h0.inB) h.chg.size
  have hd := (hN.below.block b bl).trans h.head
  have C : Chg (fun k => k = b) ws (ws.setCell ⟨b, 1, none⟩ vV') := (Chg.refl _ ws).setCell (S := fun k => k = b) (p := ⟨b, 1, none⟩) (fun _ => rfl) _
  have ol := ownsRow_keep h.ol fun k hk => hN.below.block k (World.ownsRow.lt h.ol k hk).2
  have iv := fun z hz => ownsRow_keep (h.iv z hz) fun k hk => hN.below.block k (World.ownsRow.lt (h.iv z hz) k hk).2
  have ek : kpsR (zs ++ [⟨l, [], .slice none 0 0⟩]) = kpsR zs ++ [⟨l, 0⟩] := by
    unfold kpsR
    rw [List.map_append]
    rfl
  have s1 := h.chg.size
  have s2 := hN.below.size
  have s3 := C.size
  refine ⟨⟨by rw [cell_of_row _ _ 1 _ _ _ hd]; rfl, frozen_of_row ws b 1 _ _ hd⟩, fun k => (S k ∨ w.heap.size ≤ k) ∧ k < ws.heap.size, ⟨vL', vV', zs ++ [⟨l, [], .slice none 0 0⟩], ek, ⟨by rw [heap_setCell_same ws b 1 _ _ vV' hd]; rfl, ?_, ?_, fun z hz => ?_, ⟨.inl h0.inB, by omega⟩, fun k hk => ⟨.inr (h.ge k hk), (World.ownsRow.lt ol k hk).2⟩, fun k hk => ⟨.inr (by have := hN.ge k hk; omega), (World.ownsRow.lt hN.own k hk).2⟩, fun k hk => by have := hk.2; omega, by rw [ek]; exact ok, fun z hz => ?_⟩⟩, ?_, fun k hk => hk.1⟩
  · rw [List.length_append, List.map_append]
    exact ownsRow_keep ol fun k hk => C.block k (World.ownsRow.lt ol k hk).2 (fun q => row_not_block ol hd (by decide) (by rw [← q]; exact hk))
  · rw [List.length_append, List.map_append]
    exact ownsRow_keep hN.own fun k hk => C.block k (World.ownsRow.lt hN.own k hk).2 (fun q => row_not_block hN.own hd (by decide) (by rw [← q]; exact hk))
  · rcases List.mem_append.1 hz with hz | hz
    · exact ⟨ownsRow_keep (iv z hz) fun k hk => C.block k (World.ownsRow.lt (iv z hz) k hk).2 (fun q => row_not_block (iv z hz) hd (by decide) (by rw [← q]; exact hk)), fun k hk => ⟨.inl ((h0.iv z hz).2 k hk), (World.ownsRow.lt (iv z hz) k hk).2⟩⟩
    · obtain rfl := List.mem_singleton.1 hz
      exact ⟨own_noneR _ _ _, fun k hk => by cases hk⟩
  · rcases List.mem_append.1 hz with hz | hz
    · exact h0.few z hz
    · obtain rfl := List.mem_singleton.1 hz
      exact Nat.zero_le _
  · exact (h.chg.trans (below_chg hN.below) (fun _ f _ => f.elim)).trans C (fun k hk _ => by subst hk; exact h0.inB)

set_option maxRecDepth 100000 in
set_option maxHeartbeats 4000000 in
theorem refSet14_new (b : Nat) (l : Lm) (hm : mayL l = true) (S : Nat → Prop) (vL vV : Value) (zs : List Rz) (m : Nat) (w : World) (h : RT S w b vL vV zs m) (hp : posK (kpsR zs) l.bed l.kind = -1) (hf : findK (kpsR zs) l.bed l.kind = none) (hl : zs.length < 40) :
    Calls Try.prog 17 #[.pointer (some ⟨b, 0, none⟩), Lv l] w fun e w' => e = .returned (.int .i64 0) ∧ LeftG (RB b (kpsR zs ++ [⟨l, 0⟩]) m) S w w' := by
  have OK1 := Hid.intro (new_ok h.ok hm hf (by rw [kps_len]; exact hl))
  have MY := Hid.intro (refMay14_any l)
  rw [hm] at MY
  have FI := Hid.intro (fun (W : World) (hW : Below w.heap.size w W) => refFind14_any b l.bed l.kind S vL vV zs m W (h.below hW))
  rw [hp] at FI
  have mixed : Try.prog.follows Departure.mixedOrders = true := by kernel_rfl
  have HH := Hid.intro h
  obtain ⟨x0, x1, x2, x3, x4⟩ := l
  have HB := Hid.intro ((Below.refl _ w).alloc (Nat.le_refl _) (.cells #[.int .i64 x0, .int .i64 x1, .int .i64 x2, .int .i64 x3, .int .i64 x4] 30))
  have NB := Hid.intro (limC (l := ⟨x0, x1, x2, x3, x4⟩) (heap_alloc_new w (.cells #[.int .i64 x0, .int .i64 x1, .int .i64 x2, .int .i64 x3, .int .i64 x4] 30)))
  simp only at FI
  clear h hm hp hf
  go_enter Try.func17, Try.ntmps17
  go_wp2_with fail
  refine (MY.out _).mono ?_
  rintro e w1 ⟨rfl, B1⟩
  have BW := HB.out.trans (B1.mono HB.out.size)
  have BWH := Hid.intro BW
  obtain ⟨c0, c1, c2, c3, c4⟩ := NB.out.below B1
  simp only [Nat.zero_add] at c0 c1 c2 c3 c4
  have F1 := Hid.intro (FI.out w1 BW)
  have LB : Hid (w.heap.size < w1.heap.size) := by
    have := B1.size
    simp at this
    show _ < _
    omega
  clear MY B1 BW HB FI NB
  go_wp2_with fail
  refine F1.out.mono ?_
  rintro e w2 ⟨rfl, rfl⟩
  clear F1
  have H1 := HH.out.below BWH.out
  have H1H := Hid.intro H1
  have k0 := H1.cells.1
  have k1 := H1.cells.2.1
  obtain ⟨aL, cL, hvL, _⟩ := ownsRow_form H1.ol
  subst hvL
  obtain ⟨aV, cV, hvV, _⟩ := ownsRow_form H1.ov
  subst hvV
  have S1 := Hid.intro (fun (W : World) (hW : Below w1.heap.size w1 W) => src_own (H1H.out.below hW).ol)
  have BD := Hid.intro ((Below.refl w1.heap.size w1).drew)
  have LEN := Hid.intro (lcells_append (zs.map Rz.lm) [⟨x0, x1, x2, x3, x4⟩])
  have NL : Hid ((lcells [(⟨x0, x1, x2, x3, x4⟩ : Lm)]).length = 1 * 5) := by rw [Hid, lcells_length]; rfl
  have HAL : Hid (∀ (vb : Value) (wb : World), NewR 30 5 w1.heap.size w1 (zs.length + 1) (lcells (zs.map Rz.lm) ++ lcells [⟨x0, x1, x2, x3, x4⟩]) wb vb → (wb.cell? ⟨b, 0, none⟩ = some (.slice aL zs.length cL) ∧ wb.frozen? ⟨b, 0, none⟩ = false) ∧ RHf S w1 (wb.setCell ⟨b, 0, none⟩ vb) b vb (.slice aV zs.length cV) zs ⟨x0, x1, x2, x3, x4⟩) := fun vb wb hN => by
    rw [← LEN.out] at hN
    exact H1H.out.half hN
  have DN : Hid (∀ (W ws : World) (vL' vV' : Value), RHf S w1 W b vL' (.slice aV zs.length cV) zs ⟨x0, x1, x2, x3, x4⟩ → NewR 46 1 W.heap.size W (zs.length + 1) (zs.map Rz.v ++ [.slice none 0 0]) ws vV' → (ws.cell? ⟨b, 1, none⟩ = some (.slice aV zs.length cV) ∧ ws.frozen? ⟨b, 1, none⟩ = false) ∧ LeftG (RB b (kpsR zs ++ [⟨⟨x0, x1, x2, x3, x4⟩, 0⟩]) m) S w (ws.setCell ⟨b, 1, none⟩ vV')) := fun W ws vL' vV' hh hN => ⟨(RHf.done H1H.out hh hN OK1.out).1, left_from BWH.out (RHf.done H1H.out hh hN OK1.out).2⟩
  have SV : Hid (∀ (W : World) (vL' : Value), RHf S w1 W b vL' (.slice aV zs.length cV) zs ⟨x0, x1, x2, x3, x4⟩ → SrcV (W.alloc (.cells #[] 46)) 1 (.slice aV zs.length cV) zs.length (zs.map Rz.v)) := fun W vL' hh => src_own (ownsRow_keep hh.ov fun k hk => alloc_keepR (World.ownsRow.lt hh.ov k hk).2)
  have ONV := Hid.intro (rz_one (l := zs) (w := w1) (fun z hz => ⟨_, _, (H1H.out.iv z hz).1⟩))
  have ELL := Hid.intro elem_lim
  have ELS := Hid.intro elem_sl
  have hl2 : ¬ (40 : Int) ≤ (zs.length : Int) := by omega
  obtain ⟨n, hn⟩ : ∃ n, n = zs.length := ⟨_, rfl⟩
  rw [← hn] at k0 k1 S1 HAL hl hl2 DN SV
  have HN := Hid.intro hn
  clear hn
  generalize hlb : w.heap.size = lb at c0 c1 c2 c3 c4 ⊢
  have HLB := Hid.intro hlb
  generalize hxs : lcells (zs.map Rz.lm) = xs at S1 HAL
  have HXS := Hid.intro hxs
  have ONE := Hid.intro (show ∀ u ∈ xs, u.oneCell' = true from by rw [← hxs]; exact lcells_onecell _)
  have LA : Hid (∀ W, Below w1.heap.size w1 W → W.cell? ⟨lb, 0, none⟩ = some (.int .i64 x0) ∧ W.cell? ⟨lb, 1, none⟩ = some (.int .i64 x1) ∧ W.cell? ⟨lb, 2, none⟩ = some (.int .i64 x2) ∧ W.cell? ⟨lb, 3, none⟩ = some (.int .i64 x3) ∧ W.cell? ⟨lb, 4, none⟩ = some (.int .i64 x4)) := fun W hW => ⟨(hW.cell (cell_lt c0)).trans c0, (hW.cell (cell_lt c1)).trans c1, (hW.cell (cell_lt c2)).trans c2, (hW.cell (cell_lt c3)).trans c3, (hW.cell (cell_lt c4)).trans c4⟩
  have BE := bel_allocR (Below.refl w1.heap.size w1) (Nat.le_refl _) (.cells #[] 30)
  have BF := bel_allocR (Below.refl w1.heap.size w1) (Nat.le_refl _) (.cells #[.int .i64 x0, .int .i64 x1, .int .i64 x2, .int .i64 x3, .int .i64 x4] 30)
  have BEF := bel_allocR BE (Nat.le_refl _) (.cells #[.int .i64 x0, .int .i64 x1, .int .i64 x2, .int .i64 x3, .int .i64 x4] 30)
  have BFE := bel_allocR BF (Nat.le_refl _) (.cells #[] 30)
  have kE := (BE.cell (cell_lt k0)).trans k0
  have kF := (BF.cell (cell_lt k0)).trans k0
  have kEF := (BEF.cell (cell_lt k0)).trans k0
  have kFE := (BFE.cell (cell_lt k0)).trans k0
  obtain ⟨d0, d1, d2, d3, d4⟩ := LA.out _ BE
  clear H1 hlb hxs LEN BE BF BEF BFE
  go_wp2_with fail
  go_region_law (first
    | (have _ := QF; refine step_append_row (by rfl) _ _ ELL.out (by rfl) va n xs (by rfl) (ownsRow_keep QF.own (fun k hk => alloc_keepR (World.ownsRow.lt QF.own k hk).2)) (.slice (some ⟨wa.heap.size, 0, none⟩) 1 1) 1 (lcells [⟨x0, x1, x2, x3, x4⟩]) (by rfl) (src_block (alloc_atR rfl) NL.out) (lcells_onecell _) (by omega) ?_; intro vb wb hown hgrow hat; have QG := newR QF.ge (bel_allocR QF.below (Nat.le_refl _) _) (Nat.le_refl _) hown hgrow hat; obtain ⟨⟨z1, z2⟩, z3⟩ := HAL.out vb wb QG; have Z3 := Hid.intro z3; obtain ⟨ao', cc', hv', _⟩ := ownsRow_form hown; subst hv'; clear hown hgrow hat QF QG z3)
    | (have _ := QF; refine step_append_row (by rfl) _ _ ELL.out (by rfl) va n xs (by rfl) QF.own (.slice (some ⟨w1.heap.size + 1, 0, none⟩) 1 1) 1 (lcells [⟨x0, x1, x2, x3, x4⟩]) (by rfl) (src_block (QF.keep _ _ (by first | exact alloc_atR (by simp) | exact alloc_farR (alloc_atR (by simp))) (by simp [lcells, lcell])) NL.out) (lcells_onecell _) (by omega) ?_; intro vb wb hown hgrow hat; have QG := newR QF.ge QF.below (Nat.le_refl _) hown hgrow hat; obtain ⟨⟨z1, z2⟩, z3⟩ := HAL.out vb wb QG; have Z3 := Hid.intro z3; obtain ⟨ao', cc', hv', _⟩ := ownsRow_form hown; subst hv'; clear hown hgrow hat QF QG z3)
    | (have _ := QF; refine step_append_row (by rfl) _ _ ELL.out (by rfl) va n xs (by rfl) QF.own (.slice (some ⟨w1.heap.size, 0, none⟩) 1 1) 1 (lcells [⟨x0, x1, x2, x3, x4⟩]) (by rfl) (src_block (QF.keep _ _ (by first | exact alloc_atR (by simp) | exact alloc_farR (alloc_atR (by simp))) (by simp [lcells, lcell])) NL.out) (lcells_onecell _) (by omega) ?_; intro vb wb hown hgrow hat; have QG := newR QF.ge QF.below (Nat.le_refl _) hown hgrow hat; obtain ⟨⟨z1, z2⟩, z3⟩ := HAL.out vb wb QG; have Z3 := Hid.intro z3; obtain ⟨ao', cc', hv', _⟩ := ownsRow_form hown; subst hv'; clear hown hgrow hat QF QG z3)
    | (refine step_append_row (by rfl) _ _ ELL.out (by rfl) _ 0 [] (by rfl) (own_emptyR (by first | exact alloc_atR (by simp) | exact alloc_farR (alloc_atR (by simp)))) (.slice aL n cL) n xs (by rfl) (S1.out _ (by first | exact BD.out | exact bel_allocR BD.out (Nat.le_refl _) _ | exact bel_allocR (bel_allocR BD.out (Nat.le_refl _) _) (Nat.le_refl _) _)) ONE.out (by omega) ?_; intro va wa hown hgrow hat; have QF := apF (H := w1.heap.size) (w0 := w1) (by first | exact alloc_atR (by simp) | exact alloc_farR (alloc_atR (by simp))) (by first | (dsimp only; omega) | (simp; done)) (by first | exact BD.out | exact bel_allocR BD.out (Nat.le_refl _) _ | exact bel_allocR (bel_allocR BD.out (Nat.le_refl _) _) (Nat.le_refl _) _) (Nat.le_refl _) hown hgrow hat; obtain ⟨y0, y1, y2, y3, y4⟩ := LA.out _ QF.below; clear hown hgrow hat)
    | fail)
  all_goals
    have k6 : (wb.setCell ⟨b, 0, none⟩ (.slice ao' (n + 1) cc')).cell? ⟨b, 1, none⟩ = some (.slice aV n cV) := by rw [cell_of_row _ _ 1 _ _ _ Z3.out.head]; rfl
    have SVV := Hid.intro (SV.out _ _ Z3.out)
    have DNN := Hid.intro (fun ws vV' => DN.out _ ws _ vV' Z3.out)
    clear z1 z2 Z3 y0 y1 y2 y3 y4 c0 c1 c2 c3 c4 d0 d1 d2 d3 d4 kE kF kEF kFE k0 k1 HAL DN SV LA S1 BD
    generalize wb.setCell ⟨b, 0, none⟩ (.slice ao' (n + 1) cc') = w6 at *
    have kA : (w6.alloc (.cells #[] 46)).cell? ⟨b, 1, none⟩ = some (.slice aV n cV) := ((bel_allocR (Below.refl w6.heap.size w6) (Nat.le_refl _) _).cell (cell_lt k6)).trans k6
    go_wp2_with (first
      | (have _ := QF; refine append_row (by rfl) _ _ ELS.out (by rfl) va n (zs.map Rz.v) (by rfl) (ownsRow_keep QF.own (fun k hk => alloc_keepR (World.ownsRow.lt QF.own k hk).2)) (.slice (some ⟨wa.heap.size, 0, none⟩) 1 1) 1 [.slice none 0 0] (by rfl) (src_block (ys := [.slice none 0 0]) (heap_alloc_new wa _) rfl) (fun z hz => by rw [List.mem_singleton.1 hz]; rfl) (by omega) ?_; intro vb wb hown hgrow hat; have QG := newR QF.ge (bel_allocR QF.below (Nat.le_refl _) _) (Nat.le_refl _) hown hgrow hat; obtain ⟨⟨q1, q2⟩, q3⟩ := DNN.out wb vb QG; have FIN := Hid.intro q3; obtain ⟨ao8, cc8, hv', _⟩ := ownsRow_form hown; subst hv'; clear hown hgrow hat QF QG q3)
      | (refine append_row (by rfl) _ _ ELS.out (by rfl) (.slice (some ⟨w6.heap.size, 0, none⟩) 0 0) 0 [] (by rfl) (own_emptyR (heap_alloc_new w6 _)) (.slice aV n cV) n (zs.map Rz.v) (by rfl) SVV.out ONV.out (by omega) ?_; intro va wa hown hgrow hat; have QF := apF (H := w6.heap.size) (w0 := w6) (heap_alloc_new w6 _) (Nat.le_refl _) (bel_allocR (Below.refl _ w6) (Nat.le_refl _) _) (Nat.le_refl _) hown hgrow hat; clear hown hgrow hat)
      | fail)
    go_ret
    exact ⟨rfl, FIN.out⟩

end Go.Proofs.Ytcloneccfbcclaa
