/- The document's own answer of layer 15: Add. -/
import Derived.Test.YtngfgahdiobcmaaWtRefB
namespace Go.Proofs.Ytngfgahdiobcmaa
open Go.RowKit
open Bt

theorem wb_cells (x : Wb) : wcells15 [x] = [.int .i64 x.bed, .int .i64 x.most, .int .i64 x.last, .bool x.lost] := rfl

set_option maxRecDepth 100000 in
set_option maxHeartbeats 2000000 in
theorem refAdd15_any (b : Nat) (bed most now : Int) (ht : timeWb now) (S : Nat → Prop) (L : List Wb) (w : World) (h : WR b L S w) :
    Calls Try.prog 18 #[.pointer (some ⟨b, 0, none⟩), .int .i64 bed, .int .i64 most, .int .i64 now] w fun e w' => e = .returned (.int .i64 (addWe L bed most)) ∧ LeftG (WR b (addWt L bed most now)) S w w' := by
  obtain ⟨v, h⟩ := h
  have ok := addWt_ok h.ok bed most now ht
  have HS := Hid.intro (h.same (Below.refl _ w))
  unfold addWt at ok ⊢
  unfold addWe at ok ⊢
  by_cases hm : mostWb most = true
  · simp only [if_pos hm] at ok ⊢
    have hm1 := mostWb_true hm
    have m1 : ¬ most < 1 := by omega
    have m2 : ¬ 1000 < most := by omega
    have FI := Hid.intro (refFind15_any b bed S v L w h)
    rcases posP_ways (isWb bed) L with ⟨p1, p2, p3⟩ | ⟨i, hi, p1, p2, p3⟩
    · rw [p1] at FI
      rw [p2] at ok ⊢
      simp only [Option.isSome_none, Bool.false_eq_true, if_false] at ok ⊢
      have k0 := h.cells.1
      obtain ⟨ao, c, rfl, hz⟩ := ownsRow_form h.own
      have hf := h.ok.few
      by_cases h8 : 8 ≤ L.length
      · simp only [if_pos h8] at ok ⊢
        have n8 : (8 : Int) ≤ (L.length : Int) := by omega
        clear h p1 p2 p3 hz ok hm hm1
        generalize L.length = n at *
        go_enter Try.func18, Try.ntmps18
        go_wp2_with fail
        refine FI.out.mono ?_
        rintro e w1 ⟨rfl, rfl⟩
        clear FI
        go_wp2
        go_ret
        exact ⟨rfl, HS.out⟩
      · simp only [if_neg h8, if_true] at ok ⊢
        have n8 : ¬ (8 : Int) ≤ (L.length : Int) := by omega
        have SV : Hid (SrcV (w.alloc (.cells #[] 66)) 4 (.slice ao L.length c) L.length (wcells15 L)) := src_own (ownsRow_keep h.own fun k hk => alloc_keepR (World.ownsRow.lt h.own k hk).2)
        have FN : Hid (∀ vb wb, NewR 66 4 w.heap.size w (L.length + 1) (wcells15 L ++ wcells15 [⟨bed, most, now, false⟩]) wb vb → (wb.cell? ⟨b, 0, none⟩ = some (.slice ao L.length c) ∧ wb.frozen? ⟨b, 0, none⟩ = false) ∧ LeftG (WR b (L ++ [⟨bed, most, now, false⟩])) S w (wb.setCell ⟨b, 0, none⟩ vb)) := fun vb wb hN => by
          rw [← wcells15_append] at hN
          exact h.laid hN (by simp) ok
        have kA : (w.alloc (.cells #[] 66)).cell? ⟨b, 0, none⟩ = some (.slice ao L.length c) := ((bel_allocR (Below.refl w.heap.size w) (Nat.le_refl _) _).cell (cell_lt k0)).trans k0
        have ELS := Hid.intro elem_wb15
        have ONV := Hid.intro (wcells15_onecell L)
        clear h p1 p2 p3 hz ok hm hm1 h8 HS
        generalize L ++ [⟨bed, most, now, false⟩] = L2 at *
        generalize wcells15 L = xs at *
        generalize L.length = n at *
        go_enter Try.func18, Try.ntmps18
        go_wp2_with fail
        refine FI.out.mono ?_
        rintro e w1 ⟨rfl, rfl⟩
        clear FI
        go_wp2_with (first
          | (have _ := QF; at_builtin; refine append_row (by rfl) _ _ ELS.out (by rfl) va n xs (by rfl) (ownsRow_keep QF.own (fun k hk => alloc_keepR (World.ownsRow.lt QF.own k hk).2)) (.slice (some ⟨wa.heap.size, 0, none⟩) 1 1) 1 (wcells15 [⟨bed, most, now, false⟩]) (by rfl) (src_block (ys := wcells15 [⟨bed, most, now, false⟩]) (heap_alloc_new wa _) rfl) (wcells15_onecell _) (by omega) ?_; intro vb wb hown hgrow hat; have QG := newR QF.ge (bel_allocR QF.below (Nat.le_refl _) _) (Nat.le_refl _) hown hgrow hat; obtain ⟨⟨q1, q2⟩, q3⟩ := FN.out vb wb QG; have FIN := Hid.intro q3; obtain ⟨ao8, cc8, hv', _⟩ := ownsRow_form hown; subst hv'; clear hown hgrow hat QF QG q3)
          | (at_builtin; refine append_row (by rfl) _ _ ELS.out (by rfl) (.slice (some ⟨w.heap.size, 0, none⟩) 0 0) 0 [] (by rfl) (own_emptyR (heap_alloc_new w _)) (.slice ao n c) n xs (by rfl) SV.out ONV.out (by omega) ?_; intro va wa hown hgrow hat; have QF := apF (H := w.heap.size) (w0 := w) (heap_alloc_new w _) (Nat.le_refl _) (bel_allocR (Below.refl _ w) (Nat.le_refl _) _) (Nat.le_refl _) hown hgrow hat; clear hown hgrow hat)
          | fail)
        go_ret
        exact ⟨rfl, FIN.out⟩
    · rw [p1] at FI
      rw [p2] at ok ⊢
      simp only [Option.isSome_some, if_true] at ok ⊢
      rw [if_neg (by decide)]
      have i0 : (0 : Int) ≤ (i : Int) := by omega
      clear h p1 p2 p3 ok hm hm1
      go_enter Try.func18, Try.ntmps18
      go_wp2_with fail
      refine FI.out.mono ?_
      rintro e w1 ⟨rfl, rfl⟩
      clear FI
      go_wp2
      go_ret
      exact ⟨rfl, HS.out⟩
  · simp only [if_neg hm] at ok ⊢
    have hm' : mostWb most = false := by simpa using hm
    have hm1 := mostWb_false hm'
    rw [if_neg (by decide)]
    clear h ok hm hm'
    by_cases q : most < 1
    · go_enter Try.func18, Try.ntmps18
      go_wp2
      go_ret
      exact ⟨rfl, HS.out⟩
    · have q2 : 1000 < most := by omega
      clear hm1
      go_enter Try.func18, Try.ntmps18
      go_wp2
      go_ret
      exact ⟨rfl, HS.out⟩

end Go.Proofs.Ytngfgahdiobcmaa
