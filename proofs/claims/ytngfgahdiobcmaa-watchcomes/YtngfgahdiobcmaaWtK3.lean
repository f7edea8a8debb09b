/- Package watch: Add. -/
import Derived.Test.YtngfgahdiobcmaaWtK2
namespace Go.Proofs.Ytngfgahdiobcmaa
open Go.RowKit
open Bt

variable {S : Nat → Prop} {w w1 ws : World} {b : Nat} {v v' : Value} {L L' : List Wb}

/-- Its list has grown by an append, and is stored anew. -/
theorem WtS.grew (h : WtS S w b v L) (hb : Below w.heap.size w w1) (hown : ws.ownsRow 0 58 4 v' L'.length (wcells15 L')) (hgrow : w1.grownBy ws v.ownBlock) (hat : v'.ownBlock = v.ownBlock ∨ v'.ownBlock = some w1.heap.size) (ok : OkWb L') :
    (ws.cell? ⟨b, 0, none⟩ = some v ∧ ws.frozen? ⟨b, 0, none⟩ = false) ∧ LeftG (WS b L') S w (ws.setCell ⟨b, 0, none⟩ v') := by
  have h1 := h.below hb
  have vb : v.ownBlock ≠ some b := row_not_block h1.own h1.head (by decide)
  have hd : ws.heap[b]? = some (.cells #[v] 56 (0, 0)) := (hgrow.block b (h1.lt b h1.inB) (fun e => vb e.symm)).trans h1.head
  have C : Chg (fun k => k = b) ws (ws.setCell ⟨b, 0, none⟩ v') := (Chg.refl _ ws).setCell (S := fun k => k = b) (p := ⟨b, 0, none⟩) (fun _ => rfl) _
  have c0 : Chg S w w1 := (below_chg hb).mono (fun _ f _ => f.elim)
  have c1 : Chg S w ws := c0.grown hgrow (fun k e _ => h.inV k e)
  have s1 := hb.size
  have s2 := hgrow.size
  have s3 := C.size
  refine ⟨⟨by rw [cell_of_row ws _ 0 _ _ _ hd]; rfl, frozen_of_row ws b 0 _ _ hd⟩, fun k => (S k ∨ w.heap.size ≤ k) ∧ k < ws.heap.size, ⟨v', ⟨by rw [heap_setCell_same ws b 0 _ _ v' hd]; rfl, ?_, ⟨.inl h.inB, by have := h.lt b h.inB; omega⟩, fun k hk => ⟨?_, (World.ownsRow.lt hown k hk).2⟩, fun k hk => by have := hk.2; omega, ok⟩⟩, c1.trans C (fun k hk _ => by rw [hk]; exact h.inB), fun k hk => hk.1⟩
  · exact ownsRow_keep hown fun k hk => C.block k (World.ownsRow.lt hown k hk).2 (fun q => row_not_block hown hd (by decide) (by rw [← q]; exact hk))
  · rcases hat with q | q
    · exact .inl (h.inV k (by rw [← q]; exact hk))
    · rw [hk] at q
      have e : k = w1.heap.size := by simpa using q
      exact .inr (by omega)

theorem wadd_nil (bed most now : Int) (w : World) :
    Calls Try.prog 11 #[.pointer none, .int .i64 bed, .int .i64 most, .int .i64 now] w fun e w' => e = .returned (.int .i64 1) ∧ Below w.heap.size w w' := by
  go_enter Try.func11, Try.ntmps11
  go_wp2
  go_ret
  exact ⟨rfl, Below.refl _ _⟩

set_option maxRecDepth 100000 in
set_option maxHeartbeats 1000000 in
theorem wadd_in (b : Nat) (bed most now : Int) (ht : timeWb now) (S : Nat → Prop) (v : Value) (L : List Wb) (w : World) (h : WtS S w b v L) :
    Calls Try.prog 11 #[.pointer (some ⟨b, 0, none⟩), .int .i64 bed, .int .i64 most, .int .i64 now] w fun e w' => e = .returned (.int .i64 (addWe L bed most)) ∧ LeftG (WS b (addWt L bed most now)) S w w' := by
  have WI := Hid.intro (wwithin_any most 1 1000 w)
  have ok := addWt_ok h.ok bed most now ht
  unfold addWt at ok ⊢
  unfold addWe at ok ⊢
  by_cases hm : mostWb most = true
  · simp only [if_pos hm] at ok ⊢
    change Hid (Calls Try.prog _ _ w fun e w' => e = .returned (.bool (mostWb most)) ∧ w = w') at WI
    rw [hm] at WI
    have FI := Hid.intro (wfind_any b bed S v L w h)
    rcases posP_ways (isWb bed) L with ⟨p1, p2, p3⟩ | ⟨i, hi, p1, p2, p3⟩
    · rw [p1, atW_miss] at FI
      rw [p2] at ok ⊢
      simp only [Option.isSome_none, Bool.false_eq_true, if_false] at ok ⊢
      obtain ⟨ao, c, rfl, hz⟩ := ownsRow_form h.own
      have hf := h.ok.few
      by_cases h8 : 8 ≤ L.length
      · simp only [if_pos h8] at ok ⊢
        have HS := Hid.intro (fun (W : World) (hW : Below w.heap.size w W) => h.same hW)
        have HA := Hid.intro (fun (W : World) (hW : Below w.heap.size w W) => (h.below hW).cells.1)
        have n8 : (8 : Int) ≤ (L.length : Int) := by omega
        clear h p1 p2 p3 hz ok hm
        generalize L.length = n at *
        go_enter Try.func11, Try.ntmps11
        go_wp2_with fail
        refine WI.out.mono ?_
        rintro e w1 ⟨rfl, rfl⟩
        clear WI
        go_wp2_with fail
        refine FI.out.mono ?_
        rintro e w1 ⟨rfl, B1⟩
        have c0 := HA.out w1 B1
        have BH := Hid.intro (HS.out w1 B1)
        clear FI B1 HS HA
        go_wp2
        go_ret
        exact ⟨rfl, BH.out⟩
      · simp only [if_neg h8, if_true] at ok ⊢
        have HA := Hid.intro (fun (W : World) (hW : Below w.heap.size w W) => (h.below hW).cells.1)
        have EL := Hid.intro elem_ws15
        have OW : Hid (∀ W, Below w.heap.size w W → (W.alloc (.cells #[.int .i64 bed, .int .i64 most, .int .i64 now, .bool false] 58)).ownsRow 0 58 4 (.slice ao L.length c) L.length (wcells15 L)) := fun W hW => (h.below (hW.trans (((Below.refl _ W).alloc (Nat.le_refl _) _).mono hW.size))).own
        have GR : Hid (∀ W, Below w.heap.size w W → ∀ v' ws, ws.ownsRow 0 58 4 v' (L.length + 1) (wcells15 L ++ wcells15 [⟨bed, most, now, false⟩]) → (W.alloc (.cells #[.int .i64 bed, .int .i64 most, .int .i64 now, .bool false] 58)).grownBy ws (Value.slice ao L.length c).ownBlock → (v'.ownBlock = (Value.slice ao L.length c).ownBlock ∨ v'.ownBlock = some (W.alloc (.cells #[.int .i64 bed, .int .i64 most, .int .i64 now, .bool false] 58)).heap.size) → (ws.cell? ⟨b, 0, none⟩ = some (.slice ao L.length c) ∧ ws.frozen? ⟨b, 0, none⟩ = false) ∧ LeftG (WS b (L ++ [⟨bed, most, now, false⟩])) S w (ws.setCell ⟨b, 0, none⟩ v')) := fun W hW v' ws o1 o2 o3 => by
          refine h.grew (hW.trans (((Below.refl _ W).alloc (Nat.le_refl _) _).mono hW.size)) ?_ o2 o3 ok
          rw [← wcells15_append] at o1
          rw [List.length_append]
          exact o1
        have SR : Hid (∀ W : World, SrcV (W.alloc (.cells #[.int .i64 bed, .int .i64 most, .int .i64 now, .bool false] 58)) 4 (.slice (some ⟨W.heap.size, 0, none⟩) 1 1) 1 (wcells15 [⟨bed, most, now, false⟩])) := fun W => src_block (ys := wcells15 [⟨bed, most, now, false⟩]) (heap_alloc_new W _) rfl
        have n8 : ¬ (8 : Int) ≤ (L.length : Int) := by omega
        clear h p1 p2 p3 hz ok hm h8
        generalize L ++ [⟨bed, most, now, false⟩] = L2 at *
        generalize wcells15 L = xs at *
        generalize L.length = n at *
        go_enter Try.func11, Try.ntmps11
        go_wp2_with fail
        refine WI.out.mono ?_
        rintro e w1 ⟨rfl, rfl⟩
        clear WI
        go_wp2_with fail
        refine FI.out.mono ?_
        rintro e w1 ⟨rfl, B1⟩
        have c0 := HA.out w1 B1
        have OW1 := Hid.intro (OW.out w1 B1)
        have GR1 := Hid.intro (GR.out w1 B1)
        clear FI B1 HA OW GR
        go_wp2_with (at_builtin; refine append_row (by rfl) _ _ EL.out (by rfl) (.slice ao n c) n xs (by rfl) OW1.out (.slice (some ⟨w1.heap.size, 0, none⟩) 1 1) 1 (wcells15 [⟨bed, most, now, false⟩]) (by rfl) (SR.out w1) (wcells15_onecell _) (by omega) ?_; intro v' wb hown hgrow hat; obtain ⟨⟨z1, z2⟩, z3⟩ := GR1.out v' wb hown hgrow hat; have Z3 := Hid.intro z3; obtain ⟨oa, oc, e, _⟩ := ownsRow_form hown; subst e; clear hown hgrow hat z3)
        go_ret
        exact ⟨rfl, Z3.out⟩
    · rw [p1, atW_hit] at FI
      rw [p2] at ok ⊢
      simp only [Option.isSome_some, if_true] at ok ⊢
      have HS := Hid.intro (fun (W : World) (hW : Below w.heap.size w W) => h.same hW)
      clear h p1 p2 p3 ok hm
      generalize blkW v = g at *
      rw [if_neg (by decide)]
      go_enter Try.func11, Try.ntmps11
      go_wp2_with fail
      refine WI.out.mono ?_
      rintro e w1 ⟨rfl, rfl⟩
      clear WI
      go_wp2_with fail
      refine FI.out.mono ?_
      rintro e w1 ⟨rfl, B1⟩
      have BH := Hid.intro (HS.out w1 B1)
      clear FI B1 HS
      go_wp2
      go_ret
      exact ⟨rfl, BH.out⟩
  · simp only [if_neg hm] at ok ⊢
    change Hid (Calls Try.prog _ _ w fun e w' => e = .returned (.bool (mostWb most)) ∧ w = w') at WI
    have hm' : mostWb most = false := by simpa using hm
    rw [hm'] at WI
    rw [if_neg (by decide)]
    have HS := Hid.intro (h.same (Below.refl _ w))
    clear h ok hm hm'
    go_enter Try.func11, Try.ntmps11
    go_wp2_with fail
    refine WI.out.mono ?_
    rintro e w1 ⟨rfl, rfl⟩
    clear WI
    go_wp2
    go_ret
    exact ⟨rfl, HS.out⟩

theorem wadd_any (b : Nat) (bed most now : Int) (ht : timeWb now) (S : Nat → Prop) (L : List Wb) (w : World) (h : WS b L S w) :
    Calls Try.prog 11 #[.pointer (some ⟨b, 0, none⟩), .int .i64 bed, .int .i64 most, .int .i64 now] w fun e w' => e = .returned (.int .i64 (addWe L bed most)) ∧ LeftG (WS b (addWt L bed most now)) S w w' := by
  obtain ⟨v, h⟩ := h
  exact wadd_in b bed most now ht S v L w h

end Go.Proofs.Ytngfgahdiobcmaa
