/- Package watch: Remove. -/
import Derived.Test.YtngfgahdiobcmaaWtK4
namespace Go.Proofs.Ytngfgahdiobcmaa
open Go.RowKit
open Bt

variable {S : Nat → Prop} {w w1 ws : World} {b : Nat} {v v' : Value} {L L' : List Wb}

theorem WtS.cut (h : WtS S w b v L) (hb : Below w.heap.size w w1) (hD : DelEW w1 ws v v' L') (ok : OkWb L') :
    (ws.cell? ⟨b, 0, none⟩ = some v ∧ ws.frozen? ⟨b, 0, none⟩ = false) ∧ LeftG (WS b L') S w (ws.setCell ⟨b, 0, none⟩ v') := by
  obtain ⟨hv, hown, hC⟩ := hD
  have h1 := h.below hb
  have vb : v.ownBlock ≠ some b := row_not_block h1.own h1.head (by decide)
  have hd : ws.heap[b]? = some (.cells #[v] 56 (0, 0)) := (hC.block b (h1.lt b h1.inB) vb).trans h1.head
  have C : Chg (fun k => k = b) ws (ws.setCell ⟨b, 0, none⟩ v') := (Chg.refl _ ws).setCell (S := fun k => k = b) (p := ⟨b, 0, none⟩) (fun _ => rfl) _
  have c0 : Chg S w w1 := (below_chg hb).mono (fun _ f _ => f.elim)
  have c1 : Chg S w ws := c0.trans hC (fun k e _ => h.inV k e)
  refine ⟨⟨by rw [cell_of_row ws _ 0 _ _ _ hd]; rfl, frozen_of_row ws b 0 _ _ hd⟩, S, ⟨v', ⟨by rw [heap_setCell_same ws b 0 _ _ v' hd]; rfl, ?_, h.inB, fun k hk => h.inV k (by rw [← hv]; exact hk), fun k hk => ?_, ok⟩⟩, c1.trans C (fun k hk _ => by rw [hk]; exact h.inB), fun k hk => .inl hk⟩
  · exact ownsRow_keep hown fun k hk => C.block k (World.ownsRow.lt hown k hk).2 (fun q => row_not_block hown hd (by decide) (by rw [← q]; exact hk))
  · have := h.lt k hk
    have := c1.size
    have := C.size
    omega

theorem wrem_nil (bed : Int) (w : World) :
    Calls Try.prog 12 #[.pointer none, .int .i64 bed] w fun e w' => e = .returned (.int .i64 8) ∧ Below w.heap.size w w' := by
  have B0 := (Below.refl _ w).alloc (Nat.le_refl _) (.cells #[.int .i64 bed] 3)
  have B0H := Hid.intro B0
  have c0 := (cellNewS w (.int .i64 bed) 3).1
  have FI := Hid.intro (wfind_nil bed (w.alloc (.cells #[.int .i64 bed] 3)))
  clear B0
  go_enter Try.func12, Try.ntmps12
  go_wp2_with fail
  refine FI.out.mono ?_
  rintro e w1 ⟨rfl, B1⟩
  have BH := Hid.intro (B0H.out.trans (B1.mono B0H.out.size))
  clear FI B1 B0H c0
  go_wp2
  go_ret
  exact ⟨rfl, BH.out⟩

set_option maxRecDepth 100000 in
set_option maxHeartbeats 1000000 in
theorem wrem_in (b : Nat) (bed : Int) (S : Nat → Prop) (v : Value) (L : List Wb) (w : World) (h : WtS S w b v L) :
    Calls Try.prog 12 #[.pointer (some ⟨b, 0, none⟩), .int .i64 bed] w fun e w' => e = .returned (.int .i64 (remWe L bed)) ∧ LeftG (WS b (remWt L bed)) S w w' := by
  have B0 := (Below.refl _ w).alloc (Nat.le_refl _) (.cells #[.int .i64 bed] 3)
  have B0H := Hid.intro B0
  have c0 := (cellNewS w (.int .i64 bed) 3).1
  have FI := Hid.intro (wfind_any b bed S v L _ (h.below B0))
  have HS := Hid.intro (fun (W : World) (hW : Below w.heap.size w W) => h.same hW)
  unfold remWe
  rcases posP_ways (isWb bed) L with ⟨p1, p2, p3⟩ | ⟨i, hi, p1, p2, p3⟩
  · rw [p1, atW_miss] at FI
    rw [p2, rem_none p3]
    simp only [Option.isSome_none, Bool.false_eq_true, if_false]
    clear h p1 p2 p3 B0
    go_enter Try.func12, Try.ntmps12
    go_wp2_with fail
    refine FI.out.mono ?_
    rintro e w1 ⟨rfl, B1⟩
    have BH := Hid.intro (HS.out w1 (B0H.out.trans (B1.mono B0H.out.size)))
    clear FI B1 B0H HS c0
    go_wp2
    go_ret
    exact ⟨rfl, BH.out⟩
  · rw [p1, atW_hit] at FI
    rw [p2]
    simp only [Option.isSome_some, if_true]
    obtain ⟨ao, c, rfl, hz⟩ := ownsRow_form h.own
    have hf := h.ok.few
    have hvl : (Value.slice ao L.length c).ownBlock ≠ some w.heap.size := fun q => by
      have := h.lt _ (h.inV _ q)
      omega
    have DE : Hid (∀ W, Below w.heap.size w W → W.cell? ⟨w.heap.size, 0, none⟩ = some (.int .i64 bed) → Calls Try.prog 27 #[.slice ao L.length c, delW w.heap.size] W fun e w' => ∃ v', e = .returned v' ∧ DelEW W w' (.slice ao L.length c) v' (remWt L bed)) := fun W hW hc => wdel_any _ L (by omega) bed w.heap.size hvl W hc (h.below hW).own
    have HA := Hid.intro (fun (W : World) (hW : Below w.heap.size w W) => (h.below hW).cells.1)
    have FN := Hid.intro (fun (W ws : World) (v' : Value) (hW : Below w.heap.size w W) (hD : DelEW W ws (.slice ao L.length c) v' (remWt L bed)) => h.cut hW hD (remWt_ok h.ok bed))
    clear h p1 p2 p3 hz HS hvl B0
    generalize remWt L bed = L2 at *
    generalize blkW (.slice ao L.length c) = g at *
    generalize L.length = n at *
    go_enter Try.func12, Try.ntmps12
    go_wp2_with fail
    refine FI.out.mono ?_
    rintro e w1 ⟨rfl, B1⟩
    have B2 := B0H.out.trans (B1.mono B0H.out.size)
    have k0 := HA.out w1 B2
    have k1 := cell_chg (below_chg B1) c0 id
    have D1 := Hid.intro (DE.out w1 B2 k1)
    have F1 := Hid.intro (fun ws v' hD => FN.out w1 ws v' B2 hD)
    clear FI B1 B2 HA DE FN c0 B0H
    go_wp2_with fail
    refine D1.out.mono ?_
    rintro e w2 ⟨v', rfl, hD⟩
    obtain ⟨⟨z1, z2⟩, z3⟩ := F1.out w2 v' hD
    have Z3 := Hid.intro z3
    obtain ⟨oa, oc, e, _⟩ := ownsRow_form hD.2.1
    subst e
    clear D1 F1 hD z3 k0 k1
    go_wp2
    go_ret
    exact ⟨rfl, Z3.out⟩

theorem wrem_any (b : Nat) (bed : Int) (S : Nat → Prop) (L : List Wb) (w : World) (h : WS b L S w) :
    Calls Try.prog 12 #[.pointer (some ⟨b, 0, none⟩), .int .i64 bed] w fun e w' => e = .returned (.int .i64 (remWe L bed)) ∧ LeftG (WS b (remWt L bed)) S w w' := by
  obtain ⟨v, h⟩ := h
  exact wrem_in b bed S v L w h

end Go.Proofs.Ytngfgahdiobcmaa
