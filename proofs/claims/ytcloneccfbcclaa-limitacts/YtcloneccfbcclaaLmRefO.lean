/- The document's own answer of layer 14: On. -/
import Derived.Test.YtcloneccfbcclaaLmRefB
namespace Go.Proofs.Ytcloneccfbcclaa
open Go.RowKit
open Bt

set_option maxRecDepth 100000 in
set_option maxHeartbeats 2000000 in
theorem refOn14_any (b : Nat) (bed kind : Int) (S : Nat → Prop) (vL vV : Value) (zs : List Rz) (m : Nat) (hm : m ≤ 100000) (w : World) (h : RT S w b vL vV zs m) :
    Calls Try.prog 23 #[.pointer (some ⟨b, 0, none⟩), .int .i64 bed, .int .i64 kind] w fun e w' => e = .returned (.bool (onK (kpsR zs) bed kind)) ∧ Below w.heap.size w w' := by
  have FI := Hid.intro (refFind14_any b bed kind S vL vV zs m w h)
  rcases posK_ways (kpsR zs) bed kind with ⟨e1, e2⟩ | ⟨i, hi, e1, e2, e9⟩
  · have e3 : onK (kpsR zs) bed kind = false := by simp [onK, e2]
    rw [e3]
    rw [e1] at FI
    clear h e1 e2 e3
    go_enter Try.func23, Try.ntmps23
    go_wp2_with fail
    refine FI.out.mono ?_
    rintro e w2 ⟨rfl, rfl⟩
    go_wp2_with fail
    go_quiet (fail)
    go_wp2
    go_ret
    exact ⟨rfl, ⟨rfl, rfl, rfl, Nat.le_refl _, fun _ _ => rfl⟩⟩
  · obtain ⟨hz, e3, e8⟩ := bey_at e2
    have BY := Hid.intro (refBey14_any b bed kind S vL vV zs m hm w.drew (h.below (w' := w.drew) (Below.refl _ _).drew))
    rw [e3] at BY
    rw [e8]
    rw [e1] at FI
    clear e1 e2 e3 e8 e9
    have hf := h.ok.few
    rw [kps_len] at hf
    have hv := h.few zs[i] (List.getElem_mem hz)
    have OL := outN_le zs[i].lm zs[i].vs
    obtain ⟨aL, cL, rfl, zL⟩ := ownsRow_form h.ol
    obtain ⟨gL, rfl⟩ := zL.resolve_left (by omega)
    have KK := Hid.intro (fun (W : World) (hW : Below w.heap.size w W) => (show W.cell? ⟨b, 0, none⟩ = some (.slice (some ⟨gL, 0, none⟩) zs.length cL) ∧ W.cell? ⟨gL, i * 5 + 4, none⟩ = some (.int .i64 zs[i].lm.cnt) from ⟨(h.below hW).cells.1, ((h.below hW).limAt hz rfl).2.2.2.2⟩))
    generalize outN zs[i].lm zs[i].vs = O at *
    generalize zs[i].lm.cnt = ct at *
    have i0 : (0 : Int) ≤ (i : Int) := by omega
    have i1 : (i : Int) < (zs.length : Int) := by omega
    have OB : O ≤ 100000 := by omega
    clear h zL hz hv OL
    generalize zs.length = n at *
    have k0 := KK.out w (Below.refl _ _)
    obtain ⟨k1, k2⟩ := k0
    clear hi
    go_enter Try.func23, Try.ntmps23
    go_wp2_with fail
    refine FI.out.mono ?_
    rintro e w2 ⟨rfl, rfl⟩
    clear FI
    go_wp2_with fail
    go_region_held3 (fun W => W.cell? ⟨b, 0, none⟩ = some (.slice (some ⟨gL, 0, none⟩) n cL) ∧ W.cell? ⟨gL, i * 5 + 4, none⟩ = some (.int .i64 ct))
      (first | exact KK.out _ E4 | go_keep)
      (first
        | (go_at_call 24; refine BY.out.mono ?_; rintro e w4 ⟨rfl, B4⟩; have E4 : Below w.heap.size w w4 := ((Below.refl _ w).drew).trans B4; clear B4)
        | fail)
    all_goals
      have E4H := Hid.intro E4
      clear E4 KK BY k1 k2
      go_wp2
      go_ret
      exact ⟨rfl, E4H.out⟩

end Go.Proofs.Ytcloneccfbcclaa
