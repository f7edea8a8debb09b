/- Package limit: List. -/
import Derived.Test.YtcloneccfbcclaaLmK3
import Derived.Test.YtcloneccfbcclaaLmApp
import Derived.Deep.RegionLaw
namespace Go.Proofs.Ytcloneccfbcclaa
open Go.RowKit
open Bt

theorem llist_nil (w : World) :
    Calls Try.prog 15 #[.pointer none] w fun e w' => e = .returned (.slice none 0 0) ∧ Below w.heap.size w w' := by
  go_enter Try.func15, Try.ntmps15
  go_wp2
  go_ret
  exact ⟨rfl, Below.refl _ _⟩

theorem listT_take {L : List Kp} {t : Nat} (h : t < L.length) : (listT L).take (t + 1) = (listT L).take t ++ [L[t].lm] := by
  have hl : t < (listT L).length := by simpa [listT] using h
  rw [List.take_succ_eq_append_getElem hl]
  simp [listT]

set_option maxRecDepth 100000 in
set_option maxHeartbeats 2000000 in
theorem llist_any (b : Nat) (S : Nat → Prop) (L : List Kp) (n : Nat) (w : World) (h : Tab S w b L n) :
    Calls Try.prog 15 #[.pointer (some ⟨b, 0, none⟩)] w fun e w' => ∃ v, e = .returned v ∧ LmsAt (fun k => w.heap.size ≤ k ∧ k < w'.heap.size) w' v (listT L) ∧ Below w.heap.size w w' := by
  obtain ⟨m, v, h⟩ := h
  have HH := Hid.intro h
  have few := h.ok.few
  obtain ⟨c0, c1, _⟩ := h.cells
  obtain ⟨ao, c, hv, hz⟩ := h.form
  subst hv
  have HZ := Hid.intro hz
  have fl : ∀ (x0 x1 x2 x3 x4 xn : Int) (W : World), (Instr.field 53 (.agg #[.int .i64 x0, .int .i64 x1, .int .i64 x2, .int .i64 x3, .int .i64 x4, .int .i64 xn]) 0).run Try.prog W = .ok (.agg #[.int .i64 x0, .int .i64 x1, .int .i64 x2, .int .i64 x3, .int .i64 x4]) W := fun x0 x1 x2 x3 x4 xn W => by kernel_rfl
  obtain ⟨LL, hLL⟩ : ∃ LL, LL = L.length := ⟨_, rfl⟩
  have HLL := Hid.intro hLL
  rw [← hLL] at c1 few
  clear h hz hLL c0
  go_enter Try.func15, Try.ntmps15
  go_wp2_with fail
  go_loopw [3, 13] (fun gv iv ws => ∃ t : Nat, t ≤ LL ∧ iv = .int .i64 t ∧ Below w.heap.size w ws ∧ ws.ownsRow 0 30 5 gv t (lcells ((listT L).take t)) ∧ ∀ k, gv.ownBlock = some k → w.heap.size ≤ k) (fun _ iv _ => LL - (intOf iv).toNat)
  case atStart => exact ⟨0, by omega, rfl, Below.refl _ w, World.ownsRow_nil _ _ _ _, fun k hk => by cases hk⟩
  case round =>
    obtain ⟨t, ht, rfl, hB, own, hge⟩ := hrel
    have BH := Hid.intro hB
    have OW := Hid.intro own
    have GE := Hid.intro hge
    by_cases hlt : t < LL
    · have hlt' : t < L.length := by rw [← HLL.out]; exact hlt
      obtain ⟨g, hg⟩ := HZ.out.resolve_left (by omega)
      subst hg
      have hx := HH.out.below hB
      have own1 := hx.own
      rw [← List.length_map (f := keyK)] at own1
      obtain ⟨d0, d1⟩ := ow_of_owns own1 (i := t) (by rw [List.length_map]; exact hlt')
      have ek : (L.map keyK)[t]'(by rw [List.length_map]; exact hlt') = (L[t].lm.bed, L[t].lm.kind) := by simp [keyK]
      rw [ek] at d0 d1
      have hmay := mayL_true (HH.out.ok.may L[t] (List.getElem_mem hlt'))
      have ho : okO (L[t].lm.bed, L[t].lm.kind) := ⟨wf_small (by omega) (by omega), wf_small (by omega) (by omega)⟩
      have FA := find_at HH.out.ok.uniq hlt'
      have TK := Hid.intro (listT_take hlt')
      have LE : Hid (t = ((listT L).take t).length) := by rw [Hid, List.length_take]; simp [listT]; omega
      generalize L[t] = x at *
      obtain ⟨⟨x0, x1, x2, x3, x4⟩, xn⟩ := x
      simp only at d0 d1 ho FA TK
      have BO := (Below.refl wr.heap.size wr).alloc (Nat.le_refl _) (.cells #[.int .i64 x0, .int .i64 x1] 62)
      have h2 := hx.below BO
      have LK := (h2.below (w' := (wr.alloc (.cells #[.int .i64 x0, .int .i64 x1] 62)).drew) (Below.refl _ _).drew).look false ho
      rw [if_neg (by decide), FA] at LK
      have LK' : (Instr.lookup 57 (.map (some m)) (.agg #[.int .i64 x0, .int .i64 x1]) false).run Try.prog (wr.alloc (.cells #[.int .i64 x0, .int .i64 x1] 62)).drew = .ok (.agg #[.int .i64 x0, .int .i64 x1, .int .i64 x2, .int .i64 x3, .int .i64 x4, .int .i64 (xn : Int)]) (wr.alloc (.cells #[.int .i64 x0, .int .i64 x1] 62)).drew := LK
      have k0 := h2.cells.1
      have o0 : (wr.alloc (.cells #[.int .i64 x0, .int .i64 x1] 62)).cell? ⟨wr.heap.size, 0, none⟩ = some (.int .i64 x0) := by rw [cell_of_row _ _ 0 _ _ _ (heap_alloc_new wr _)]; rfl
      have o1 : (wr.alloc (.cells #[.int .i64 x0, .int .i64 x1] 62)).cell? ⟨wr.heap.size, 1, none⟩ = some (.int .i64 x1) := by rw [cell_of_row _ _ 1 _ _ _ (heap_alloc_new wr _)]; rfl
      have BL := BO.alloc BO.size (.cells #[.int .i64 x0, .int .i64 x1, .int .i64 x2, .int .i64 x3, .int .i64 x4] 30)
      have OW2 := Hid.intro (ownsRow_keep own fun k hk => BL.block k (World.ownsRow.lt own k hk).2)
      have LS := Hid.intro (lms_block (l := [⟨x0, x1, x2, x3, x4⟩]) (c := 1) (heap_alloc_new (wr.alloc (.cells #[.int .i64 x0, .int .i64 x1] 62)) (.cells #[.int .i64 x0, .int .i64 x1, .int .i64 x2, .int .i64 x3, .int .i64 x4] 30)) (by simp))
      have BW := Hid.intro (hB.trans (BL.mono hB.size)).drew
      have t1 : (t : Int) < (LL : Int) := by omega
      have t0 : (0 : Int) ≤ (t : Int) := by omega
      have SZ : Hid ((wr.alloc (.cells #[.int .i64 x0, .int .i64 x1] 62)).heap.size = wr.heap.size + 1) := by rw [Hid]; simp
      clear hB own hge hx own1 ek hmay FA h2 LK BO BL
      go_wp2_with fail
      rw [SZ.out] at LS
      clear SZ
      go_region_law (first
        | (refine step_append_lims rfl (.tmp 17) (.tmp 25) rfl u3 t ((listT L).take t) LE.out (by rfl) OW2.out (fun k => k = wr.heap.size + 1) (some ⟨wr.heap.size + 1, 0, none⟩) 1 1 [⟨x0, x1, x2, x3, x4⟩] rfl (by rfl) LS.out (fun q => by cases q) (by omega) ?_; intro v' wb hown hgrow hat; obtain ⟨z1, z2⟩ := grownL hgrow hat BW.out (Nat.le_refl _) GE.out; have Z1 := Hid.intro z1; have Z2 := Hid.intro z2; have Z3 := Hid.intro hown; clear hown hgrow hat z1 z2)
        | fail)
      all_goals
        rw [← TK.out] at Z3
        clear k0 o0 o1 LK' d0 d1 fl OW2 LS BW BH OW GE
        go_wp2
        go_roundw
        case rel => exact ⟨t + 1, by omega, by go_num, Z1.out, Z3.out, Z2.out⟩
        case measure => simp [intOf]; omega
    · obtain rfl : t = LL := by omega
      have t1 : ¬ (t : Int) < (t : Int) := by omega
      have TA : Hid ((listT L).take t = listT L) := by rw [Hid, List.take_of_length_le (by simp [listT]; rw [HLL.out]; exact Nat.le_refl _)]
      have TL : Hid (t = (listT L).length) := by rw [Hid, HLL.out]; simp [listT]
      clear hB own hge
      go_wp2
      go_ret
      have ow := OW.out
      rw [TA.out] at ow
      have tl := TL.out
      rw [tl] at ow
      exact ⟨_, rfl, lms_of_owns ow (fun k hk => ⟨GE.out k hk, (World.ownsRow.lt ow k hk).2⟩), BH.out⟩

end Go.Proofs.Ytcloneccfbcclaa
