/- The document's own answer of layer 15: Look, Add. -/
import Derived.Test.YtngfgahdiobcmaaWtRefA
namespace Go.Proofs.Ytngfgahdiobcmaa
open Go.RowKit
open Bt

theorem lookAt_ok {L : List Wb} (ok : OkWb L) (now : Int) (t : Nat) : OkWb (lookAt L now t) := by
  have hb : (lookAt L now t).map Wb.bed = L.map Wb.bed := by
    unfold lookAt
    rw [List.map_append, List.map_map, show (Wb.bed ∘ lookOne now) = Wb.bed from funext fun x => by show (lookOne now x).bed = x.bed; unfold lookOne; split <;> rfl, ← List.map_append, List.take_append_drop]
  have hm : ∀ x ∈ lookAt L now t, ∃ y ∈ L, x.most = y.most ∧ x.last = y.last := fun x hx => by
    rcases List.mem_append.1 hx with q | q
    · obtain ⟨y, hy, rfl⟩ := List.mem_map.1 q
      exact ⟨y, List.mem_of_mem_take hy, by unfold lookOne; split <;> rfl, by unfold lookOne; split <;> rfl⟩
    · exact ⟨x, List.mem_of_mem_drop q, rfl, rfl⟩
  refine ⟨by rw [lookAt_len]; exact ok.few, by rw [hb]; exact ok.once, fun x hx => ?_, fun x hx => ?_⟩
  · obtain ⟨y, hy, e, _⟩ := hm x hx
    rw [e]
    exact ok.most y hy
  · obtain ⟨y, hy, _, e⟩ := hm x hx
    rw [e]
    exact ok.last y hy

/-- A look under way: the row, the list that is being made. -/
structure LkR (S : Nat → Prop) (w ws : World) (b : Nat) (v : Value) (L : List Wb) (now : Int) (t : Nat) (ov : Value) : Prop where
  row : WtR S ws b v (lookAt L now t)
  chg : Chg S w ws
  nums : ws.ownsRow 0 3 1 ov (lookWl (L.take t) now).length ((lookWl (L.take t) now).map Iv15)
  ge : ∀ k, ov.ownBlock = some k → w.heap.size ≤ k

variable {S : Nat → Prop} {w ws ws' : World} {b t : Nat} {v ov : Value} {L : List Wb} {now : Int}

theorem LkR.below (h : LkR S w ws b v L now t ov) (hb : Below ws.heap.size ws ws') : LkR S w ws' b v L now t ov :=
  ⟨h.row.below hb, h.chg.trans (below_chg hb) (fun _ f _ => f.elim), ownsRow_keep h.nums fun k hk => hb.block k (World.ownsRow.lt h.nums k hk).2, h.ge⟩

theorem LkR.same (h : LkR S w ws b v L now t ov) (ht : t < L.length) (hd : dueWb now L[t] = false) : LkR S w ws b v L now (t + 1) ov := by
  refine ⟨?_, h.chg, ?_, h.ge⟩
  · rw [← lookAt_same now ht hd]; exact h.row
  · rw [lookWl_next now ht, if_neg (by rw [hd]; simp), List.append_nil]; exact h.nums

set_option maxRecDepth 100000 in
set_option maxHeartbeats 2000000 in
theorem refLook15_any (b : Nat) (now : Int) (S : Nat → Prop) (L : List Wb) (w : World) (h : WR b L S w) :
    Calls Try.prog 22 #[.pointer (some ⟨b, 0, none⟩), .int .i64 now] w fun e w' => ∃ v', e = .returned v' ∧ NumsAt (fun k => w.heap.size ≤ k ∧ k < w'.heap.size) w' v' (lookWl L now) ∧ WR b (lookWt L now) S w' ∧ Chg S w w' := by
  obtain ⟨v, h⟩ := h
  have OK := Hid.intro h.ok
  have hf := h.ok.few
  have hlt0 := Hid.intro h.lt
  obtain ⟨ao, c, rfl, hz⟩ := ownsRow_form h.own
  have HZ := Hid.intro hz
  have EL := Hid.intro elem_int15
  have ST : Hid (LkR S w w b (.slice ao L.length c) L now 0 (.slice none 0 0)) := ⟨by rw [lookAt_zero]; exact h, Chg.refl _ _, own_noneR _ _ _, (fun k hk => by cases hk)⟩
  obtain ⟨n, hn⟩ : ∃ n, n = L.length := ⟨_, rfl⟩
  have HN := Hid.intro hn
  rw [← hn] at hf ST
  clear h hz hn
  go_enter Try.func22, Try.ntmps22
  go_wp2_with fail
  go_loopw [5, 6] (fun ov iv ws => ∃ t : Nat, t ≤ n ∧ iv = .int .i64 t ∧ LkR S w ws b (.slice ao n c) L now t ov) (fun _ iv _ => n - (intOf iv).toNat)
  case atStart => exact ⟨0, by omega, rfl, ST.out⟩
  case round =>
    clear ST
    obtain ⟨t, ht, rfl, hR⟩ := hrel
    have k0 := hR.row.cells.1
    have RH := Hid.intro hR
    by_cases hlt : t < n
    · have hlt' : t < L.length := by rw [← HN.out]; exact hlt
      obtain ⟨g, hg⟩ := HZ.out.resolve_left (by have := HN.out; omega)
      subst hg
      have own2 := hR.row.own
      rw [lookAt_len, ← HN.out] at own2
      have cc := wb_at own2 (t := t) (by rw [lookAt_len]; exact hlt')
      rw [lookAt_here now hlt'] at cc
      obtain ⟨c0, c1, c2, c3⟩ := cc
      have hm := OK.out.most L[t] (List.getElem_mem hlt')
      have hl := OK.out.last L[t] (List.getElem_mem hlt')
      have wrp : IntKind.i64.wrap (L[t].last + L[t].most) = L[t].last + L[t].most := by
        obtain ⟨l0, l1⟩ := hl
        unfold IntKind.wrap; simp [IntKind.bits, IntKind.signed]; omega
      have t0 : (0 : Int) ≤ (t : Int) := by omega
      have t1 : (t : Int) < (n : Int) := by omega
      have SM : Hid (dueWb now L[t] = false → ∀ W, Below wr.heap.size wr W → LkR S w W b (.slice (some ⟨g, 0, none⟩) n c) L now (t + 1) u5) := fun hd W hW => (RH.out.below hW).same hlt' hd
      have TL : Hid ((lookWl (L.take t) now).length ≤ 8) := by
        rw [Hid]
        have : (lookWl (L.take t) now).length ≤ (L.take t).length := by unfold lookWl; rw [List.length_map]; exact List.length_filter_le _ _
        rw [List.length_take] at this
        omega
      have GO : Hid (dueWb now L[t] = true → ∀ W, Below wr.heap.size wr W →
          let W2 := W.setCell ⟨g, t * 4 + 3, none⟩ (.bool true)
          W2.cell? ⟨b, 0, none⟩ = some (.slice (some ⟨g, 0, none⟩) n c) ∧ W2.cell? ⟨g, t * 4, none⟩ = some (.int .i64 L[t].bed) ∧
          (W2.alloc (.cells #[.int .i64 L[t].bed] 3)).ownsRow 0 3 1 u5 (lookWl (L.take t) now).length ((lookWl (L.take t) now).map Iv15) ∧
          ∀ v' wb, wb.ownsRow 0 3 1 v' ((lookWl (L.take t) now).length + 1) ((lookWl (L.take t) now).map Iv15 ++ [Iv15 L[t].bed]) → (W2.alloc (.cells #[.int .i64 L[t].bed] 3)).grownBy wb u5.ownBlock → (v'.ownBlock = u5.ownBlock ∨ v'.ownBlock = some (W2.alloc (.cells #[.int .i64 L[t].bed] 3)).heap.size) → LkR S w wb b (.slice (some ⟨g, 0, none⟩) n c) L now (t + 1) v') := fun hd W hW => by
        have h1 := RH.out.below hW
        have hi : t < (lookAt L now t).length := by rw [lookAt_len]; exact hlt'
        have ok2 : OkWb ((lookAt L now t).set t (lookOne now L[t])) := by rw [lookAt_next now hlt']; exact lookAt_ok OK.out now (t + 1)
        obtain ⟨q1, q2⟩ := h1.row.put (i := t) (k := 3) (y := lookOne now L[t]) (u := .bool true) hi (by omega) (by
          rw [lookAt_here now hlt']
          unfold lookOne
          rw [if_pos hd]
          simp [wcell15]) ok2
        rw [lookAt_next now hlt'] at q1
        have own3 := q1.own
        rw [lookAt_len, ← HN.out] at own3
        have cb := (wb_at own3 (t := t) (by rw [lookAt_len]; exact hlt')).1
        have eb : ((lookAt L now (t + 1))[t]'(by rw [lookAt_len]; exact hlt')).bed = L[t].bed := by
          have e2 : (lookAt L now (t + 1))[t]'(by rw [lookAt_len]; exact hlt') = lookOne now L[t] := by
            simp only [← lookAt_next now hlt', List.getElem_set_self]
          rw [e2]
          unfold lookOne
          split <;> rfl
        rw [eb] at cb
        have gS : S g := h1.row.inV g rfl
        have gw : g < w.heap.size := hlt0.out g gS
        have nu2 : (W.setCell ⟨g, t * 4 + 3, none⟩ (.bool true)).ownsRow 0 3 1 u5 (lookWl (L.take t) now).length ((lookWl (L.take t) now).map Iv15) := ownsRow_keep h1.nums fun k hk => q2.block k (World.ownsRow.lt h1.nums k hk).2 (fun q => by have := h1.ge k hk; have := hlt0.out k q; omega)
        have BA := (Below.refl (W.setCell ⟨g, t * 4 + 3, none⟩ (.bool true)).heap.size (W.setCell ⟨g, t * 4 + 3, none⟩ (.bool true))).alloc (Nat.le_refl _) (.cells #[.int .i64 L[t].bed] 3)
        refine ⟨q1.cells.1, cb, ownsRow_keep nu2 fun k hk => BA.block k (World.ownsRow.lt nu2 k hk).2, fun v' wb o1 o2 o3 => ?_⟩
        have rA := q1.below BA
        have cA : Chg S w ((W.setCell ⟨g, t * 4 + 3, none⟩ (.bool true)).alloc (.cells #[.int .i64 L[t].bed] 3)) := (h1.chg.trans q2 (fun _ q _ => q)).trans (below_chg BA) (fun _ f _ => f.elim)
        have s1 := cA.size
        have nS : ∀ k, S k → some k ≠ u5.ownBlock := fun k hk e => by have := h1.ge k e.symm; have := hlt0.out k hk; omega
        refine ⟨⟨(o2.block b (rA.lt b rA.inB) (nS b rA.inB)).trans rA.head, ownsRow_keep rA.own fun k hk => o2.block k (World.ownsRow.lt rA.own k hk).2 (nS k (rA.inV k hk)), rA.inB, rA.inV, fun k hk => Nat.lt_of_lt_of_le (rA.lt k hk) o2.size, rA.ok⟩, cA.grown o2 (fun k e hk => by have := h1.ge k e; omega), ?_, fun k hk => ?_⟩
        · rw [lookWl_next now hlt', if_pos hd, List.length_append, List.map_append]
          exact o1
        · rcases o3 with q | q
          · exact h1.ge k (by rw [← q]; exact hk)
          · rw [hk] at q
            have e : k = ((W.setCell ⟨g, t * 4 + 3, none⟩ (.bool true)).alloc (.cells #[.int .i64 L[t].bed] 3)).heap.size := by simpa using q
            omega
      have f3 : Hid (∀ W, Below wr.heap.size wr W → W.frozen? ⟨g, t * 4 + 3, none⟩ = false ∧ W.cell? ⟨g, t * 4 + 3, none⟩ = some (.bool L[t].lost) ∧ W.cell? ⟨b, 0, none⟩ = some (.slice (some ⟨g, 0, none⟩) n c)) := fun W hW => by
        have o2 := (RH.out.below hW).row.own
        rw [lookAt_len, ← HN.out] at o2
        exact ⟨frozen_own15 o2 _, cell_chg (below_chg hW) c3 id, cell_chg (below_chg hW) k0 id⟩
      have DU : Hid (dueWb now L[t] = (!L[t].lost && decide (L[t].last + L[t].most < now))) := rfl
      clear hR RH own2 hm hl
      generalize dueWb now L[t] = du at *
      generalize (lookWl (L.take t) now).length = nl at *
      generalize (lookWl (L.take t) now).map Iv15 = xs at *
      generalize L[t] = x at *
      obtain ⟨x0, x1, x2, x3⟩ := x
      simp only at c0 c1 c2 c3 wrp DU GO f3
      cases x3 with
      | true =>
        have e : du = false := by rw [DU.out]; rfl
        subst e
        have SN := Hid.intro (SM.out rfl)
        clear SM GO DU f3 c0
        go_wp2_with fail
        go_quiet (fail)
        generalize hq : World.drewN _ _ = wq
        have Bq : Below wr.heap.size wr wq := by rw [← hq]; exact ⟨rfl, rfl, rfl, Nat.le_refl _, fun _ _ => rfl⟩
        have FI := Hid.intro (SN.out wq Bq)
        clear hq Bq SN c1 c2 c3 k0
        go_wp2
        go_roundw
        case rel => exact ⟨t + 1, by omega, by go_num, FI.out⟩
        case measure => simp [intOf]; omega
      | false =>
        by_cases hd : x2 + x1 < now
        · have e : du = true := by rw [DU.out]; simp [hd]
          subst e
          have GN := Hid.intro (GO.out rfl)
          clear SM GO DU c0
          go_wp2_with fail
          go_quiet (fail)
          generalize hq : World.drewN _ _ = wq
          have Bq : Below wr.heap.size wr wq := by rw [← hq]; exact ⟨rfl, rfl, rfl, Nat.le_refl _, fun _ _ => rfl⟩
          obtain ⟨g1, g2, g3, g4⟩ := GN.out wq Bq
          obtain ⟨f1, f2, f4⟩ := f3.out wq Bq
          have SR : Hid (SrcV ((wq.setCell ⟨g, t * 4 + 3, none⟩ (.bool true)).alloc (.cells #[.int .i64 x0] 3)) 1 (.slice (some ⟨wq.heap.size, 0, none⟩) 1 1) 1 [Iv15 x0]) := src_block (ys := [Iv15 x0]) (alloc_atR (by simp)) rfl
          have G3 := Hid.intro g3
          have G4 := Hid.intro g4
          clear hq Bq GN c1 c2 c3 k0 f3 g3 g4
          go_wp2_with (at_builtin; refine append_row (by rfl) _ _ EL.out (by rfl) u5 nl xs (by rfl) G3.out (.slice (some ⟨wq.heap.size, 0, none⟩) 1 1) 1 [Iv15 x0] (by rfl) SR.out (fun z hz => by rw [List.mem_singleton.1 hz]; rfl) (by have := TL.out; omega) ?_; intro v' wb hown hgrow hat; have FI := Hid.intro (G4.out v' wb hown hgrow hat); clear hown hgrow hat g1 g2 f1 f2 f4)
          go_roundw
          case rel => exact ⟨t + 1, by omega, by go_num, FI.out⟩
          case measure => simp [intOf]; omega
        · have e : du = false := by rw [DU.out]; simp [hd]
          subst e
          have SN := Hid.intro (SM.out rfl)
          clear SM GO DU f3 c0
          go_wp2_with fail
          have hd2 : ¬ x2 + x1 < now := by omega
          go_quiet (fail)
          generalize hq : World.drewN _ _ = wq
          have Bq : Below wr.heap.size wr wq := by rw [← hq]; exact ⟨rfl, rfl, rfl, Nat.le_refl _, fun _ _ => rfl⟩
          have FI := Hid.intro (SN.out wq Bq)
          clear hq Bq SN c1 c2 c3 k0
          go_wp2
          go_roundw
          case rel => exact ⟨t + 1, by omega, by go_num, FI.out⟩
          case measure => simp [intOf]; omega
    · obtain rfl : t = n := by omega
      have t1 : ¬ (t : Int) < (t : Int) := by omega
      clear hR
      go_wp2
      go_ret
      have hR := RH.out
      have e := HN.out
      have r1 := hR.row
      have r2 := hR.nums
      rw [e, lookAt_end] at r1
      rw [e, List.take_length] at r2
      exact ⟨_, rfl, nums_own15 rfl r2 (fun k hk => ⟨hR.ge k hk, (World.ownsRow.lt r2 k hk).2⟩), ⟨_, r1⟩, hR.chg⟩

end Go.Proofs.Ytngfgahdiobcmaa
