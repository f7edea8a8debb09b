/- The document's own answer of layer 14: Drop. -/
import Derived.Test.YtcloneccfbcclaaLmRT
namespace Go.Proofs.Ytcloneccfbcclaa
open Go.RowKit
open Bt

theorem elem_lim : ElemT 34 30 5 := by
  obtain ⟨i, hi, hz0, hz1, hz2⟩ := info_parts info_lim
  exact ⟨Try.underlying34, ⟨i, _, 40, hi, hz0, hz1, hz2, rfl, by omega⟩, by omega⟩

theorem info_sl : (Try.prog.info? 46).map (fun i => (i.zero, i.size, i.bytes)) = some (some (.slice none 0 0), 1, 24) := by kernel_rfl

theorem elem_sl : ElemT 37 46 1 := by
  obtain ⟨i, hi, hz0, hz1, hz2⟩ := info_parts info_sl
  exact ⟨Try.underlying37, ⟨i, _, 24, hi, hz0, hz1, hz2, rfl, by omega⟩, by omega⟩

theorem rz_one {w : World} {l : List Rz} (h : ∀ z ∈ l, ∃ n xs, w.ownsRow 0 3 1 z.v n xs) : ∀ u ∈ l.map Rz.v, u.oneCell' = true := fun u hu => by
  obtain ⟨z, hz, rfl⟩ := List.mem_map.1 hu
  obtain ⟨n, xs, q⟩ := h z hz
  obtain ⟨ao, c, e, _⟩ := ownsRow_form q
  rw [e]
  rfl

theorem kps_drop (zs : List Rz) (bed : Int) : kpsR (zs.filter fun z => !decide (z.lm.bed = bed)) = dropT (kpsR zs) bed := by
  unfold kpsR dropT
  rw [List.filter_map]
  rfl

theorem filter_takeR {α : Type} (p : α → Bool) (x : List α) {t : Nat} (ht : t < x.length) : (x.take (t + 1)).filter p = (x.take t).filter p ++ (if p x[t] = true then [x[t]] else []) := by
  rw [List.take_succ_eq_append_getElem ht, List.filter_append]
  simp only [List.filter_cons, List.filter_nil]

/-- Both lists are laid anew, in new memory. -/
theorem RT.laid {S : Nat → Prop} {w ws : World} {b : Nat} {vL vV vL' vV' : Value} {zs zs' : List Rz} {m m' nl nv : Nat} (h : RT S w b vL vV zs m) (hB : Below w.heap.size w ws)
    (hL : NewR 30 5 w.heap.size w nl (lcells (zs'.map Rz.lm)) ws vL') (hV : NewR 46 1 w.heap.size w nv (zs'.map Rz.v) ws vV') (hnl : nl = zs'.length) (hnv : nv = zs'.length)
    (hi : ∀ z ∈ zs', ws.ownsRow 0 3 1 z.v z.vs.length (z.vs.map Iv) ∧ ∀ k, z.v.ownBlock = some k → S k ∨ w.heap.size ≤ k) (ok : OkT (kpsR zs') m') (few : ∀ z ∈ zs', z.vs.length ≤ m') :
    LeftG (RB b (kpsR zs') m') S w ((ws.setCell ⟨b, 0, none⟩ vL').setCell ⟨b, 1, none⟩ vV') := by
  subst hnl
  subst hnv
  have hb := h.lt b h.inB
  have h0 := (hB.block b hb).trans h.head
  have h1 := heap_setCell_same ws b 0 _ _ vL' h0
  have h2 := heap_setCell_same (ws.setCell ⟨b, 0, none⟩ vL') b 1 _ _ vV' h1
  have C : Chg (fun k => k = b) ws ((ws.setCell ⟨b, 0, none⟩ vL').setCell ⟨b, 1, none⟩ vV') := ((Chg.refl _ ws).setCell (S := fun k => k = b) (p := ⟨b, 0, none⟩) (fun _ => rfl) _).setCell (S := fun k => k = b) (p := ⟨b, 1, none⟩) (fun _ => rfl) _
  have hs := hB.size
  have hs2 := C.size
  refine ⟨fun k => (S k ∨ w.heap.size ≤ k) ∧ k < ws.heap.size, ⟨vL', vV', zs', rfl, ⟨by rw [h2]; rfl, ?_, ?_, fun z hz => ⟨?_, fun k hk => ⟨(hi z hz).2 k hk, (World.ownsRow.lt (hi z hz).1 k hk).2⟩⟩, ⟨.inl h.inB, by omega⟩, fun k hk => ⟨.inr (hL.ge k hk), (World.ownsRow.lt hL.own k hk).2⟩, fun k hk => ⟨.inr (hV.ge k hk), (World.ownsRow.lt hV.own k hk).2⟩, fun k hk => by have := hk.2; omega, ok, few⟩⟩, ?_, fun k hk => hk.1⟩
  · exact ownsRow_keep hL.own fun k hk => C.block k (World.ownsRow.lt hL.own k hk).2 (fun q => row_not_block hL.own h0 (by decide) (by rw [← q]; exact hk))
  · exact ownsRow_keep hV.own fun k hk => C.block k (World.ownsRow.lt hV.own k hk).2 (fun q => row_not_block hV.own h0 (by decide) (by rw [← q]; exact hk))
  · exact ownsRow_keep (hi z hz).1 fun k hk => C.block k (World.ownsRow.lt (hi z hz).1 k hk).2 (fun q => row_not_block (hi z hz).1 h0 (by decide) (by rw [← q]; exact hk))
  · exact (below_chg hB).mono (fun _ f _ => f.elim) |>.trans C (fun k hk _ => by subst hk; exact h.inB)

theorem NewR.below' {e : TypeId} {sz n : Nat} {w0 w w' : World} {xs : List Value} {v : Value} (h : NewR e sz w0.heap.size w0 n xs w v) (hb : Below w.heap.size w w') : NewR e sz w0.heap.size w0 n xs w' v :=
  ⟨ownsRow_keep h.own fun k hk => hb.block k (World.ownsRow.lt h.own k hk).2, h.below.trans (hb.mono h.below.size), h.ge⟩

/-- It stays while another row of new memory grows. -/
theorem NewR.other {e e2 : TypeId} {sz sz2 n n2 : Nat} {w0 w w' : World} {xs xs2 : List Value} {v u : Value} (h : NewR e sz w0.heap.size w0 n xs w v) (h2 : w.ownsRow 0 e2 sz2 u n2 xs2) (hu : ∀ k, u.ownBlock = some k → w0.heap.size ≤ k) (hne : e ≠ e2) (hg : w.grownBy w' u.ownBlock) : NewR e sz w0.heap.size w0 n xs w' v := by
  refine ⟨ownsRow_keep h.own fun k hk => hg.block k (World.ownsRow.lt h.own k hk).2 (fun q => rows_apart h.own h2 hne k hk q.symm), h.below.grown hg h.below.size hu, h.ge⟩

set_option maxRecDepth 100000 in
set_option maxHeartbeats 4000000 in
theorem refDrop14_any (b : Nat) (bed : Int) (S : Nat → Prop) (vL vV : Value) (zs : List Rz) (m : Nat) (w : World) (h : RT S w b vL vV zs m) :
    Calls Try.prog 20 #[.pointer (some ⟨b, 0, none⟩), .int .i64 bed] w fun e w' => e = .returned (.int .i64 (dropN (kpsR zs) bed : Int)) ∧ LeftG (RB b (dropT (kpsR zs) bed) m) S w w' := by
  have RH := Hid.intro h
  have few := h.ok.few
  rw [kps_len] at few
  have c0 := h.cells.1
  have c1 := h.cells.2.1
  have DL := Hid.intro (drop_len (kpsR zs) bed)
  have DO := dropT_ok h.ok bed
  rw [← kps_drop] at DO
  have DOH := Hid.intro DO
  have KL : Hid ((kpsR zs).length = zs.length) := kps_len zs
  have KF : Hid ((dropT (kpsR zs) bed).length = (zs.filter fun z => !decide (z.lm.bed = bed)).length) := by rw [Hid, ← kps_drop, kps_len]
  have KD := Hid.intro (kps_drop zs bed)
  obtain ⟨dn, hdn⟩ : ∃ dn, dn = dropN (kpsR zs) bed := ⟨_, rfl⟩
  rw [← hdn] at DL ⊢
  rw [← KD.out]
  obtain ⟨aL, cL, rfl, zL⟩ := ownsRow_form h.ol
  obtain ⟨aV, cV, rfl, zV⟩ := ownsRow_form h.ov
  have HZ := Hid.intro (And.intro zL zV)
  obtain ⟨n, hn⟩ : ∃ n, n = zs.length := ⟨_, rfl⟩
  have HN := Hid.intro hn
  rw [← hn] at c0 c1 few RH
  clear h hdn DO zL zV hn
  go_enter Try.func20, Try.ntmps20
  go_wp2_with fail
  go_loopw [5, 6, 7] (fun lv vv iv ws => ∃ (t k : Nat), t ≤ n ∧ k ≤ t ∧ k = ((zs.take t).filter (fun z => !decide (z.lm.bed = bed))).length ∧ iv = .int .i64 t ∧ NewR 30 5 w.heap.size w k (lcells (((zs.take t).filter (fun z => !decide (z.lm.bed = bed))).map Rz.lm)) ws lv ∧ NewR 46 1 w.heap.size w k (((zs.take t).filter (fun z => !decide (z.lm.bed = bed))).map Rz.v) ws vv) (fun _ _ iv _ => n - (intOf iv).toNat)
  case atStart => exact ⟨0, 0, by omega, by omega, by simp, rfl, ⟨own_noneR _ _ _, Below.refl _ w, fun k hk => by cases hk⟩, ⟨own_noneR _ _ _, Below.refl _ w, fun k hk => by cases hk⟩⟩
  case round =>
    obtain ⟨t, k, ht, hkt, hk, rfl, hL, hV⟩ := hrel
    have LH := Hid.intro hL
    have VH := Hid.intro hV
    have HK := Hid.intro hk
    have BH := Hid.intro hL.below
    have r0 := (hL.below.cell (cell_lt c0)).trans c0
    have r1 := (hL.below.cell (cell_lt c1)).trans c1
    clear hL hV hk
    obtain ⟨la, lc, rfl, _⟩ := ownsRow_form LH.out.own
    obtain ⟨va, vc, rfl, _⟩ := ownsRow_form VH.out.own
    by_cases hlt : t < n
    · have hlt' : t < zs.length := by rw [← HN.out]; exact hlt
      have t0 : (0 : Int) ≤ (t : Int) := by omega
      have t1 : (t : Int) < (n : Int) := by omega
      obtain ⟨gL, rfl⟩ := HZ.out.1.resolve_left (by omega)
      obtain ⟨gV, rfl⟩ := HZ.out.2.resolve_left (by omega)
      have h1 := RH.out.below BH.out
      obtain ⟨e0, e1, e2, e3, e4⟩ := h1.limAt hlt' rfl
      have ev0 := RH.out.valAt hlt' rfl
      have iv := Hid.intro (h1.iv zs[t] (List.getElem_mem hlt')).1
      have NL : Hid ((lcells [zs[t].lm]).length = 5) := by rw [Hid, lcells_length]; rfl
      have FT := Hid.intro (filter_takeR (fun z : Rz => !decide (z.lm.bed = bed)) zs hlt')
      generalize zs[t] = z at *
      obtain ⟨⟨b0, b1, b2, b3, b4⟩, vs, zv⟩ := z
      simp only at e0 e1 e2 e3 e4 FT ev0 iv NL
      obtain ⟨zao, zc, hzv, _⟩ := ownsRow_form iv.out
      subst hzv
      clear h1 iv
      generalize vs.length = N at *
      have ev := (BH.out.cell (cell_lt ev0)).trans ev0
      by_cases hb : b0 = bed
      · have hbb : (b0 != bed) = false := by rw [hb]; simp
        have MX : Hid ((zs.take (t + 1)).filter (fun z => !decide (z.lm.bed = bed)) = (zs.take t).filter (fun z => !decide (z.lm.bed = bed))) := by
          rw [Hid, FT.out, if_neg (by simp [hb]), List.append_nil]
        clear hb FT
        go_wp2
        go_roundw
        case rel => exact ⟨t + 1, k, by omega, by omega, by rw [MX.out]; exact HK.out, by go_num, by rw [MX.out]; exact LH.out, by rw [MX.out]; exact VH.out⟩
        case measure => simp [intOf]; omega
      · have hbb : (b0 != bed) = true := by rw [bne_iff_ne]; exact hb
        have MX : Hid ((zs.take (t + 1)).filter (fun z => !decide (z.lm.bed = bed)) = (zs.take t).filter (fun z => !decide (z.lm.bed = bed)) ++ [⟨⟨b0, b1, b2, b3, b4⟩, vs, .slice zao N zc⟩]) := by
          rw [Hid, FT.out, if_pos (by simp [hb])]
        clear hb FT
        generalize (zs.take t).filter (fun z => !decide (z.lm.bed = bed)) = gl at *
        have BN := (Below.refl _ wr).alloc (Nat.le_refl _) (.cells #[.int .i64 b0, .int .i64 b1, .int .i64 b2, .int .i64 b3, .int .i64 b4] 30)
        have L1 := Hid.intro (LH.out.below' BN)
        have V1 := Hid.intro (VH.out.below' BN)
        have SL : Hid (SrcV (wr.alloc (.cells #[.int .i64 b0, .int .i64 b1, .int .i64 b2, .int .i64 b3, .int .i64 b4] 30)) 5 (.slice (some ⟨wr.heap.size, 0, none⟩) 1 1) 1 (lcells [⟨b0, b1, b2, b3, b4⟩])) := src_block (ys := lcells [⟨b0, b1, b2, b3, b4⟩]) (heap_alloc_new wr _) NL.out
        have ELL := Hid.intro elem_lim
        have ELS := Hid.intro elem_sl
        clear BN LH VH BH
        go_wp2_with (first
          | (have _ := FNH; refine append_row (by rfl) _ _ ELS.out (by rfl) (.slice va k vc) k (gl.map Rz.v) (by rfl) V2.out.own (.slice (some ⟨wb.heap.size, 0, none⟩) 1 1) 1 [.slice zao N zc] (by rfl) (src_block (ys := [.slice zao N zc]) (heap_alloc_new wb _) rfl) (fun z hz => by rw [List.mem_singleton.1 hz]; rfl) (by omega) ?_; intro v'' wc hown hgrow hat; have GN := Hid.intro (newR V2.out.ge V2.out.below (Nat.le_refl _) hown hgrow hat); have GL := Hid.intro ((FNH.out.below' ((Below.refl _ wb).alloc (Nat.le_refl _) (.cells #[.slice zao N zc] 46))).other V2.out.own V2.out.ge (by decide) hgrow); clear hown hgrow hat FNH V2)
          | (refine append_row (by rfl) _ _ ELL.out (by rfl) (.slice la k lc) k (lcells (gl.map Rz.lm)) (by rfl) L1.out.own (.slice (some ⟨wr.heap.size, 0, none⟩) 1 1) 1 (lcells [⟨b0, b1, b2, b3, b4⟩]) (by rfl) SL.out (lcells_onecell _) (by omega) ?_; intro v' wb hown hgrow hat; have FN := newR L1.out.ge L1.out.below (Nat.le_refl _) hown hgrow hat; have FV := V1.out.other L1.out.own L1.out.ge (by decide) hgrow; have s0 := (FN.below.cell (cell_lt c0)).trans c0; have s1 := (FN.below.cell (cell_lt c1)).trans c1; have s2 := (FN.below.cell (cell_lt ev0)).trans ev0; have V2 := Hid.intro (FV.below' ((Below.refl _ wb).alloc (Nat.le_refl _) (.cells #[.slice zao N zc] 46))); have FNH := Hid.intro FN; clear hown hgrow hat FN FV L1 V1 SL r0 r1 e0 e1 e2 e3 e4 ev)
          | fail)
        refine ⟨⟨t + 1, k + 1, by omega, by omega, ?_, by go_num, ?_, ?_⟩, by simp [intOf]; omega⟩
        · rw [MX.out, List.length_append, ← HK.out]; rfl
        · rw [MX.out, List.map_append, lcells_append]; exact GL.out
        · rw [MX.out, List.map_append]; exact GN.out
    · obtain rfl : t = n := by omega
      have t1 : ¬ (t : Int) < (t : Int) := by omega
      have L2 := LH.out
      have V2 := VH.out
      have K2 := HK.out
      rw [List.take_of_length_le (by rw [← HN.out]; exact Nat.le_refl _)] at L2 V2 K2
      have KR : k = (dropT (kpsR zs) bed).length := by rw [KF.out]; exact K2
      have FIN := Hid.intro (RH.out.laid BH.out L2 V2 K2 K2 (fun z hz => ⟨((RH.out.below BH.out).iv z (List.mem_filter.1 hz).1).1, fun j hj => .inl ((RH.out.iv z (List.mem_filter.1 hz).1).2 j hj)⟩) DOH.out (fun z hz => RH.out.few z (List.mem_filter.1 hz).1))
      have fr := (RH.out.below BH.out).cells.2.2
      have f0 := fr 0
      have h0 := (RH.out.below BH.out).head
      have h1 := heap_setCell_same wr b 0 _ _ (.slice la k lc) h0
      have x1 : (wr.setCell ⟨b, 0, none⟩ (.slice la k lc)).cell? ⟨b, 1, none⟩ = some (.slice aV t cV) := by rw [cell_of_row _ _ 1 _ _ _ h1]; rfl
      have f1 : (wr.setCell ⟨b, 0, none⟩ (.slice la k lc)).frozen? ⟨b, 1, none⟩ = false := frozen_of_row _ b 1 _ _ h1
      have nn : (t : Int) - (k : Int) = (dn : Int) := by
        have := DL.out
        have := KL.out
        have := HN.out
        omega
      have nb : dn ≤ 40 := by have := DL.out; have := KL.out; have := HN.out; omega
      clear L2 V2 K2 KR fr h0 h1 LH VH DL RH HZ
      go_wp2
      go_ret
      exact ⟨rfl, FIN.out⟩

end Go.Proofs.Ytcloneccfbcclaa
