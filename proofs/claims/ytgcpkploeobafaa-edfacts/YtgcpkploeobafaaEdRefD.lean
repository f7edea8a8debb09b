/- The document's own Drop. -/
import Derived.Test.YtgcpkploeobafaaEdRefA
import Derived.Test.YtgcpkploeobafaaEdMk
namespace Go.Proofs.Ytgcpkploeobafaa
open Go.RowKit
open Bt

/-- The queue's list is laid anew. -/
theorem RQ.laid {S : Nat → Prop} {w ws : World} {rb : Nat} {v v' : Value} {x y : List Jb} {m : Nat} (h : RQ S w rb v x) (hB : Below w.heap.size w ws) (hM : Mk w.heap.size ws v' m y) (hy : QOk y) :
    (ws.cell? ⟨rb, 0, none⟩ = some v ∧ ws.frozen? ⟨rb, 0, none⟩ = false) ∧ RQ (fun k => k = rb ∨ v'.ownBlock = some k) (ws.setCell ⟨rb, 0, none⟩ v') rb v' y ∧ Chg S w (ws.setCell ⟨rb, 0, none⟩ v') := by
  have hb := h.lt rb h.inB
  have h0 := (hB.block rb hb).trans h.head
  have h3 := heap_setCell_same ws rb 0 _ _ v' h0
  have C : Chg (fun k => k = rb) ws (ws.setCell ⟨rb, 0, none⟩ v') := Chg.setCell (S := fun k => k = rb) (Chg.refl _ ws) (fun _ => rfl) _
  have hs := hB.size
  have hs2 := C.size
  have own' : (ws.setCell ⟨rb, 0, none⟩ v').ownsRow 0 38 7 v' m (jcells y) := ownsRow_keep hM.own fun k hk => C.block k (World.ownsRow.lt hM.own k hk).2 (fun q => by have := hM.new k hk; omega)
  refine ⟨⟨by rw [cell_of_row _ _ 0 _ _ _ h0]; rfl, frozen_of_row ws rb 0 _ _ h0⟩, ⟨by rw [h3]; rfl, .inl rfl, ?_, fun k hk => ?_, hy⟩, ?_⟩
  · have own2 := own'
    rw [hM.len] at own2
    refine js_of_owns own2 (fun k hk => ⟨.inr hk, ?_, ?_⟩)
    · have := hM.new k hk; omega
    · rcases own'.2 with ⟨e, _⟩ | ⟨g, cap, cur, e, _, e2, _⟩
      · rw [e] at hk; simp [Value.ownBlock] at hk
      · rw [e] at hk
        have : g = k := by simpa [Value.ownBlock] using hk
        subst this
        exact ⟨cur, e2⟩
  · rcases hk with q | q
    · subst q; omega
    · exact (World.ownsRow.lt own' k q).2
  · exact (below_chg hB).mono (fun _ f _ => f.elim) |>.trans C (fun k hk _ => by subst hk; exact h.inB)

set_option maxRecDepth 100000 in
set_option maxHeartbeats 4000000 in
theorem refDrop12_any (rb : Nat) (bed : Int) (S : Nat → Prop) (x : List Jb) (w : World) (hc : RQue S w rb x) :
    Calls Try.prog 24 #[.pointer (some ⟨rb, 0, none⟩), .int .i64 bed] w fun e w' => e = .returned (.int .i64 (dropN x bed : Int)) ∧ LeftR S w w' rb (dropR x bed) := by
  obtain ⟨v, h⟩ := hc
  have RH := Hid.intro h
  have cv := h.cell
  have few := h.ok.few
  have DL := Hid.intro (drop_len x bed)
  have DO := Hid.intro (dropR_ok h.ok bed)
  obtain ⟨ao, c, rfl, _, hp⟩ := h.js
  have HP := Hid.intro hp
  obtain ⟨L, hL⟩ : ∃ L, L = x.length := ⟨_, rfl⟩
  have HL := Hid.intro hL
  rw [← hL] at cv few DL RH
  obtain ⟨dn, hdn⟩ : ∃ dn, dn = dropN x bed := ⟨_, rfl⟩
  rw [← hdn] at DL ⊢
  clear hp hL h hdn
  go_enter Try.func24, Try.ntmps24
  go_wp2_with fail
  go_loopw [5, 6] (fun kv iv ws => ∃ (t m : Nat), t ≤ L ∧ m ≤ t ∧ iv = .int .i64 t ∧ Mk w.heap.size ws kv m ((x.take t).filter (fun j => !decide (j.bed = bed))) ∧ Below w.heap.size w ws) (fun _ iv _ => L - (intOf iv).toNat)
  case atStart => exact ⟨0, 0, by omega, by omega, rfl, mk_start _ _, Below.refl _ w⟩
  case round =>
    obtain ⟨t, m, ht, hmt, rfl, hM, hB⟩ := hrel
    have MH := Hid.intro hM
    have BH := Hid.intro hB
    have d0 := (hB.cell (cell_lt cv)).trans cv
    clear hM hB
    obtain ⟨ka, kc, rfl⟩ := MH.out.form
    by_cases hlt : t < L
    · have hlt' : t < x.length := by rw [← HL.out]; exact hlt
      have t0 : (0 : Int) ≤ (t : Int) := by omega
      have t1 : (t : Int) < (L : Int) := by omega
      obtain ⟨pb, off, rfl, _, hcc⟩ := HP.out (by omega)
      obtain ⟨e0, e1, e2, e3, e4, e5, e6⟩ := (hcc t hlt').below BH.out
      have FT := Hid.intro (filter_takeJ (fun j => !decide (j.bed = bed)) x hlt')
      generalize x[t] = jb at *
      obtain ⟨b0, b1, b2, b3, b4, b5, b6⟩ := jb
      simp only at e0 e1 e2 e3 e4 e5 e6 FT
      clear hcc
      by_cases hb : b0 = bed
      · have hbb : (b0 != bed) = false := by rw [hb]; simp
        have MX : Hid (Mk w.heap.size wr (.slice ka m kc) m ((x.take (t + 1)).filter (fun j => !decide (j.bed = bed)))) := by
          rw [Hid, FT.out, if_neg (by simp [hb]), List.append_nil]
          exact MH.out
        clear hb FT MH
        go_wp2
        go_roundw
        case rel => exact ⟨t + 1, m, by omega, by omega, by go_num, MX.out, BH.out⟩
        case measure => simp [intOf]; omega
      · have hbb : (b0 != bed) = true := by rw [bne_iff_ne]; exact hb
        have BN := (Below.refl _ wr).alloc (Nat.le_refl _) (.cells #[.int .i64 b0, .int .i64 b1, .int .i64 b2, .int .i64 b3, .int .i64 b4, .int .i64 b5, .int .i64 b6] 38)
        have GR := Hid.intro ((js_block (l := [⟨b0, b1, b2, b3, b4, b5, b6⟩]) (heap_alloc_new wr (.cells #[.int .i64 b0, .int .i64 b1, .int .i64 b2, .int .i64 b3, .int .i64 b4, .int .i64 b5, .int .i64 b6] 38)) (c := 1) (by simp)).mono (R' := fun _ => True) (fun _ _ => trivial))
        have ON := Hid.intro ((MH.out.below BN).own)
        have HLN := Hid.intro MH.out.len
        have FIN := Hid.intro (fun (v' : Value) (wb : World) hown hgrow hat => (MH.out.below BN).more (w := w) (v' := v') (wb := wb) (j := ⟨b0, b1, b2, b3, b4, b5, b6⟩) (BH.out.trans (BN.mono BH.out.size)) (Nat.le_refl _) hown hgrow hat)
        have EX : Hid ((x.take (t + 1)).filter (fun j => !decide (j.bed = bed)) = (x.take t).filter (fun j => !decide (j.bed = bed)) ++ [⟨b0, b1, b2, b3, b4, b5, b6⟩]) := by
          rw [Hid, FT.out, if_pos (by simp [hb])]
        generalize (x.take t).filter (fun j => !decide (j.bed = bed)) = gl at *
        clear hb FT MH BN
        go_wp2_with (refine append_jobs (by rfl) _ _ (by rfl) (.slice ka m kc) m gl HLN.out (by rfl) ON.out (fun _ => True) (some ⟨wr.heap.size, 0, none⟩) 1 1 [⟨b0, b1, b2, b3, b4, b5, b6⟩] rfl (by rfl) GR.out (fun h => by cases h) (by omega) ?_; intro v' wb hown hgrow hat; have FN := Hid.intro (FIN.out v' wb hown hgrow (by simpa using hat)); clear hown hgrow hat)
        refine ⟨⟨t + 1, m + 1, by omega, by omega, by go_num, ?_, FN.out.2⟩, by simp [intOf]; omega⟩
        rw [EX.out]
        exact FN.out.1
    · obtain rfl : t = L := by omega
      have t1 : ¬ (t : Int) < (t : Int) := by omega
      have ML := MH.out.len
      have M2 := MH.out
      rw [List.take_of_length_le (by rw [← HL.out]; exact Nat.le_refl _)] at ML M2
      have MR : m = (dropR x bed).length := ML
      obtain ⟨LA, LB, LC⟩ := RH.out.laid BH.out M2 DO.out
      obtain ⟨l1, l2⟩ := LA
      have nn : (t : Int) - (m : Int) = (dn : Int) := by
        have := DL.out
        omega
      have nb : dn ≤ 40 := by have := DL.out; omega
      have LEF : Hid (LeftR S w (wr.setCell ⟨rb, 0, none⟩ (.slice ka m kc)) rb (dropR x bed)) := ⟨_, ⟨_, LB⟩, LC, fun k hk => by
        rcases hk with q | q
        · subst q; exact .inl RH.out.inB
        · exact .inr (M2.new k q)⟩
      clear ML M2 MR LB LC DL RH MH HP
      go_wp2
      go_ret
      exact ⟨rfl, LEF.out⟩

end Go.Proofs.Ytgcpkploeobafaa
