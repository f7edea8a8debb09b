/- The document's own Late of layer 12. -/
import Derived.Test.YtgcpkploeobafaaEdRefD
namespace Go.Proofs.Ytgcpkploeobafaa
open Go.RowKit
open Bt

/-- Two lists under way, apart. -/
structure Mk2 (B : Nat) (ws : World) (gv : Value) (gn : Nat) (gl : List Jb) (kv : Value) (kn : Nat) (kl : List Jb) : Prop where
  m1 : Mk B ws gv gn gl
  m2 : Mk B ws kv kn kl
  apart : ∀ k, gv.ownBlock = some k → kv.ownBlock ≠ some k

variable {B : Nat} {w ws w' W wb : World} {gv kv v' : Value} {gn kn : Nat} {gl kl : List Jb} {j : Jb}

theorem Mk2.below (h : Mk2 B ws gv gn gl kv kn kl) (hb : Below ws.heap.size ws w') : Mk2 B w' gv gn gl kv kn kl := ⟨h.m1.below hb, h.m2.below hb, h.apart⟩

theorem Mk2.more1 (h : Mk2 B W gv gn gl kv kn kl) (hB : Below B w W) (hBw : B ≤ w.heap.size) (hown : wb.ownsRow 0 38 7 v' (gn + 1) (jcells (gl ++ [j]))) (hgrow : W.grownBy wb gv.ownBlock) (hat : v'.ownBlock = gv.ownBlock ∨ v'.ownBlock = some W.heap.size) : Mk2 B wb v' (gn + 1) (gl ++ [j]) kv kn kl ∧ Below B w wb := by
  obtain ⟨a, b⟩ := h.m1.more hB hBw hown hgrow hat
  refine ⟨⟨a, ⟨h.m2.len, ownsRow_keep h.m2.own fun k hk => hgrow.block k (World.ownsRow.lt h.m2.own k hk).2 (fun q => h.apart k q.symm hk), h.m2.new⟩, fun k hk q => ?_⟩, b⟩
  rcases hat with e | e
  · rw [e] at hk; exact h.apart k hk q
  · rw [e] at hk
    have e1 : W.heap.size = k := by simpa using hk
    have := (World.ownsRow.lt h.m2.own k q).2
    omega

theorem Mk2.swap (h : Mk2 B ws gv gn gl kv kn kl) : Mk2 B ws kv kn kl gv gn gl := ⟨h.m2, h.m1, fun k hk q => h.apart k q hk⟩

theorem Mk2.more2 (h : Mk2 B W gv gn gl kv kn kl) (hB : Below B w W) (hBw : B ≤ w.heap.size) (hown : wb.ownsRow 0 38 7 v' (kn + 1) (jcells (kl ++ [j]))) (hgrow : W.grownBy wb kv.ownBlock) (hat : v'.ownBlock = kv.ownBlock ∨ v'.ownBlock = some W.heap.size) : Mk2 B wb gv gn gl v' (kn + 1) (kl ++ [j]) ∧ Below B w wb := by
  obtain ⟨a, b⟩ := h.swap.more1 hB hBw hown hgrow hat
  exact ⟨a.swap, b⟩

set_option maxRecDepth 100000 in
set_option maxHeartbeats 4000000 in
theorem refLate12_any (rb : Nat) (now : Int) (S : Nat → Prop) (x : List Jb) (w : World) (hc : RQue S w rb x) :
    Calls Try.prog 23 #[.pointer (some ⟨rb, 0, none⟩), .int .i64 now] w fun e w' => ∃ v, e = .returned v ∧ LeftRJ S w w' rb (lateR x now) v (lateD x now) := by
  obtain ⟨v, h⟩ := hc
  have RH := Hid.intro h
  have cv := h.cell
  have few := h.ok.few
  have DO := Hid.intro (lateR_ok h.ok now)
  obtain ⟨ao, c, rfl, _, hp⟩ := h.js
  have HP := Hid.intro hp
  obtain ⟨L, hL⟩ : ∃ L, L = x.length := ⟨_, rfl⟩
  have HL := Hid.intro hL
  rw [← hL] at cv few RH
  clear hp hL h
  go_enter Try.func23, Try.ntmps23
  go_wp2_with fail
  go_loopw [5, 6, 7] (fun gv kv iv ws => ∃ (t gn kn : Nat), t ≤ L ∧ gn ≤ t ∧ kn ≤ t ∧ iv = .int .i64 t ∧ Mk2 w.heap.size ws gv gn ((x.take t).filter (fun j => decide (j.dl ≤ now))) kv kn ((x.take t).filter (fun j => !decide (j.dl ≤ now))) ∧ Below w.heap.size w ws) (fun _ _ iv _ => L - (intOf iv).toNat)
  case atStart => exact ⟨0, 0, 0, by omega, by omega, by omega, rfl, ⟨mk_start _ _, mk_start _ _, fun k hk => by simp [Value.ownBlock] at hk⟩, Below.refl _ w⟩
  case round =>
    obtain ⟨t, gn, kn, ht, hgt, hkt, rfl, hM, hB⟩ := hrel
    have MH := Hid.intro hM
    have BH := Hid.intro hB
    have d0 := (hB.cell (cell_lt cv)).trans cv
    clear hM hB
    obtain ⟨ga, gc, rfl⟩ := MH.out.m1.form
    obtain ⟨ka, kc, rfl⟩ := MH.out.m2.form
    by_cases hlt : t < L
    · have hlt' : t < x.length := by rw [← HL.out]; exact hlt
      have t0 : (0 : Int) ≤ (t : Int) := by omega
      have t1 : (t : Int) < (L : Int) := by omega
      obtain ⟨pb, off, rfl, _, hcc⟩ := HP.out (by omega)
      obtain ⟨e0, e1, e2, e3, e4, e5, e6⟩ := (hcc t hlt').below BH.out
      have FT := Hid.intro (filter_takeJ (fun j => decide (j.dl ≤ now)) x hlt')
      have FU := Hid.intro (filter_takeJ (fun j => !decide (j.dl ≤ now)) x hlt')
      generalize x[t] = jb at *
      obtain ⟨b0, b1, b2, b3, b4, b5, b6⟩ := jb
      simp only at e0 e1 e2 e3 e4 e5 e6 FT FU
      clear hcc
      by_cases hb : b5 ≤ now
      · have EX : Hid ((x.take (t + 1)).filter (fun j => decide (j.dl ≤ now)) = (x.take t).filter (fun j => decide (j.dl ≤ now)) ++ [⟨b0, b1, b2, b3, b4, b5, b6⟩]) := by
          rw [Hid, FT.out, if_pos (by simp [hb])]
        have EY : Hid ((x.take (t + 1)).filter (fun j => !decide (j.dl ≤ now)) = (x.take t).filter (fun j => !decide (j.dl ≤ now))) := by
          rw [Hid, FU.out, if_neg (by simp [hb]), List.append_nil]
        have BN := (Below.refl _ wr).alloc (Nat.le_refl _) (.cells #[.int .i64 b0, .int .i64 b1, .int .i64 b2, .int .i64 b3, .int .i64 b4, .int .i64 b5, .int .i64 b6] 38)
        have GR := Hid.intro ((js_block (l := [⟨b0, b1, b2, b3, b4, b5, b6⟩]) (heap_alloc_new wr (.cells #[.int .i64 b0, .int .i64 b1, .int .i64 b2, .int .i64 b3, .int .i64 b4, .int .i64 b5, .int .i64 b6] 38)) (c := 1) (by simp)).mono (R' := fun _ => True) (fun _ _ => trivial))
        have ON := Hid.intro ((MH.out.below BN).m1.own)
        have HLN := Hid.intro MH.out.m1.len
        have FIN := Hid.intro (fun (v' : Value) (wb : World) hown hgrow hat => (MH.out.below BN).more1 (w := w) (v' := v') (wb := wb) (j := ⟨b0, b1, b2, b3, b4, b5, b6⟩) (BH.out.trans (BN.mono BH.out.size)) (Nat.le_refl _) hown hgrow hat)
        generalize (x.take t).filter (fun j => decide (j.dl ≤ now)) = gl at *
        generalize (x.take t).filter (fun j => !decide (j.dl ≤ now)) = kl at *
        clear FT FU MH BN
        go_wp2_with (refine append_jobs (by rfl) _ _ (by rfl) (.slice ga gn gc) gn gl HLN.out (by rfl) ON.out (fun _ => True) (some ⟨wr.heap.size, 0, none⟩) 1 1 [⟨b0, b1, b2, b3, b4, b5, b6⟩] rfl (by rfl) GR.out (fun h => by cases h) (by omega) ?_; intro v' wb hown hgrow hat; have FN := Hid.intro (FIN.out v' wb hown hgrow (by simpa using hat)); clear hown hgrow hat)
        refine ⟨⟨t + 1, gn + 1, kn, by omega, by omega, by omega, by go_num, ?_, FN.out.2⟩, by simp [intOf]; omega⟩
        rw [EX.out, EY.out]
        exact FN.out.1
      · have EX : Hid ((x.take (t + 1)).filter (fun j => !decide (j.dl ≤ now)) = (x.take t).filter (fun j => !decide (j.dl ≤ now)) ++ [⟨b0, b1, b2, b3, b4, b5, b6⟩]) := by
          rw [Hid, FU.out, if_pos (by simp [hb])]
        have EY : Hid ((x.take (t + 1)).filter (fun j => decide (j.dl ≤ now)) = (x.take t).filter (fun j => decide (j.dl ≤ now))) := by
          rw [Hid, FT.out, if_neg (by simp [hb]), List.append_nil]
        have BN := (Below.refl _ wr).alloc (Nat.le_refl _) (.cells #[.int .i64 b0, .int .i64 b1, .int .i64 b2, .int .i64 b3, .int .i64 b4, .int .i64 b5, .int .i64 b6] 38)
        have GR := Hid.intro ((js_block (l := [⟨b0, b1, b2, b3, b4, b5, b6⟩]) (heap_alloc_new wr (.cells #[.int .i64 b0, .int .i64 b1, .int .i64 b2, .int .i64 b3, .int .i64 b4, .int .i64 b5, .int .i64 b6] 38)) (c := 1) (by simp)).mono (R' := fun _ => True) (fun _ _ => trivial))
        have ON := Hid.intro ((MH.out.below BN).m2.own)
        have HLN := Hid.intro MH.out.m2.len
        have FIN := Hid.intro (fun (v' : Value) (wb : World) hown hgrow hat => (MH.out.below BN).more2 (w := w) (v' := v') (wb := wb) (j := ⟨b0, b1, b2, b3, b4, b5, b6⟩) (BH.out.trans (BN.mono BH.out.size)) (Nat.le_refl _) hown hgrow hat)
        generalize (x.take t).filter (fun j => decide (j.dl ≤ now)) = gl at *
        generalize (x.take t).filter (fun j => !decide (j.dl ≤ now)) = kl at *
        clear FT FU MH BN
        go_wp2_with (refine append_jobs (by rfl) _ _ (by rfl) (.slice ka kn kc) kn kl HLN.out (by rfl) ON.out (fun _ => True) (some ⟨wr.heap.size, 0, none⟩) 1 1 [⟨b0, b1, b2, b3, b4, b5, b6⟩] rfl (by rfl) GR.out (fun h => by cases h) (by omega) ?_; intro v' wb hown hgrow hat; have FN := Hid.intro (FIN.out v' wb hown hgrow (by simpa using hat)); clear hown hgrow hat)
        refine ⟨⟨t + 1, gn, kn + 1, by omega, by omega, by omega, by go_num, ?_, FN.out.2⟩, by simp [intOf]; omega⟩
        rw [EX.out, EY.out]
        exact FN.out.1
    · obtain rfl : t = L := by omega
      have t1 : ¬ (t : Int) < (t : Int) := by omega
      have M2 := MH.out
      rw [List.take_of_length_le (by rw [← HL.out]; exact Nat.le_refl _)] at M2
      obtain ⟨LA, LB, LC⟩ := RH.out.laid BH.out M2.m2 DO.out
      obtain ⟨l1, l2⟩ := LA
      have hs := BH.out.size
      have hrb := RH.out.lt rb RH.out.inB
      have C : Chg (fun k => k = rb) wr (wr.setCell ⟨rb, 0, none⟩ (.slice ka kn kc)) := Chg.setCell (S := fun k => k = rb) (Chg.refl _ wr) (fun _ => rfl) _
      have own1 : (wr.setCell ⟨rb, 0, none⟩ (.slice ka kn kc)).ownsRow 0 38 7 (.slice ga gn gc) (lateD x now).length (jcells (lateD x now)) := by
        have q := ownsRow_keep M2.m1.own fun k hk => C.block k (World.ownsRow.lt M2.m1.own k hk).2 (fun q => by have := M2.m1.new k hk; omega)
        have e : gn = (lateD x now).length := M2.m1.len
        rw [← e]
        exact q
      have LEF : Hid (LeftRJ S w (wr.setCell ⟨rb, 0, none⟩ (.slice ka kn kc)) rb (lateR x now) (.slice ga gn gc) (lateD x now)) := by
        refine ⟨_, js_of_owns own1 (fun k hk => ⟨M2.m1.new k hk, (World.ownsRow.lt own1 k hk).2, fun q => ?_⟩), ⟨_, LB⟩, LC, fun k hk => ?_⟩
        · rcases q with q | q
          · have := M2.m1.new k hk; omega
          · exact M2.apart k hk q
        · rcases hk with q | q
          · subst q; exact .inl RH.out.inB
          · exact .inr (M2.m2.new k q)
      clear M2 LB LC RH MH HP own1 C
      go_wp2
      go_ret
      exact ⟨_, rfl, LEF.out⟩

end Go.Proofs.Ytgcpkploeobafaa
