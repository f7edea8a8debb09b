/- The document's own Forget of layer 9. -/
import Derived.Test.YtohedeeajcdjcaaDoorRoRefB
namespace Go.Proofs.YtohedeeajcdjcaaDoor
open Go.RowKit
open Bt

set_option maxRecDepth 100000 in
set_option maxHeartbeats 4000000 in
theorem refForget_any (b : Nat) (now : Int) (hn : 0 ≤ now ∧ now ≤ 2 ^ 41) (F : Nat → Prop) (x : Tab) (w : World) (hc : RTab F w b x) :
    Calls Tryd.prog 20 #[.pointer (some ⟨b, 0, none⟩), .int .i64 now] w fun e w' => ∃ v F', e = .returned v ∧ NumsAt (fun k => w.heap.size ≤ k ∧ k < w'.heap.size ∧ ¬ F' k) w' v (goneX x now) ∧ RTab F' w' b (forgetX x now) ∧ Chg F w w' ∧ ∀ k, F' k → F k ∨ w.heap.size ≤ k := by
  obtain ⟨v, h⟩ := hc
  have H := Hid.intro h
  have HN := Hid.intro hn
  have c1 := h.cells.2.1
  have c3 := h.cells.2.2.2
  obtain ⟨ao, c, hv, hfm⟩ := h.form
  subst hv
  have hroom := (mayR_true h.ok.may).2.1
  have hfew := h.ok.few
  obtain ⟨L, hL⟩ : ∃ L, L = x.l.length := ⟨_, rfl⟩
  rw [← hL] at c3 hfew hfm
  have HL := Hid.intro hL
  clear hL h hn
  go_enter Tryd.func20, Tryd.ntmps20
  go_wp2_with fail
  go_loopw [5, 6, 7] (fun gv kv i ws => ∃ t : Nat, t ≤ L ∧ i = .int .i64 t ∧ FgAt w.heap.size ws gv kv (((x.l.take t).filter (oldS x now)).map (fun s => s.tx)) ((x.l.take t).filter (fun s => !oldS x now s)) ∧ Below w.heap.size w ws) (fun _ _ i _ => L - (intOf i).toNat)
  case atStart => exact ⟨0, by omega, rfl, fg_start _ _, Below.refl _ w⟩
  case round =>
    obtain ⟨t, ht, rfl, hG, hB⟩ := hrel
    have BH := Hid.intro hB
    have GH := Hid.intro hG
    by_cases hlt : t < L
    · obtain ⟨g, rfl⟩ := hfm.resolve_left (by omega)
      have hlx : t < x.l.length := by rw [← HL.out]; exact hlt
      have HT1 : RS F w b (.slice (some ⟨g, 0, none⟩) x.l.length c) x := by have := H.out; exact this
      obtain ⟨q0, q1, q2, q3⟩ := HT1.sen hlx
      have s0 := below_cell hB q0
      have s1 := below_cell hB q1
      have s2 := below_cell hB q2
      have s3 := below_cell hB q3
      have t1 : (t : Int) < (L : Int) := by omega
      have t0 : (0 : Int) ≤ (t : Int) := by omega
      have d1 := below_cell hB c1
      have he := H.out.ok.each _ (List.getElem_mem hlx)
      obtain ⟨s, hs⟩ : ∃ s, s = x.l[t] := ⟨_, rfl⟩
      have HSS := Hid.intro hs
      rw [← hs] at s0 s1 s2 s3 he
      clear q0 q1 q2 q3 hs HT1 hB hG
      obtain ⟨st, sa, sr, sl⟩ := s
      have hmy := mayR_true H.out.ok.may
      have LG : Hid (sl + (x.age : Int) = sl + (x.age : Int)) := rfl
      have OL : Hid (oldS x now ⟨st, sa, sr, sl⟩ = decide (sl + (x.age : Int) < now)) := rfl
      have FT1 := Hid.intro (filter_take (oldS x now) x.l hlx)
      have FT2 := Hid.intro (filter_take (fun s => !oldS x now s) x.l hlx)
      rw [← HSS.out, OL.out] at FT1
      rw [← HSS.out] at FT2
      simp only [OL.out] at FT2
      have hmx : ((x.l.take t).filter (oldS x now)).length ≤ t ∧ ((x.l.take t).filter (fun s => !oldS x now s)).length ≤ t := by
        have e : (x.l.take t).length ≤ t := by simp; omega
        exact ⟨Nat.le_trans (List.length_filter_le _ _) e, Nat.le_trans (List.length_filter_le _ _) e⟩
      obtain ⟨⟨ga, gc, hgv⟩, ka, kc, hkv⟩ := GH.out.form
      rw [List.length_map] at hgv
      obtain ⟨gn, hgn⟩ : ∃ gn, gn = ((x.l.take t).filter (oldS x now)).length := ⟨_, rfl⟩
      obtain ⟨kn, hkn⟩ : ∃ kn, kn = ((x.l.take t).filter (fun s => !oldS x now s)).length := ⟨_, rfl⟩
      rw [← hgn] at hgv hmx
      rw [← hkn] at hkv hmx
      subst hgv hkv
      have HGN := Hid.intro hgn
      have HKN := Hid.intro hkn
      obtain ⟨hm1, hm2⟩ := hmx
      have d3 := below_cell BH.out c3
      have hsm : IntKind.i64.wrap (sl + (x.age : Int)) = sl + (x.age : Int) := IntWalk.i64_in _ (by have := he.2; simp only at this; omega)
      have GA := Hid.intro GH.out
      have BB := Hid.intro BH.out
      clear hgn hkn GH hmy he OL
      generalize x.age = ag at *
      obtain ⟨sm, hsm2⟩ : ∃ sm, sm = sl + (ag : Int) := ⟨_, rfl⟩
      rw [← hsm2] at hsm LG FT1 FT2
      have hsm3 : IntKind.i64.wrap (sl + (ag : Int)) = sm := by rw [← hsm2]; exact hsm
      clear hsm hsm2
      go_wp2_with fail
      by_cases e : sm < now
      · rw [decide_eq_true e] at FT1 FT2
        go_region_held3 (fun w' => w'.cell? ⟨b, 3, none⟩ = some (.slice (some ⟨g, 0, none⟩) L c) ∧ w'.cell? ⟨g, t * 4 + 3, none⟩ = some (.int .i64 sl) ∧ w'.cell? ⟨b, 1, none⟩ = some (.int .i64 (ag : Int))) (go_keep) (fail)
        all_goals
          have y0 : wr.drew.cell? ⟨g, t * 4, none⟩ = some (.int .i64 st) := s0
          have y3 : wr.drew.cell? ⟨b, 3, none⟩ = some (.slice (some ⟨g, 0, none⟩) L c) := d3
          have GD := Hid.intro (GA.out.below (Below.refl _ wr).drew)
          have BD := Hid.intro BB.out.drew
          clear s0 s1 s2 s3 d1 d3 LG GA BB e
          generalize wr.drew = wd at *
          obtain ⟨iI, hiI, hzI0, hzI1, hzI2⟩ := info_parts info_int
          have BN := Hid.intro ((Below.refl _ wd).alloc (Nat.le_refl _) (.cells #[.int .i64 st] 3))
          have FIN := Hid.intro (fun (wb : World) (gz cz : Nat) hown hgrow hat => GD.out.num (w0 := w) (W := wd.alloc (.cells #[.int .i64 st] 3)) (wb := wb) (gz := gz) (cz := cz) (n := gn) (u := st) BN.out (BD.out.trans (BN.out.mono BD.out.size)) (Nat.le_refl _) (by rw [List.length_map]; exact HGN.out) hown hgrow hat)
          have O1 : Hid (wd.ownsRow 0 3 1 (.slice ga gn gc) gn (((x.l.take t).filter (oldS x now)).map (fun s => s.tx) |>.map N64)) := by
            have := GD.out.own1
            rw [List.length_map, ← HGN.out] at this
            exact this
          have ON := Hid.intro (O1.out.alloc (.cells #[.int .i64 st] 3))
          have GR := Hid.intro (heap_alloc_new wd (.cells #[.int .i64 st] 3))
          generalize ((((x.l.take t).filter (oldS x now)).map (fun s => s.tx)).map N64) = gl at *
          go_wp2_with (refine wpList_append_lies _ (by rfl) _ _ _ (by rfl) 0 3 iI (.int .i64 0) 1 8 Tryd.underlying33 hiI hzI0 hzI1 hzI2 (by rfl) (by decide) (.slice ga gn gc) gn gl (by rfl) ON.out ⟨wd.heap.size, 0, none⟩ 1 1 [.int .i64 st] (by rfl) (by rfl) (World.news_of_block (cs := #[.int .i64 st]) GR.out) (by simp [Value.oneCell']) (by decide) (by unfold maxLen; omega) (by omega) (Nat.zero_le _) (wd.heap.size + 1) (by simp) ?_; intro gz cz wb hown hgrow hat hltz; have FN := Hid.intro (FIN.out wb gz cz hown hgrow (by simpa using hat)); clear hown hgrow hat hltz)
          have E1 : (x.l.take (t + 1)).filter (oldS x now) = (x.l.take t).filter (oldS x now) ++ [⟨st, sa, sr, sl⟩] := by rw [FT1.out]; simp
          have E2 : (x.l.take (t + 1)).filter (fun s => !oldS x now s) = (x.l.take t).filter (fun s => !oldS x now s) := by rw [FT2.out]; simp
          refine ⟨⟨t + 1, by omega, by go_num, ?_, FN.out.2⟩, by simp [intOf]; omega⟩
          rw [E1, E2, List.map_append]
          exact FN.out.1
      · rw [decide_eq_false e] at FT1 FT2
        go_region_held3 (fun w' => w'.cell? ⟨b, 3, none⟩ = some (.slice (some ⟨g, 0, none⟩) L c) ∧ w'.cell? ⟨g, t * 4 + 3, none⟩ = some (.int .i64 sl) ∧ w'.cell? ⟨b, 1, none⟩ = some (.int .i64 (ag : Int))) (go_keep) (fail)
        all_goals
          have y0 : wr.drew.cell? ⟨g, t * 4, none⟩ = some (.int .i64 st) := s0
          have y1 : wr.drew.cell? ⟨g, t * 4 + 1, none⟩ = some (.int .i64 sa) := s1
          have y2 : wr.drew.cell? ⟨g, t * 4 + 2, none⟩ = some (.int .i64 sr) := s2
          have y4 : wr.drew.cell? ⟨g, t * 4 + 3, none⟩ = some (.int .i64 sl) := s3
          have y3 : wr.drew.cell? ⟨b, 3, none⟩ = some (.slice (some ⟨g, 0, none⟩) L c) := d3
          have GD := Hid.intro (GA.out.below (Below.refl _ wr).drew)
          have BD := Hid.intro BB.out.drew
          clear s0 s1 s2 s3 d1 d3 LG GA BB e
          generalize wr.drew = wd at *
          obtain ⟨iI, hiI, hzI0, hzI1, hzI2⟩ := info_parts info_seen
          have BN := Hid.intro ((Below.refl _ wd).alloc (Nat.le_refl _) (.cells #[.int .i64 st, .int .i64 sa, .int .i64 sr, .int .i64 sl] 41))
          have FIN := Hid.intro (fun (wb : World) (gz cz : Nat) hown hgrow hat => GD.out.sen (w0 := w) (W := wd.alloc (.cells #[.int .i64 st, .int .i64 sa, .int .i64 sr, .int .i64 sl] 41)) (wb := wb) (gz := gz) (cz := cz) (n := kn) (s := ⟨st, sa, sr, sl⟩) BN.out (BD.out.trans (BN.out.mono BD.out.size)) (Nat.le_refl _) HKN.out hown hgrow hat)
          have O1 : Hid (wd.ownsRow 0 41 4 (.slice ka kn kc) kn (scells ((x.l.take t).filter (fun s => !oldS x now s)))) := by
            have := GD.out.own2
            rw [← HKN.out] at this
            exact this
          have ON := Hid.intro (O1.out.alloc (.cells #[.int .i64 st, .int .i64 sa, .int .i64 sr, .int .i64 sl] 41))
          have GR := Hid.intro (heap_alloc_new wd (.cells #[.int .i64 st, .int .i64 sa, .int .i64 sr, .int .i64 sl] 41))
          generalize scells ((x.l.take t).filter (fun s => !oldS x now s)) = gl at *
          go_wp2_with (refine wpList_append_lies _ (by rfl) _ _ _ (by rfl) 0 41 iI (.agg #[.int .i64 0, .int .i64 0, .int .i64 0, .int .i64 0]) 4 32 Tryd.underlying35 hiI hzI0 hzI1 hzI2 (by rfl) (by decide) (.slice ka kn kc) kn gl (by rfl) ON.out ⟨wd.heap.size, 0, none⟩ 1 1 [.int .i64 st, .int .i64 sa, .int .i64 sr, .int .i64 sl] (by rfl) (by rfl) (World.news_of_block (cs := #[.int .i64 st, .int .i64 sa, .int .i64 sr, .int .i64 sl]) GR.out) (by simp [Value.oneCell']) (by decide) (by unfold maxLen; omega) (by omega) (Nat.zero_le _) (wd.heap.size + 1) (by simp) ?_; intro gz cz wb hown hgrow hat hltz; have FN := Hid.intro (FIN.out wb gz cz hown hgrow (by simpa using hat)); clear hown hgrow hat hltz)
          have E1 : (x.l.take (t + 1)).filter (oldS x now) = (x.l.take t).filter (oldS x now) := by rw [FT1.out]; simp
          have E2 : (x.l.take (t + 1)).filter (fun s => !oldS x now s) = (x.l.take t).filter (fun s => !oldS x now s) ++ [⟨st, sa, sr, sl⟩] := by rw [FT2.out]; simp
          refine ⟨⟨t + 1, by omega, by go_num, ?_, FN.out.2⟩, by simp [intOf]; omega⟩
          rw [E1, E2]
          exact FN.out.1
    · obtain rfl : t = L := by omega
      have kk : ¬ (t : Int) < (t : Int) := by omega
      have d3 := below_cell hB c3
      have eL : x.l.take t = x.l := by rw [HL.out]; exact List.take_length
      rw [eL] at hG
      obtain ⟨⟨ga, gc, hgv⟩, ka, kc, hkv⟩ := hG.form
      generalize List.length (((x.l).filter (oldS x now)).map (fun s => s.tx)) = gn at hgv
      generalize List.length ((x.l).filter (fun s => !oldS x now s)) = kn at hkv
      subst hgv hkv
      obtain ⟨⟨k3, f3⟩, FN⟩ := RS.forgot (now := now) H.out hB hG
      have FH := Hid.intro FN
      rw [← HL.out] at k3
      clear FN hG hB GH BH
      go_wp2
      go_ret
      obtain ⟨F', q⟩ := FH.out
      exact ⟨_, rfl, F', q⟩

end Go.Proofs.YtohedeeajcdjcaaDoor
