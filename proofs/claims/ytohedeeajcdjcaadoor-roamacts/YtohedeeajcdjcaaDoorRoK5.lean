/- Package roam: isLonger, Forget. -/
import Derived.Test.YtohedeeajcdjcaaDoorRoK4
import Derived.Test.YtohedeeajcdjcaaDoorRoFg
namespace Go.Proofs.YtohedeeajcdjcaaDoor
open Go.RowKit
open Bt

variable {S : Nat → Prop} {w w' : World} {b : Nat} {v : Value} {x : Tab}

theorem olonger_any (last now ticks : Int) (h1 : 0 ≤ last ∧ last ≤ 2 ^ 40) (h2 : 0 ≤ now ∧ now ≤ 2 ^ 41) (h3 : 0 ≤ ticks ∧ ticks ≤ 1000) (w : World) :
    Calls Tryd.prog 28 #[.int .i64 last, .int .i64 now, .int .i64 ticks] w fun e w' => e = .returned (.bool (decide (last + ticks < now))) ∧ w = w' := by
  by_cases q : last < now
  · have e1 : IntKind.u64.wrap now = now := IntWalk.u64_in _ (by omega)
    have e2 : IntKind.u64.wrap last = last := IntWalk.u64_in _ (by omega)
    have e3 : IntKind.u64.wrap ticks = ticks := IntWalk.u64_in _ (by omega)
    have e4 : IntKind.u64.wrap (now - last) = now - last := IntWalk.u64_in _ (by omega)
    by_cases r : last + ticks < now
    · have k : ticks < now - last := by omega
      rw [decide_eq_true r]
      go_enter Tryd.func28, Tryd.ntmps28
      go_wp2
      go_ret
      exact ⟨rfl, rfl⟩
    · have k : ¬ ticks < now - last := by omega
      rw [decide_eq_false r]
      go_enter Tryd.func28, Tryd.ntmps28
      go_wp2
      go_ret
      exact ⟨rfl, rfl⟩
  · have r : ¬ last + ticks < now := by omega
    rw [decide_eq_false r]
    go_enter Tryd.func28, Tryd.ntmps28
    go_wp2
    go_ret
    exact ⟨rfl, rfl⟩

/-- What is kept is laid down. -/
theorem TS.forgot {F : Nat → Prop} {wr : World} {gv kv : Value} {now : Int} (h : TS F w b v x) (hB : Below w.heap.size w wr) (hG : FgAt w.heap.size wr gv kv (goneX x now) (forgetX x now).l) :
    (wr.cell? ⟨b, 3, none⟩ = some v ∧ wr.frozen? ⟨b, 3, none⟩ = false) ∧ ∃ F', NumsAt (fun k => w.heap.size ≤ k ∧ k < (wr.setCell ⟨b, 3, none⟩ kv).heap.size ∧ ¬ F' k) (wr.setCell ⟨b, 3, none⟩ kv) gv (goneX x now) ∧ Tabl F' (wr.setCell ⟨b, 3, none⟩ kv) b (forgetX x now) ∧ Chg F w (wr.setCell ⟨b, 3, none⟩ kv) ∧ ∀ k, F' k → F k ∨ w.heap.size ≤ k := by
  have hb := h.lt b h.inB
  have hb3 := (hB.block b hb).trans h.head
  have h3 := heap_setCell_same wr b 3 _ _ kv hb3
  have C : Chg (fun k => k = b) wr (wr.setCell ⟨b, 3, none⟩ kv) := Chg.setCell (S := fun k => k = b) (Chg.refl _ wr) (fun _ => rfl) _
  have hs := hB.size
  have hs2 := C.size
  refine ⟨⟨by rw [cell_of_row _ _ 3 _ _ _ hb3]; rfl, frozen_of_row wr b 3 _ _ hb3⟩, fun k => k = b ∨ kv.ownBlock = some k, ?_, ⟨kv, by rw [h3]; rfl, ?_, .inl rfl, fun k hk => ⟨.inr hk, ?_⟩, fun k hk => ?_, forgetX_ok h.ok now⟩, ?_, fun k hk => ?_⟩
  · have q : NumsAt (fun k => gv.ownBlock = some k) wr gv (goneX x now) := nums_of_owns hG.own1 (fun k hk => hk)
    refine (q.kept C (fun k hk e => ?_)).mono (fun k hk => ⟨hG.new1 k hk, ?_, fun e => ?_⟩)
    · have := hG.new1 k hk
      omega
    · have := (World.ownsRow.lt hG.own1 k hk).2
      omega
    · rcases e with e | e
      · have := hG.new1 k hk
        omega
      · exact hG.apart k hk e
  · exact ownsRow_keep hG.own2 fun k hk => C.block k (World.ownsRow.lt hG.own2 k hk).2 (fun q => by have := hG.new2 k hk; omega)
  · have := hG.new2 k hk
    omega
  · rcases hk with q | q
    · omega
    · have := (World.ownsRow.lt hG.own2 k q).2
      omega
  · exact ((below_chg hB).mono (fun _ q _ => q.elim)).trans C (fun k q _ => by rw [q]; exact h.inB)
  · rcases hk with q | q
    · exact .inl (by rw [q]; exact h.inB)
    · exact .inr (hG.new2 k q)

set_option maxRecDepth 100000 in
set_option maxHeartbeats 2000000 in
theorem oforget_any (b : Nat) (now : Int) (hn : 0 ≤ now ∧ now ≤ 2 ^ 41) (F : Nat → Prop) (x : Tab) (w : World) (hc : Tabl F w b x) :
    Calls Tryd.prog 16 #[.pointer (some ⟨b, 0, none⟩), .int .i64 now] w fun e w' => ∃ v F', e = .returned v ∧ NumsAt (fun k => w.heap.size ≤ k ∧ k < w'.heap.size ∧ ¬ F' k) w' v (goneX x now) ∧ Tabl F' w' b (forgetX x now) ∧ Chg F w w' ∧ ∀ k, F' k → F k ∨ w.heap.size ≤ k := by
  obtain ⟨v, h⟩ := hc
  have H := Hid.intro h
  have HN := Hid.intro hn
  have c1 := h.cells.2.1
  have c3 := h.cells.2.2.2
  obtain ⟨ao, c, hv, hfm⟩ := h.form
  subst hv
  have hroom := (mayR_true h.ok.may).2.1
  have hfew := h.ok.few
  obtain ⟨L, hL⟩ : ∃ L, L = x.l.length := ⟨_, rfl⟩
  rw [← hL] at c3 hfew hfm
  have HL := Hid.intro hL
  clear hL h hn
  go_enter Tryd.func16, Tryd.ntmps16
  go_wp2_with fail
  go_loopw [5, 6, 16] (fun gv kv i ws => ∃ t : Nat, t ≤ L ∧ i = .int .i64 t ∧ FgAt w.heap.size ws gv kv (((x.l.take t).filter (oldS x now)).map (fun s => s.tx)) ((x.l.take t).filter (fun s => !oldS x now s)) ∧ Below w.heap.size w ws) (fun _ _ i _ => L - (intOf i).toNat)
  case atStart => exact ⟨0, by omega, rfl, fg_start _ _, Below.refl _ w⟩
  case round =>
    obtain ⟨t, ht, rfl, hG, hB⟩ := hrel
    have BH := Hid.intro hB
    have GH := Hid.intro hG
    by_cases hlt : t < L
    · obtain ⟨g, rfl⟩ := hfm.resolve_left (by omega)
      have hlx : t < x.l.length := by rw [← HL.out]; exact hlt
      have HT1 : TS F w b (.slice (some ⟨g, 0, none⟩) x.l.length c) x := by have := H.out; exact this
      obtain ⟨q0, q1, q2, q3⟩ := HT1.sen hlx
      have s0 := below_cell hB q0
      have s1 := below_cell hB q1
      have s2 := below_cell hB q2
      have s3 := below_cell hB q3
      have t1 : (t : Int) < (L : Int) := by omega
      have t0 : (0 : Int) ≤ (t : Int) := by omega
      have d1 := below_cell hB c1
      have he := H.out.ok.each _ (List.getElem_mem hlx)
      obtain ⟨s, hs⟩ : ∃ s, s = x.l[t] := ⟨_, rfl⟩
      have HSS := Hid.intro hs
      rw [← hs] at s0 s1 s2 s3 he
      clear q0 q1 q2 q3 hs HT1 hB hG
      obtain ⟨st, sa, sr, sl⟩ := s
      have hmy := mayR_true H.out.ok.may
      have LG := Hid.intro (fun W => olonger_any sl now (x.age : Int) he.2 HN.out (by omega) W)
      have OL : Hid (oldS x now ⟨st, sa, sr, sl⟩ = decide (sl + (x.age : Int) < now)) := rfl
      have FT1 := Hid.intro (filter_take (oldS x now) x.l hlx)
      have FT2 := Hid.intro (filter_take (fun s => !oldS x now s) x.l hlx)
      rw [← HSS.out, OL.out] at FT1
      rw [← HSS.out] at FT2
      simp only [OL.out] at FT2
      have hmx : ((x.l.take t).filter (oldS x now)).length ≤ t ∧ ((x.l.take t).filter (fun s => !oldS x now s)).length ≤ t := by
        have e : (x.l.take t).length ≤ t := by simp; omega
        exact ⟨Nat.le_trans (List.length_filter_le _ _) e, Nat.le_trans (List.length_filter_le _ _) e⟩
      obtain ⟨⟨ga, gc, hgv⟩, ka, kc, hkv⟩ := GH.out.form
      rw [List.length_map] at hgv
      obtain ⟨gn, hgn⟩ : ∃ gn, gn = ((x.l.take t).filter (oldS x now)).length := ⟨_, rfl⟩
      obtain ⟨kn, hkn⟩ : ∃ kn, kn = ((x.l.take t).filter (fun s => !oldS x now s)).length := ⟨_, rfl⟩
      rw [← hgn] at hgv hmx
      rw [← hkn] at hkv hmx
      subst hgv hkv
      have HGN := Hid.intro hgn
      have HKN := Hid.intro hkn
      obtain ⟨hm1, hm2⟩ := hmx
      have BA := (Below.refl _ wr).alloc (Nat.le_refl _) (.cells #[.int .i64 st, .int .i64 sa, .int .i64 sr, .int .i64 sl] 41)
      have nw := heap_alloc_new wr (.cells #[.int .i64 st, .int .i64 sa, .int .i64 sr, .int .i64 sl] 41)
      have e1 := below_cell BA d1
      have GA := Hid.intro (GH.out.below BA)
      have BB := Hid.intro (BH.out.trans (BA.mono BH.out.size))
      clear hgn hkn GH d1 BA hmy he OL
      generalize x.age = ag at *
      go_wp2_with fail
      generalize wr.alloc (.cells #[.int .i64 st, .int .i64 sa, .int .i64 sr, .int .i64 sl] 41) = wa at *
      generalize wr.heap.size = bs at *
      have x0 : wa.cell? ⟨bs, 0, none⟩ = some (.int .i64 st) := by rw [cell_of_row _ _ 0 _ _ _ nw]; rfl
      have x1 : wa.cell? ⟨bs, 1, none⟩ = some (.int .i64 sa) := by rw [cell_of_row _ _ 1 _ _ _ nw]; rfl
      have x2 : wa.cell? ⟨bs, 2, none⟩ = some (.int .i64 sr) := by rw [cell_of_row _ _ 2 _ _ _ nw]; rfl
      have x3 : wa.cell? ⟨bs, 3, none⟩ = some (.int .i64 sl) := by rw [cell_of_row _ _ 3 _ _ _ nw]; rfl
      clear nw s0 s1 s2 s3
      by_cases e : sl + (ag : Int) < now
      · rw [decide_eq_true e] at LG FT1 FT2
        go_region_held3 (fun w' => w'.cell? ⟨bs, 3, none⟩ = some (.int .i64 sl) ∧ w'.cell? ⟨b, 1, none⟩ = some (.int .i64 (ag : Int))) (go_keep)
          (first | (go_at_call 28; refine (LG.out _).mono ?_; rintro e w3 ⟨rfl, rfl⟩) | fail)
        all_goals
          have y0 : wa.drew.cell? ⟨bs, 0, none⟩ = some (.int .i64 st) := x0
          have GD := Hid.intro (GA.out.below (Below.refl _ wa).drew)
          have BD := Hid.intro BB.out.drew
          clear x0 x1 x2 x3 e1 LG GA BB e
          generalize wa.drew = wd at *
          obtain ⟨iI, hiI, hzI0, hzI1, hzI2⟩ := info_parts info_int
          have BN := Hid.intro ((Below.refl _ wd).alloc (Nat.le_refl _) (.cells #[.int .i64 st] 3))
          have FIN := Hid.intro (fun (wb : World) (gz cz : Nat) hown hgrow hat => GD.out.num (w0 := w) (W := wd.alloc (.cells #[.int .i64 st] 3)) (wb := wb) (gz := gz) (cz := cz) (n := gn) (u := st) BN.out (BD.out.trans (BN.out.mono BD.out.size)) (Nat.le_refl _) (by rw [List.length_map]; exact HGN.out) hown hgrow hat)
          have O1 : Hid (wd.ownsRow 0 3 1 (.slice ga gn gc) gn (((x.l.take t).filter (oldS x now)).map (fun s => s.tx) |>.map N64)) := by
            have := GD.out.own1
            rw [List.length_map, ← HGN.out] at this
            exact this
          have ON := Hid.intro (O1.out.alloc (.cells #[.int .i64 st] 3))
          have GR := Hid.intro (heap_alloc_new wd (.cells #[.int .i64 st] 3))
          generalize ((((x.l.take t).filter (oldS x now)).map (fun s => s.tx)).map N64) = gl at *
          go_wp2_with (refine wpList_append_lies _ (by rfl) _ _ _ (by rfl) 0 3 iI (.int .i64 0) 1 8 Tryd.underlying33 hiI hzI0 hzI1 hzI2 (by rfl) (by decide) (.slice ga gn gc) gn gl (by rfl) ON.out ⟨wd.heap.size, 0, none⟩ 1 1 [.int .i64 st] (by rfl) (by rfl) (World.news_of_block (cs := #[.int .i64 st]) GR.out) (by simp [Value.oneCell']) (by decide) (by unfold maxLen; omega) (by omega) (Nat.zero_le _) (wd.heap.size + 1) (by simp) ?_; intro gz cz wb hown hgrow hat hltz; have FN := Hid.intro (FIN.out wb gz cz hown hgrow (by simpa using hat)); clear hown hgrow hat hltz)
          have E1 : (x.l.take (t + 1)).filter (oldS x now) = (x.l.take t).filter (oldS x now) ++ [⟨st, sa, sr, sl⟩] := by rw [FT1.out]; simp
          have E2 : (x.l.take (t + 1)).filter (fun s => !oldS x now s) = (x.l.take t).filter (fun s => !oldS x now s) := by rw [FT2.out]; simp
          refine ⟨⟨t + 1, by omega, by go_num, ?_, FN.out.2⟩, by simp [intOf]; omega⟩
          rw [E1, E2, List.map_append]
          exact FN.out.1
      · rw [decide_eq_false e] at LG FT1 FT2
        go_region_held3 (fun w' => w'.cell? ⟨bs, 3, none⟩ = some (.int .i64 sl) ∧ w'.cell? ⟨b, 1, none⟩ = some (.int .i64 (ag : Int))) (go_keep)
          (first | (go_at_call 28; refine (LG.out _).mono ?_; rintro e w3 ⟨rfl, rfl⟩) | fail)
        all_goals
          have y0 : wa.drew.cell? ⟨bs, 0, none⟩ = some (.int .i64 st) := x0
          have y1 : wa.drew.cell? ⟨bs, 1, none⟩ = some (.int .i64 sa) := x1
          have y2 : wa.drew.cell? ⟨bs, 2, none⟩ = some (.int .i64 sr) := x2
          have y3 : wa.drew.cell? ⟨bs, 3, none⟩ = some (.int .i64 sl) := x3
          have GD := Hid.intro (GA.out.below (Below.refl _ wa).drew)
          have BD := Hid.intro BB.out.drew
          clear x0 x1 x2 x3 e1 LG GA BB e
          generalize wa.drew = wd at *
          obtain ⟨iI, hiI, hzI0, hzI1, hzI2⟩ := info_parts info_seen
          have BN := Hid.intro ((Below.refl _ wd).alloc (Nat.le_refl _) (.cells #[.int .i64 st, .int .i64 sa, .int .i64 sr, .int .i64 sl] 41))
          have FIN := Hid.intro (fun (wb : World) (gz cz : Nat) hown hgrow hat => GD.out.sen (w0 := w) (W := wd.alloc (.cells #[.int .i64 st, .int .i64 sa, .int .i64 sr, .int .i64 sl] 41)) (wb := wb) (gz := gz) (cz := cz) (n := kn) (s := ⟨st, sa, sr, sl⟩) BN.out (BD.out.trans (BN.out.mono BD.out.size)) (Nat.le_refl _) HKN.out hown hgrow hat)
          have O1 : Hid (wd.ownsRow 0 41 4 (.slice ka kn kc) kn (scells ((x.l.take t).filter (fun s => !oldS x now s)))) := by
            have := GD.out.own2
            rw [← HKN.out] at this
            exact this
          have ON := Hid.intro (O1.out.alloc (.cells #[.int .i64 st, .int .i64 sa, .int .i64 sr, .int .i64 sl] 41))
          have GR := Hid.intro (heap_alloc_new wd (.cells #[.int .i64 st, .int .i64 sa, .int .i64 sr, .int .i64 sl] 41))
          generalize scells ((x.l.take t).filter (fun s => !oldS x now s)) = gl at *
          go_wp2_with (refine wpList_append_lies _ (by rfl) _ _ _ (by rfl) 0 41 iI (.agg #[.int .i64 0, .int .i64 0, .int .i64 0, .int .i64 0]) 4 32 Tryd.underlying35 hiI hzI0 hzI1 hzI2 (by rfl) (by decide) (.slice ka kn kc) kn gl (by rfl) ON.out ⟨wd.heap.size, 0, none⟩ 1 1 [.int .i64 st, .int .i64 sa, .int .i64 sr, .int .i64 sl] (by rfl) (by rfl) (World.news_of_block (cs := #[.int .i64 st, .int .i64 sa, .int .i64 sr, .int .i64 sl]) GR.out) (by simp [Value.oneCell']) (by decide) (by unfold maxLen; omega) (by omega) (Nat.zero_le _) (wd.heap.size + 1) (by simp) ?_; intro gz cz wb hown hgrow hat hltz; have FN := Hid.intro (FIN.out wb gz cz hown hgrow (by simpa using hat)); clear hown hgrow hat hltz)
          have E1 : (x.l.take (t + 1)).filter (oldS x now) = (x.l.take t).filter (oldS x now) := by rw [FT1.out]; simp
          have E2 : (x.l.take (t + 1)).filter (fun s => !oldS x now s) = (x.l.take t).filter (fun s => !oldS x now s) ++ [⟨st, sa, sr, sl⟩] := by rw [FT2.out]; simp
          refine ⟨⟨t + 1, by omega, by go_num, ?_, FN.out.2⟩, by simp [intOf]; omega⟩
          rw [E1, E2]
          exact FN.out.1
    · obtain rfl : t = L := by omega
      have kk : ¬ (t : Int) < (t : Int) := by omega
      have eL : x.l.take t = x.l := by rw [HL.out]; exact List.take_length
      rw [eL] at hG
      obtain ⟨⟨ga, gc, hgv⟩, ka, kc, hkv⟩ := hG.form
      generalize List.length (((x.l).filter (oldS x now)).map (fun s => s.tx)) = gn at hgv
      generalize List.length ((x.l).filter (fun s => !oldS x now s)) = kn at hkv
      subst hgv hkv
      obtain ⟨⟨k3, f3⟩, FN⟩ := TS.forgot (now := now) H.out hB hG
      have FH := Hid.intro FN
      rw [← HL.out] at k3
      clear FN hG hB GH BH
      go_wp2
      go_ret
      obtain ⟨F', q⟩ := FH.out
      exact ⟨_, rfl, F', q⟩

theorem oforget_nil (now : Int) (w : World) :
    Calls Tryd.prog 16 #[.pointer none, .int .i64 now] w fun e w' => ∃ ao cap, e = .returned (.slice ao 0 cap) ∧ Below w.heap.size w w' := by
  go_enter Tryd.func16, Tryd.ntmps16
  go_wp2
  go_ret
  exact ⟨_, _, rfl, Below.refl _ _⟩

theorem olist_nil (w : World) :
    Calls Tryd.prog 17 #[.pointer none] w fun e w' => ∃ ao cap, e = .returned (.slice ao 0 cap) ∧ Below w.heap.size w w' := by
  go_enter Tryd.func17, Tryd.ntmps17
  go_wp2
  go_ret
  exact ⟨_, _, rfl, Below.refl _ _⟩

end Go.Proofs.YtohedeeajcdjcaaDoor
