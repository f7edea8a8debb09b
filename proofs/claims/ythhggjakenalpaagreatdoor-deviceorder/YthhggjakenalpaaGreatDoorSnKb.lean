/- Package sender: Tick. -/
import Derived.Test.YthhggjakenalpaaGreatDoorMSnD
namespace Go.Proofs.YthhggjakenalpaaGreatDoor
set_option maxRecDepth 100000
open Go.RowKit Go.Shelf
open Bt
attribute [local go_sem] Oper.semAt_some

theorem ntick_nil (now : Int) (w : World) :
    Calls Tryz.prog 46 #[.pointer none, .int .i64 now] w fun e w' => ∃ ao cap, e = .returned (.slice ao 0 cap) ∧ Below w.heap.size w w' := by
  have B2 := Hid.intro (((Below.refl _ w).alloc (Nat.le_refl _) (.cells #[.pointer none] 74)).alloc (by simp) (.cells #[.int .i64 now] 3))
  go_enter Tryz.func46, Tryz.ntmps46
  go_wp2
  go_ret
  exact ⟨none, 0, rfl, B2.out⟩

variable {M : Nat} {S : Nat → Prop} {w W W' : World} {b n t : Nat} {v ow : Value} {P : Nat → Flt} {lv : Nat → Value} {x : Snd} {now : Int} {ad : Nat → Option Addr} {cp : Nat → Nat}

/-- Ahead of the first round. -/
theorem TkN.start (hN : NS M S w b v n P lv x) : TkN w (((((w.alloc (.cells #[.pointer (some ⟨b, 0, none⟩)] 74)).alloc (.cells #[.int .i64 now] 3)).alloc (.cells #[.slice none 0 0] 81)).alloc (.cells #[.pointer (some ⟨b, 0, none⟩)] 74)).alloc (.cells #[.int .i64 now] 3)) b v n P lv x now 0 (.slice none 0 0) (fun _ => none) (fun _ => 0) := by
  have g1 := heap_alloc_new w (.cells #[.pointer (some ⟨b, 0, none⟩)] 74)
  have B1 := (Below.refl _ w).alloc (Nat.le_refl _) (.cells #[.pointer (some ⟨b, 0, none⟩)] 74)
  have z1 := World.size_alloc w (.cells #[.pointer (some ⟨b, 0, none⟩)] 74)
  generalize w.alloc (.cells #[.pointer (some ⟨b, 0, none⟩)] 74) = w1 at g1 B1 z1 ⊢
  have g2 := heap_alloc_new w1 (.cells #[.int .i64 now] 3)
  have B2 := (Below.refl _ w1).alloc (Nat.le_refl _) (.cells #[.int .i64 now] 3)
  have z2 := World.size_alloc w1 (.cells #[.int .i64 now] 3)
  generalize w1.alloc (.cells #[.int .i64 now] 3) = w2 at g2 B2 z2 ⊢
  have g3 := heap_alloc_new w2 (.cells #[.slice none 0 0] 81)
  have B3 := (Below.refl _ w2).alloc (Nat.le_refl _) (.cells #[.slice none 0 0] 81)
  have z3 := World.size_alloc w2 (.cells #[.slice none 0 0] 81)
  generalize w2.alloc (.cells #[.slice none 0 0] 81) = w3 at g3 B3 z3 ⊢
  have g4 := heap_alloc_new w3 (.cells #[.pointer (some ⟨b, 0, none⟩)] 74)
  have B4 := (Below.refl _ w3).alloc (Nat.le_refl _) (.cells #[.pointer (some ⟨b, 0, none⟩)] 74)
  have z4 := World.size_alloc w3 (.cells #[.pointer (some ⟨b, 0, none⟩)] 74)
  generalize w3.alloc (.cells #[.pointer (some ⟨b, 0, none⟩)] 74) = w4 at g4 B4 z4 ⊢
  have g5 := heap_alloc_new w4 (.cells #[.int .i64 now] 3)
  have B5 := (Below.refl _ w4).alloc (Nat.le_refl _) (.cells #[.int .i64 now] 3)
  have z5 := World.size_alloc w4 (.cells #[.int .i64 now] 3)
  generalize w4.alloc (.cells #[.int .i64 now] 3) = w5 at g5 B5 z5 ⊢
  have BB : Below w.heap.size w w5 := (((B1.trans (B2.mono (by omega))).trans (B3.mono (by omega))).trans (B4.mono (by omega))).trans (B5.mono (by omega))
  rw [z1] at g2
  rw [z2, z1] at g3
  rw [z3, z2, z1] at g4
  rw [z4, z3, z2, z1] at g5
  have h := hN.below BB
  refine ⟨BB.block b (hN.lt b hN.inB), ?_, (below_chg BB).mono (fun _ q _ => q.elim), FtsN.start, ?_, ?_, ?_, ?_, g5⟩
  · rw [fcells_congr (P := tkP x now P 0) (P' := P) (lv' := lv) (fun i _ => ⟨by unfold tkP; rw [if_neg (by omega)], rfl⟩)]
    exact h.own
  · exact (B5.block _ (by omega)).trans ((B4.block _ (by omega)).trans ((B3.block _ (by omega)).trans ((B2.block _ (by omega)).trans g1)))
  · exact (B5.block _ (by omega)).trans ((B4.block _ (by omega)).trans ((B3.block _ (by omega)).trans g2))
  · exact (B5.block _ (by omega)).trans ((B4.block _ (by omega)).trans g3)
  · exact (B5.block _ (by omega)).trans g4

/-- Behind the last round. -/
theorem TkN.done (hn : -(2 ^ 40) ≤ now ∧ now ≤ 2 ^ 40) (hN : NS M S w b v n P lv x) (h : TkN w W b v n P lv x now n ow ad cp) (D : Nat) (o' : Obj) (hD : w.heap.size + 5 ≤ D) {o : Obj} (hK : W.heap[D]? = some o) (ho : o.isCells = false) :
    ∃ F', FrsAt (fun k => w.heap.size ≤ k ∧ k < (W.putObj D o').heap.size ∧ ¬ F' k) (fun k => F' k ∨ w.heap.size ≤ k) (W.putObj D o') ow (tickP x now) ∧ Sndr (M + 1) F' (W.putObj D o') b (tickC x now) ∧ Chg S w (W.putObj D o') ∧ ∀ k, F' k → S k ∨ w.heap.size ≤ k := by
  have hg := grownBy_putObj' W D o'
  have hb := hN.lt b hN.inB
  have h2 := h.grown (W' := W.putObj D o') hb (fun k hk => hN.lt k (hN.inV k hk).1) hg (fun r e => by cases e; exact ⟨hD, o, hK, ho⟩)
  generalize W.putObj D o' = W2 at h2 ⊢
  obtain ⟨e1, e2⟩ := tick_all (now := now) hN.fl
  refine ⟨S, ?_, ?_, h2.chg.mono (fun k q _ => (hN.inV k q).1), fun k q => .inl q⟩
  · rw [e1]
    exact h2.fts.frs.mono (fun k hk => ⟨by omega, hk.2, fun q => by have := hN.lt k q; omega⟩) (fun k hk => .inr (by omega))
  · have hs := h2.chg.size
    refine ⟨v, n, tkP x now P n, lv, h2.head.trans hN.head, e2, h2.own, fun i hi => ?_, hN.inB, hN.inV, hN.zero, fun k hk => Nat.lt_of_lt_of_le (hN.lt k hk) hs, tickC_ok hN.ok (by omega)⟩
    have e : (tkP x now P n i).rows = (P i).rows := by
      unfold tkP
      rw [if_pos hi]
      exact (tickF_parts x now (P i)).2.1
    rw [e]
    exact h2.rows hN hi

set_option maxRecDepth 100000 in
set_option maxHeartbeats 4000000 in
theorem ntick_any (M b : Nat) (now : Int) (hn : -(2 ^ 40) ≤ now ∧ now ≤ 2 ^ 40) (F : Nat → Prop) (x : Snd) (w : World) (hM : M ≤ 1000000) (hc : Sndr M F w b x) :
    Calls Tryz.prog 46 #[.pointer (some ⟨b, 0, none⟩), .int .i64 now] w fun e w' => ∃ v F', e = .returned v ∧ FrsAt (fun k => w.heap.size ≤ k ∧ k < w'.heap.size ∧ ¬ F' k) (fun k => F' k ∨ w.heap.size ≤ k) w' v (tickP x now) ∧ Sndr (M + 1) F' w' b (tickC x now) ∧ Chg F w w' ∧ ∀ k, F' k → F k ∨ w.heap.size ≤ k := by
  obtain ⟨v, n, P, lv, h⟩ := hc
  have hmo : Tryz.prog.follows .mixedOrders = true := by kernel_rfl
  obtain ⟨g, hg⟩ : ∃ g, 0 < n → ∃ c, v = .slice (some ⟨g, 0, none⟩) n c := by
    obtain ⟨ao, c, e, hf⟩ := h.form
    rcases hf with q | ⟨g, rfl⟩
    · exact ⟨0, fun q2 => by omega⟩
    · exact ⟨g, fun _ => ⟨c, e⟩⟩
  have ST := TkN.start (now := now) h
  refine (callsIn_wide (n := 4)).1 ?_
  refine callsIn_of_wp_marks Tryz.func46 rfl trivial ?_ rfl
  simp only [Tryz.ntmps46, List.size_toArray, List.length_cons, List.length_nil, Nat.reduceAdd, Nat.reduceSub, Array.replicate_succ, Array.replicate_zero, List.push_toArray, List.append_toArray, List.nil_append, List.cons_append]
  gi_wp2_with (refine ⟨trivial, ?_⟩; gi_at_call 87; refine (callsIn_wide.2 (due_any b now _)).mono ?_; rintro e w' ⟨rfl, rfl⟩)
  have hsz : (((((w.alloc (.cells #[.pointer (some ⟨b, 0, none⟩)] 74)).alloc (.cells #[.int .i64 now] 3)).alloc (.cells #[.slice none 0 0] 81)).alloc (.cells #[.pointer (some ⟨b, 0, none⟩)] 74)).alloc (.cells #[.int .i64 now] 3)).heap.size = w.heap.size + 5 := by simp
  generalize ((((w.alloc (.cells #[.pointer (some ⟨b, 0, none⟩)] 74)).alloc (.cells #[.int .i64 now] 3)).alloc (.cells #[.slice none 0 0] 81)).alloc (.cells #[.pointer (some ⟨b, 0, none⟩)] 74)).alloc (.cells #[.int .i64 now] 3) = W5 at ST hsz ⊢
  simp only [Nat.add_assoc, Nat.reduceAdd]
  refine wpIn_range_told rfl (by decide) (gf := 126) (lb := #[.pointer (some ⟨w.heap.size + 3, 0, none⟩), .pointer (some ⟨w.heap.size + 4, 0, none⟩)]) rfl trivial (enters_of Tryz.func126 (by kernel_rfl) rfl)
    (dueN x now P n) (TkI w b v n P lv x now) (fun c => #[.pointer (some ⟨g, dueAt x now P n c * 6, none⟩)]) (by rw [hsz]; exact TkI.own h) ⟨0, _, _, _, rfl, ST⟩ (fun _ => rfl)
    (fun l J W hJI hJd hY h0 => due1_told 3 (by decide) hM h hn g hg l J W hJI hJd hY h0)
    (fun c => { tmps := #[.pointer (some ⟨b, 0, none⟩), .int .i64 now, .pointer (some ⟨w.heap.size, 0, none⟩), .pointer (some ⟨w.heap.size + 1, 0, none⟩), .slice none 0 0, .pointer (some ⟨w.heap.size + 2, 0, none⟩), .pointer (some ⟨g, dueAt x now P n c * 6, none⟩), .pointer (some ⟨b, 0, none⟩), .bool false, .pointer (some ⟨b, 0, none⟩), .int .i64 now, .func (.func 126) #[] #[.pointer (some ⟨w.heap.size + 3, 0, none⟩), .pointer (some ⟨w.heap.size + 4, 0, none⟩)], .pointer (some ⟨g, dueAt x now P n c * 6, none⟩), undef, undef, undef, undef, undef, undef, undef, undef, undef, undef, undef, undef, undef, undef, undef, undef, undef, undef, undef, undef, undef, undef, undef, undef, undef, undef, undef, undef, undef, undef, undef, undef, undef, undef, undef, undef, undef, undef, undef], defers := [] }) ?assign ?body ?done
  case assign =>
    intro l c W K _ hK
    gi_wp2
    exact hK
  case body =>
    rintro l c W hc ⟨s, ow, ad, cp, hs, hT⟩
    obtain ⟨hd1, hd2, hd3⟩ := dueAt_spec x now P hc
    generalize dueAt x now P n c = d at hd1 hd2 hd3 ⊢
    obtain ⟨vc, hv⟩ := hg (by omega)
    subst hv
    have hT' := hT.at (hs.trans hd3.symm)
    clear hT hs
    have hT2 := hT'.drew.drew
    have hbw := h.lt b h.inB
    have hok := h.ofOk hd1
    have hsr := hok.size
    have hrl := hok.rows
    have hwf : Fence.wide.fn 88 := trivial
    have hwg : Fence.wide.fn 89 := trivial
    have HT := Hid.intro hT'
    have bd := h.ok.bounds
    have hmem := h.mem hd1
    have hse := h.ok.sent _ hmem
    have b1 := hT'.boxes.1
    have b2 := hT'.boxes.2.1
    have b3 := hT'.boxes.2.2.1
    have z3 := hT'.boxes.2.2.2.2.2
    have d0 := (hT'.cells h).1
    have d7 := (hT'.cells h).2.2.1
    obtain ⟨f0, f1, f2, f3, f4, f5⟩ := hT'.flight hd1
    have hn4 := h.ok.few
    rw [h.len] at hn4
    have hfew := tickT_few x now P (t := d) (by omega) (by omega)
    have h1 : 1 ≤ 4 - 1 - 1 := by decide
    gi_wp2
    refine wpIn_mono (Q := fun e a' w' => e = .normal ∧ a' = { tmps := #[.pointer (some ⟨b, 0, none⟩), .int .i64 now, .pointer (some ⟨w.heap.size, 0, none⟩), .pointer (some ⟨w.heap.size + 1, 0, none⟩), .slice none 0 0, .pointer (some ⟨w.heap.size + 2, 0, none⟩), .pointer (some ⟨g, d * 6, none⟩), .pointer (some ⟨b, 0, none⟩), .bool false, .pointer (some ⟨b, 0, none⟩), .int .i64 now, .func (.func 126) #[] #[.pointer (some ⟨w.heap.size + 3, 0, none⟩), .pointer (some ⟨w.heap.size + 4, 0, none⟩)], .pointer (some ⟨g, d * 6, none⟩), .pointer (some ⟨g, d * 6, none⟩), .pointer (some ⟨g, d * 6, none⟩), .pointer (some ⟨g, d * 6 + 1, none⟩), .int .i64 ((P d).sent : Int), .pointer (some ⟨b, 0, none⟩), .pointer (some ⟨b, 0, none⟩), .pointer (some ⟨b, 3, none⟩), .pointer (some ⟨b, 7, none⟩), .int .i64 (x.most : Int), .bool (decide ((P d).sent < x.most)), undef, undef, undef, undef, undef, undef, undef, undef, undef, undef, undef, undef, undef, undef, undef, undef, undef, undef, undef, undef, undef, undef, undef, undef, undef, undef, undef, undef, undef], defers := [] } ∧ w' = W.drew) ?r6 ?rest
    case r6 =>
      gi_region_with_o (fail)
      all_goals exact ⟨rfl, rfl, rfl⟩
    case rest =>
      rintro e a6 w6 ⟨rfl, rfl, rfl⟩
      by_cases hsm : (P d).sent < x.most
      · rw [decide_eq_true hsm]
        have SF := Hid.intro (shardFrames_any b x.tx g (d * 6) (P d).group _ _ W.drew.drew (lv d) (P d).rows (by omega) (by omega) (fun r hr => by rw [hsr r (by omega)]; omega) d0 f0 hok.group f3 (hT2.rows h hd1))
        have SH := Hid.intro (fun (w1 : World) (fb : Nat) hfb hSh => hT2.shards h hd1 hd2 hsm (w1 := w1) (fb := fb) hfb hSh hfew 81)
        obtain ⟨NN, hNN⟩ : ∃ NN, NN = (P d).rows.length := ⟨_, rfl⟩
        rw [← hNN] at SF SH
        obtain ⟨TL, hTL⟩ : ∃ TL, TL = (tickT x now P d).length := ⟨_, rfl⟩
        rw [← hTL] at SH
        have BXS := Hid.intro (fun (w1 : World) (hB : Below W.drew.drew.heap.size W.drew.drew w1) => (hT2.below hbw hB).boxes.2.2.1)
        clear hT2 HT ST hTL hNN
        gi_wp2
        refine wpIn_region_any hmo ?_
        try (change wpAnyIn _ _ _ _ _ _ _ _ _ (World.drew _))
        refine wpAnyIn_ready (rs := [0, 1, 2]) (by kernel_rfl) (by simp) ?_
        refine AllReadyIn.cons rfl (fun K hK => ?_) ?_
        · go_simp
          refine hK _ _ ?_
          clear hK K
          refine wpAnyIn_ready (rs := [1, 2]) (by kernel_rfl) (by simp) ?_
          refine AllReadyIn.cons rfl (fun K hK => ?_) ?_
          · go_simp
            refine hK _ _ ?_
            clear hK K
            refine wpAnyIn_ready (rs := [2]) (by kernel_rfl) (by simp) ?_
            refine AllReadyIn.cons rfl (fun K hK => ?_) ?_
            · go_simp
              refine hK _ _ ?_
              clear hK K
              refine wpAnyIn_ready (rs := [3]) (by kernel_rfl) (by simp) ?_
              refine AllReadyIn.cons rfl (fun K hK => ?_) ?_
              · go_simp
                refine (CallsIn.inRound l (callsIn_wide.2 SF.out)).mono ?_
                rintro e w1 ⟨fb, rfl, hfb, hSh⟩
                have b3q := BXS.out w1 (by obtain ⟨_, _, q⟩ := hSh; exact q.bel)
                obtain ⟨gz, cz, wb, hrun, hF⟩ := SH.out w1 fb hfb hSh
                have c3 := hF.c3
                have zz3 := hF.z3
                have HF := Hid.intro hF
                clear hF hSh hfb
                simp only []
                refine hK _ _ ?_
                clear hK K
                refine wpAnyIn_ready (rs := [4]) (by kernel_rfl) (by simp) ?_
                refine AllReadyIn.cons rfl (fun K hK => ?_) ?_
                · refine stepIn_append rfl _ _ _ rfl _ _ _ _ (by rfl) (by rfl) hrun ?_
                  refine hK _ _ ?_
                  clear hK K
                  simp only [Act.put, List.setIfInBounds_toArray]
                  refine wpAnyIn_ready (rs := [5]) (by kernel_rfl) (by simp) ?_
                  refine AllReadyIn.cons rfl (fun K hK => ?_) ?_
                  · go_simp
                    refine hK _ _ ?_
                    clear hK K
                    refine wpAnyIn_done (by kernel_rfl) ?_ _
                    have c1 := HF.out.c1
                    have z1 := HF.out.z1
                    have cn := HF.out.cn
                    have c2 := HF.out.c2
                    have z2 := HF.out.z2
                    clear c3 zz3 hrun b3q b1 b2 b3 z3 d0 d7 f0 f1 f2 f3 f4 f5 SF SH BXS
                    gi_wp2
                    have hdn : dueN x now P (d + 1) = c + 1 := by rw [dueN_succ, if_pos hd2, hd3]
                    exact ⟨⟨HF.out.keep.size, fun k o hk => HF.out.keep.same k o (by omega)⟩, by rw [← hdn]; exact HF.out.fin⟩
                  exact AllReadyIn.nil
                exact AllReadyIn.nil
              exact AllReadyIn.nil
            exact AllReadyIn.nil
          refine AllReadyIn.cons rfl (fun K hK => ?_) ?_
          · go_simp
            refine hK _ _ ?_
            clear hK K
            refine wpAnyIn_ready (rs := [1]) (by kernel_rfl) (by simp) ?_
            refine AllReadyIn.cons rfl (fun K hK => ?_) ?_
            · go_simp
              refine hK _ _ ?_
              clear hK K
              refine wpAnyIn_ready (rs := [3]) (by kernel_rfl) (by simp) ?_
              refine AllReadyIn.cons rfl (fun K hK => ?_) ?_
              · go_simp
                refine (CallsIn.inRound l (callsIn_wide.2 SF.out)).mono ?_
                rintro e w1 ⟨fb, rfl, hfb, hSh⟩
                have b3q := BXS.out w1 (by obtain ⟨_, _, q⟩ := hSh; exact q.bel)
                obtain ⟨gz, cz, wb, hrun, hF⟩ := SH.out w1 fb hfb hSh
                have c3 := hF.c3
                have zz3 := hF.z3
                have HF := Hid.intro hF
                clear hF hSh hfb
                simp only []
                refine hK _ _ ?_
                clear hK K
                refine wpAnyIn_ready (rs := [4]) (by kernel_rfl) (by simp) ?_
                refine AllReadyIn.cons rfl (fun K hK => ?_) ?_
                · refine stepIn_append rfl _ _ _ rfl _ _ _ _ (by rfl) (by rfl) hrun ?_
                  refine hK _ _ ?_
                  clear hK K
                  simp only [Act.put, List.setIfInBounds_toArray]
                  refine wpAnyIn_ready (rs := [5]) (by kernel_rfl) (by simp) ?_
                  refine AllReadyIn.cons rfl (fun K hK => ?_) ?_
                  · go_simp
                    refine hK _ _ ?_
                    clear hK K
                    refine wpAnyIn_done (by kernel_rfl) ?_ _
                    have c1 := HF.out.c1
                    have z1 := HF.out.z1
                    have cn := HF.out.cn
                    have c2 := HF.out.c2
                    have z2 := HF.out.z2
                    clear c3 zz3 hrun b3q b1 b2 b3 z3 d0 d7 f0 f1 f2 f3 f4 f5 SF SH BXS
                    gi_wp2
                    have hdn : dueN x now P (d + 1) = c + 1 := by rw [dueN_succ, if_pos hd2, hd3]
                    exact ⟨⟨HF.out.keep.size, fun k o hk => HF.out.keep.same k o (by omega)⟩, by rw [← hdn]; exact HF.out.fin⟩
                  exact AllReadyIn.nil
                exact AllReadyIn.nil
              exact AllReadyIn.nil
            exact AllReadyIn.nil
          exact AllReadyIn.nil
        refine AllReadyIn.cons rfl (fun K hK => ?_) ?_
        · go_simp
          refine hK _ _ ?_
          clear hK K
          refine wpAnyIn_ready (rs := [0, 2]) (by kernel_rfl) (by simp) ?_
          refine AllReadyIn.cons rfl (fun K hK => ?_) ?_
          · go_simp
            refine hK _ _ ?_
            clear hK K
            refine wpAnyIn_ready (rs := [2]) (by kernel_rfl) (by simp) ?_
            refine AllReadyIn.cons rfl (fun K hK => ?_) ?_
            · go_simp
              refine hK _ _ ?_
              clear hK K
              refine wpAnyIn_ready (rs := [3]) (by kernel_rfl) (by simp) ?_
              refine AllReadyIn.cons rfl (fun K hK => ?_) ?_
              · go_simp
                refine (CallsIn.inRound l (callsIn_wide.2 SF.out)).mono ?_
                rintro e w1 ⟨fb, rfl, hfb, hSh⟩
                have b3q := BXS.out w1 (by obtain ⟨_, _, q⟩ := hSh; exact q.bel)
                obtain ⟨gz, cz, wb, hrun, hF⟩ := SH.out w1 fb hfb hSh
                have c3 := hF.c3
                have zz3 := hF.z3
                have HF := Hid.intro hF
                clear hF hSh hfb
                simp only []
                refine hK _ _ ?_
                clear hK K
                refine wpAnyIn_ready (rs := [4]) (by kernel_rfl) (by simp) ?_
                refine AllReadyIn.cons rfl (fun K hK => ?_) ?_
                · refine stepIn_append rfl _ _ _ rfl _ _ _ _ (by rfl) (by rfl) hrun ?_
                  refine hK _ _ ?_
                  clear hK K
                  simp only [Act.put, List.setIfInBounds_toArray]
                  refine wpAnyIn_ready (rs := [5]) (by kernel_rfl) (by simp) ?_
                  refine AllReadyIn.cons rfl (fun K hK => ?_) ?_
                  · go_simp
                    refine hK _ _ ?_
                    clear hK K
                    refine wpAnyIn_done (by kernel_rfl) ?_ _
                    have c1 := HF.out.c1
                    have z1 := HF.out.z1
                    have cn := HF.out.cn
                    have c2 := HF.out.c2
                    have z2 := HF.out.z2
                    clear c3 zz3 hrun b3q b1 b2 b3 z3 d0 d7 f0 f1 f2 f3 f4 f5 SF SH BXS
                    gi_wp2
                    have hdn : dueN x now P (d + 1) = c + 1 := by rw [dueN_succ, if_pos hd2, hd3]
                    exact ⟨⟨HF.out.keep.size, fun k o hk => HF.out.keep.same k o (by omega)⟩, by rw [← hdn]; exact HF.out.fin⟩
                  exact AllReadyIn.nil
                exact AllReadyIn.nil
              exact AllReadyIn.nil
            exact AllReadyIn.nil
          refine AllReadyIn.cons rfl (fun K hK => ?_) ?_
          · go_simp
            refine hK _ _ ?_
            clear hK K
            refine wpAnyIn_ready (rs := [0, 3]) (by kernel_rfl) (by simp) ?_
            refine AllReadyIn.cons rfl (fun K hK => ?_) ?_
            · go_simp
              refine hK _ _ ?_
              clear hK K
              refine wpAnyIn_ready (rs := [3]) (by kernel_rfl) (by simp) ?_
              refine AllReadyIn.cons rfl (fun K hK => ?_) ?_
              · go_simp
                refine (CallsIn.inRound l (callsIn_wide.2 SF.out)).mono ?_
                rintro e w1 ⟨fb, rfl, hfb, hSh⟩
                have b3q := BXS.out w1 (by obtain ⟨_, _, q⟩ := hSh; exact q.bel)
                obtain ⟨gz, cz, wb, hrun, hF⟩ := SH.out w1 fb hfb hSh
                have c3 := hF.c3
                have zz3 := hF.z3
                have HF := Hid.intro hF
                clear hF hSh hfb
                simp only []
                refine hK _ _ ?_
                clear hK K
                refine wpAnyIn_ready (rs := [4]) (by kernel_rfl) (by simp) ?_
                refine AllReadyIn.cons rfl (fun K hK => ?_) ?_
                · refine stepIn_append rfl _ _ _ rfl _ _ _ _ (by rfl) (by rfl) hrun ?_
                  refine hK _ _ ?_
                  clear hK K
                  simp only [Act.put, List.setIfInBounds_toArray]
                  refine wpAnyIn_ready (rs := [5]) (by kernel_rfl) (by simp) ?_
                  refine AllReadyIn.cons rfl (fun K hK => ?_) ?_
                  · go_simp
                    refine hK _ _ ?_
                    clear hK K
                    refine wpAnyIn_done (by kernel_rfl) ?_ _
                    have c1 := HF.out.c1
                    have z1 := HF.out.z1
                    have cn := HF.out.cn
                    have c2 := HF.out.c2
                    have z2 := HF.out.z2
                    clear c3 zz3 hrun b3q b1 b2 b3 z3 d0 d7 f0 f1 f2 f3 f4 f5 SF SH BXS
                    gi_wp2
                    have hdn : dueN x now P (d + 1) = c + 1 := by rw [dueN_succ, if_pos hd2, hd3]
                    exact ⟨⟨HF.out.keep.size, fun k o hk => HF.out.keep.same k o (by omega)⟩, by rw [← hdn]; exact HF.out.fin⟩
                  exact AllReadyIn.nil
                exact AllReadyIn.nil
              exact AllReadyIn.nil
            refine AllReadyIn.cons rfl (fun K hK => ?_) ?_
            · go_simp
              refine (CallsIn.inRound l (callsIn_wide.2 SF.out)).mono ?_
              rintro e w1 ⟨fb, rfl, hfb, hSh⟩
              have b3q := BXS.out w1 (by obtain ⟨_, _, q⟩ := hSh; exact q.bel)
              obtain ⟨gz, cz, wb, hrun, hF⟩ := SH.out w1 fb hfb hSh
              have c3 := hF.c3
              have zz3 := hF.z3
              have HF := Hid.intro hF
              clear hF hSh hfb
              simp only []
              refine hK _ _ ?_
              clear hK K
              refine wpAnyIn_ready (rs := [0]) (by kernel_rfl) (by simp) ?_
              refine AllReadyIn.cons rfl (fun K hK => ?_) ?_
              · go_simp
                refine hK _ _ ?_
                clear hK K
                refine wpAnyIn_ready (rs := [4]) (by kernel_rfl) (by simp) ?_
                refine AllReadyIn.cons rfl (fun K hK => ?_) ?_
                · refine stepIn_append rfl _ _ _ rfl _ _ _ _ (by rfl) (by rfl) hrun ?_
                  refine hK _ _ ?_
                  clear hK K
                  simp only [Act.put, List.setIfInBounds_toArray]
                  refine wpAnyIn_ready (rs := [5]) (by kernel_rfl) (by simp) ?_
                  refine AllReadyIn.cons rfl (fun K hK => ?_) ?_
                  · go_simp
                    refine hK _ _ ?_
                    clear hK K
                    refine wpAnyIn_done (by kernel_rfl) ?_ _
                    have c1 := HF.out.c1
                    have z1 := HF.out.z1
                    have cn := HF.out.cn
                    have c2 := HF.out.c2
                    have z2 := HF.out.z2
                    clear c3 zz3 hrun b3q b1 b2 b3 z3 d0 d7 f0 f1 f2 f3 f4 f5 SF SH BXS
                    gi_wp2
                    have hdn : dueN x now P (d + 1) = c + 1 := by rw [dueN_succ, if_pos hd2, hd3]
                    exact ⟨⟨HF.out.keep.size, fun k o hk => HF.out.keep.same k o (by omega)⟩, by rw [← hdn]; exact HF.out.fin⟩
                  exact AllReadyIn.nil
                exact AllReadyIn.nil
              exact AllReadyIn.nil
            exact AllReadyIn.nil
          exact AllReadyIn.nil
        refine AllReadyIn.cons rfl (fun K hK => ?_) ?_
        · go_simp
          refine hK _ _ ?_
          clear hK K
          refine wpAnyIn_ready (rs := [0, 1]) (by kernel_rfl) (by simp) ?_
          refine AllReadyIn.cons rfl (fun K hK => ?_) ?_
          · go_simp
            refine hK _ _ ?_
            clear hK K
            refine wpAnyIn_ready (rs := [1]) (by kernel_rfl) (by simp) ?_
            refine AllReadyIn.cons rfl (fun K hK => ?_) ?_
            · go_simp
              refine hK _ _ ?_
              clear hK K
              refine wpAnyIn_ready (rs := [3]) (by kernel_rfl) (by simp) ?_
              refine AllReadyIn.cons rfl (fun K hK => ?_) ?_
              · go_simp
                refine (CallsIn.inRound l (callsIn_wide.2 SF.out)).mono ?_
                rintro e w1 ⟨fb, rfl, hfb, hSh⟩
                have b3q := BXS.out w1 (by obtain ⟨_, _, q⟩ := hSh; exact q.bel)
                obtain ⟨gz, cz, wb, hrun, hF⟩ := SH.out w1 fb hfb hSh
                have c3 := hF.c3
                have zz3 := hF.z3
                have HF := Hid.intro hF
                clear hF hSh hfb
                simp only []
                refine hK _ _ ?_
                clear hK K
                refine wpAnyIn_ready (rs := [4]) (by kernel_rfl) (by simp) ?_
                refine AllReadyIn.cons rfl (fun K hK => ?_) ?_
                · refine stepIn_append rfl _ _ _ rfl _ _ _ _ (by rfl) (by rfl) hrun ?_
                  refine hK _ _ ?_
                  clear hK K
                  simp only [Act.put, List.setIfInBounds_toArray]
                  refine wpAnyIn_ready (rs := [5]) (by kernel_rfl) (by simp) ?_
                  refine AllReadyIn.cons rfl (fun K hK => ?_) ?_
                  · go_simp
                    refine hK _ _ ?_
                    clear hK K
                    refine wpAnyIn_done (by kernel_rfl) ?_ _
                    have c1 := HF.out.c1
                    have z1 := HF.out.z1
                    have cn := HF.out.cn
                    have c2 := HF.out.c2
                    have z2 := HF.out.z2
                    clear c3 zz3 hrun b3q b1 b2 b3 z3 d0 d7 f0 f1 f2 f3 f4 f5 SF SH BXS
                    gi_wp2
                    have hdn : dueN x now P (d + 1) = c + 1 := by rw [dueN_succ, if_pos hd2, hd3]
                    exact ⟨⟨HF.out.keep.size, fun k o hk => HF.out.keep.same k o (by omega)⟩, by rw [← hdn]; exact HF.out.fin⟩
                  exact AllReadyIn.nil
                exact AllReadyIn.nil
              exact AllReadyIn.nil
            exact AllReadyIn.nil
          refine AllReadyIn.cons rfl (fun K hK => ?_) ?_
          · go_simp
            refine hK _ _ ?_
            clear hK K
            refine wpAnyIn_ready (rs := [0, 3]) (by kernel_rfl) (by simp) ?_
            refine AllReadyIn.cons rfl (fun K hK => ?_) ?_
            · go_simp
              refine hK _ _ ?_
              clear hK K
              refine wpAnyIn_ready (rs := [3]) (by kernel_rfl) (by simp) ?_
              refine AllReadyIn.cons rfl (fun K hK => ?_) ?_
              · go_simp
                refine (CallsIn.inRound l (callsIn_wide.2 SF.out)).mono ?_
                rintro e w1 ⟨fb, rfl, hfb, hSh⟩
                have b3q := BXS.out w1 (by obtain ⟨_, _, q⟩ := hSh; exact q.bel)
                obtain ⟨gz, cz, wb, hrun, hF⟩ := SH.out w1 fb hfb hSh
                have c3 := hF.c3
                have zz3 := hF.z3
                have HF := Hid.intro hF
                clear hF hSh hfb
                simp only []
                refine hK _ _ ?_
                clear hK K
                refine wpAnyIn_ready (rs := [4]) (by kernel_rfl) (by simp) ?_
                refine AllReadyIn.cons rfl (fun K hK => ?_) ?_
                · refine stepIn_append rfl _ _ _ rfl _ _ _ _ (by rfl) (by rfl) hrun ?_
                  refine hK _ _ ?_
                  clear hK K
                  simp only [Act.put, List.setIfInBounds_toArray]
                  refine wpAnyIn_ready (rs := [5]) (by kernel_rfl) (by simp) ?_
                  refine AllReadyIn.cons rfl (fun K hK => ?_) ?_
                  · go_simp
                    refine hK _ _ ?_
                    clear hK K
                    refine wpAnyIn_done (by kernel_rfl) ?_ _
                    have c1 := HF.out.c1
                    have z1 := HF.out.z1
                    have cn := HF.out.cn
                    have c2 := HF.out.c2
                    have z2 := HF.out.z2
                    clear c3 zz3 hrun b3q b1 b2 b3 z3 d0 d7 f0 f1 f2 f3 f4 f5 SF SH BXS
                    gi_wp2
                    have hdn : dueN x now P (d + 1) = c + 1 := by rw [dueN_succ, if_pos hd2, hd3]
                    exact ⟨⟨HF.out.keep.size, fun k o hk => HF.out.keep.same k o (by omega)⟩, by rw [← hdn]; exact HF.out.fin⟩
                  exact AllReadyIn.nil
                exact AllReadyIn.nil
              exact AllReadyIn.nil
            refine AllReadyIn.cons rfl (fun K hK => ?_) ?_
            · go_simp
              refine (CallsIn.inRound l (callsIn_wide.2 SF.out)).mono ?_
              rintro e w1 ⟨fb, rfl, hfb, hSh⟩
              have b3q := BXS.out w1 (by obtain ⟨_, _, q⟩ := hSh; exact q.bel)
              obtain ⟨gz, cz, wb, hrun, hF⟩ := SH.out w1 fb hfb hSh
              have c3 := hF.c3
              have zz3 := hF.z3
              have HF := Hid.intro hF
              clear hF hSh hfb
              simp only []
              refine hK _ _ ?_
              clear hK K
              refine wpAnyIn_ready (rs := [0]) (by kernel_rfl) (by simp) ?_
              refine AllReadyIn.cons rfl (fun K hK => ?_) ?_
              · go_simp
                refine hK _ _ ?_
                clear hK K
                refine wpAnyIn_ready (rs := [4]) (by kernel_rfl) (by simp) ?_
                refine AllReadyIn.cons rfl (fun K hK => ?_) ?_
                · refine stepIn_append rfl _ _ _ rfl _ _ _ _ (by rfl) (by rfl) hrun ?_
                  refine hK _ _ ?_
                  clear hK K
                  simp only [Act.put, List.setIfInBounds_toArray]
                  refine wpAnyIn_ready (rs := [5]) (by kernel_rfl) (by simp) ?_
                  refine AllReadyIn.cons rfl (fun K hK => ?_) ?_
                  · go_simp
                    refine hK _ _ ?_
                    clear hK K
                    refine wpAnyIn_done (by kernel_rfl) ?_ _
                    have c1 := HF.out.c1
                    have z1 := HF.out.z1
                    have cn := HF.out.cn
                    have c2 := HF.out.c2
                    have z2 := HF.out.z2
                    clear c3 zz3 hrun b3q b1 b2 b3 z3 d0 d7 f0 f1 f2 f3 f4 f5 SF SH BXS
                    gi_wp2
                    have hdn : dueN x now P (d + 1) = c + 1 := by rw [dueN_succ, if_pos hd2, hd3]
                    exact ⟨⟨HF.out.keep.size, fun k o hk => HF.out.keep.same k o (by omega)⟩, by rw [← hdn]; exact HF.out.fin⟩
                  exact AllReadyIn.nil
                exact AllReadyIn.nil
              exact AllReadyIn.nil
            exact AllReadyIn.nil
          exact AllReadyIn.nil
        exact AllReadyIn.nil
      · rw [decide_eq_false hsm]
        have hT1 := HT.out.drew
        have xo := (hT1.own.stored (d * 6 + 5) (.bool true)).1
        have z5 : W.frozen? ⟨g, d * 6 + 5, none⟩ = false := HT.out.own.frozenAt _
        have CX : Chg (fun k => k = g) W.drew (W.drew.setCell ⟨g, d * 6 + 5, none⟩ (.bool true)) := Chg.setCell (S := fun k => k = g) (Chg.refl _ _) (fun _ => rfl) _
        have hgS := h.inV g rfl
        have hgl := h.lt g hgS.1
        have x0 : (W.drew.setCell ⟨g, d * 6 + 5, none⟩ (.bool true)).cell? ⟨g, d * 6, none⟩ = some (.int .i64 ((P d).group : Int)) := by
          rw [xo.cellAt _ (by omega), List.getElem?_set_ne (by omega)]
          have q := fcells_at (tkP x now P d) lv hd1 (j := 0) (by omega)
          rw [Nat.add_zero] at q
          rw [q]
          unfold fcell
          rw [tkP_self]
          rfl
        have xb := cell_chg CX (show W.drew.cell? ⟨b, 0, none⟩ = _ from d0) (fun q => hgS.2 q.symm)
        have x1 := cell_chg CX (show W.drew.cell? ⟨w.heap.size, 0, none⟩ = _ from b1) (fun q => by simp at q; omega)
        have x3 := cell_chg CX (show W.drew.cell? ⟨w.heap.size + 2, 0, none⟩ = _ from b3) (fun q => by simp at q; omega)
        have SK := (fun (w1 : World) B1 => hT1.skips h hd1 hd2 hsm (w1 := w1) B1 hfew 81)
        have BR := (fun (W' : World) c0 => bare_any b x.tx (P d).group 2 hok.group W' c0)
        obtain ⟨sq, hsq⟩ : ∃ sq : Int, sq = ((16 * (P d).group : Nat) : Int) := ⟨_, rfl⟩
        rw [← hsq] at SK BR
        obtain ⟨TL, hTL⟩ : ∃ TL, TL = (tickT x now P d).length := ⟨_, rfl⟩
        rw [← hTL] at SK
        have SKH := Hid.intro SK
        have BRH := Hid.intro (BR (W.drew.setCell ⟨g, d * 6 + 5, none⟩ (.bool true)).drew xb)
        clear hT2 HT ST hTL hsq SK BR hT1 xo CX
        gi_wp2
        refine wpIn_region_any hmo ?_
        try (change wpAnyIn _ _ _ _ _ _ _ _ _ (World.drew _))
        refine wpAnyIn_ready (rs := [0, 1, 2]) (by kernel_rfl) (by simp) ?_
        refine AllReadyIn.cons rfl (fun K hK => ?_) ?_
        · go_simp
          refine hK _ _ ?_
          clear hK K
          refine wpAnyIn_ready (rs := [1, 2]) (by kernel_rfl) (by simp) ?_
          refine AllReadyIn.cons rfl (fun K hK => ?_) ?_
          · go_simp
            refine hK _ _ ?_
            clear hK K
            refine wpAnyIn_ready (rs := [2]) (by kernel_rfl) (by simp) ?_
            refine AllReadyIn.cons rfl (fun K hK => ?_) ?_
            · go_simp
              refine hK _ _ ?_
              clear hK K
              refine wpAnyIn_ready (rs := [3]) (by kernel_rfl) (by simp) ?_
              refine AllReadyIn.cons rfl (fun K hK => ?_) ?_
              · go_simp
                refine hK _ _ ?_
                clear hK K
                refine wpAnyIn_ready (rs := [4]) (by kernel_rfl) (by simp) ?_
                refine AllReadyIn.cons rfl (fun K hK => ?_) ?_
                · go_simp
                  refine hK _ _ ?_
                  clear hK K
                  refine wpAnyIn_ready (rs := [5]) (by kernel_rfl) (by simp) ?_
                  refine AllReadyIn.cons rfl (fun K hK => ?_) ?_
                  · go_simp
                    refine hK _ _ ?_
                    clear hK K
                    refine wpAnyIn_ready (rs := [6]) (by kernel_rfl) (by simp) ?_
                    refine AllReadyIn.cons rfl (fun K hK => ?_) ?_
                    · go_simp
                      refine (CallsIn.inRound l (callsIn_wide.2 BRH.out)).mono ?_
                      rintro e w1 ⟨rfl, B1⟩
                      have b3q := (B1.cell (p := ⟨w.heap.size + 2, 0, none⟩) (cell_lt x3)).trans x3
                      obtain ⟨gz, cz, wb, hrun, hF⟩ := SKH.out w1 (((Below.refl _ _).drew).trans B1)
                      have b3a : (w1.alloc (.cells #[.int .i64 (x.tx : Int), .int .i64 sq, .int .i64 0, .int .i64 0, .int .i64 2, .slice none 0 0] 55)).cell? ⟨w.heap.size + 2, 0, none⟩ = _ := cellQ ((Below.refl _ w1).alloc (Nat.le_refl _) _) b3q
                      have c3 := hF.c3
                      have zz3 := hF.z3
                      have HF := Hid.intro hF
                      clear hF B1
                      simp only []
                      refine hK _ _ ?_
                      clear hK K
                      refine wpAnyIn_ready (rs := [7]) (by kernel_rfl) (by simp) ?_
                      refine AllReadyIn.cons rfl (fun K hK => ?_) ?_
                      · go_simp
                        refine hK _ _ ?_
                        clear hK K
                        refine wpAnyIn_ready (rs := [8]) (by kernel_rfl) (by simp) ?_
                        refine AllReadyIn.cons rfl (fun K hK => ?_) ?_
                        · refine stepIn_append rfl _ _ _ rfl _ _ _ _ (by rfl) (by rfl) hrun ?_
                          refine hK _ _ ?_
                          clear hK K
                          simp only [Act.put, List.setIfInBounds_toArray]
                          refine wpAnyIn_ready (rs := [9]) (by kernel_rfl) (by simp) ?_
                          refine AllReadyIn.cons rfl (fun K hK => ?_) ?_
                          · go_simp
                            refine hK _ _ ?_
                            clear hK K
                            refine wpAnyIn_done (by kernel_rfl) ?_ _
                            have c1 := HF.out.c1
                            have z1 := HF.out.z1
                            have cn := HF.out.cn
                            have c2 := HF.out.c2
                            have z2 := HF.out.z2
                            clear c3 zz3 hrun b3q b3a b1 b2 b3 z3 d0 d7 f0 f1 f2 f3 f4 f5 SKH BRH x0 x1 x3 xb z5
                            gi_wp2
                            have hdn : dueN x now P (d + 1) = c + 1 := by rw [dueN_succ, if_pos hd2, hd3]
                            exact ⟨⟨HF.out.keep.size, fun k o hk => HF.out.keep.same k o (by omega)⟩, by rw [← hdn]; exact HF.out.fin⟩
                          exact AllReadyIn.nil
                        exact AllReadyIn.nil
                      exact AllReadyIn.nil
                    exact AllReadyIn.nil
                  exact AllReadyIn.nil
                exact AllReadyIn.nil
              exact AllReadyIn.nil
            exact AllReadyIn.nil
          refine AllReadyIn.cons rfl (fun K hK => ?_) ?_
          · go_simp
            refine hK _ _ ?_
            clear hK K
            refine wpAnyIn_ready (rs := [1, 3]) (by kernel_rfl) (by simp) ?_
            refine AllReadyIn.cons rfl (fun K hK => ?_) ?_
            · go_simp
              refine hK _ _ ?_
              clear hK K
              refine wpAnyIn_ready (rs := [3]) (by kernel_rfl) (by simp) ?_
              refine AllReadyIn.cons rfl (fun K hK => ?_) ?_
              · go_simp
                refine hK _ _ ?_
                clear hK K
                refine wpAnyIn_ready (rs := [4]) (by kernel_rfl) (by simp) ?_
                refine AllReadyIn.cons rfl (fun K hK => ?_) ?_
                · go_simp
                  refine hK _ _ ?_
                  clear hK K
                  refine wpAnyIn_ready (rs := [5]) (by kernel_rfl) (by simp) ?_
                  refine AllReadyIn.cons rfl (fun K hK => ?_) ?_
                  · go_simp
                    refine hK _ _ ?_
                    clear hK K
                    refine wpAnyIn_ready (rs := [6]) (by kernel_rfl) (by simp) ?_
                    refine AllReadyIn.cons rfl (fun K hK => ?_) ?_
                    · go_simp
                      refine (CallsIn.inRound l (callsIn_wide.2 BRH.out)).mono ?_
                      rintro e w1 ⟨rfl, B1⟩
                      have b3q := (B1.cell (p := ⟨w.heap.size + 2, 0, none⟩) (cell_lt x3)).trans x3
                      obtain ⟨gz, cz, wb, hrun, hF⟩ := SKH.out w1 (((Below.refl _ _).drew).trans B1)
                      have b3a : (w1.alloc (.cells #[.int .i64 (x.tx : Int), .int .i64 sq, .int .i64 0, .int .i64 0, .int .i64 2, .slice none 0 0] 55)).cell? ⟨w.heap.size + 2, 0, none⟩ = _ := cellQ ((Below.refl _ w1).alloc (Nat.le_refl _) _) b3q
                      have c3 := hF.c3
                      have zz3 := hF.z3
                      have HF := Hid.intro hF
                      clear hF B1
                      simp only []
                      refine hK _ _ ?_
                      clear hK K
                      refine wpAnyIn_ready (rs := [7]) (by kernel_rfl) (by simp) ?_
                      refine AllReadyIn.cons rfl (fun K hK => ?_) ?_
                      · go_simp
                        refine hK _ _ ?_
                        clear hK K
                        refine wpAnyIn_ready (rs := [8]) (by kernel_rfl) (by simp) ?_
                        refine AllReadyIn.cons rfl (fun K hK => ?_) ?_
                        · refine stepIn_append rfl _ _ _ rfl _ _ _ _ (by rfl) (by rfl) hrun ?_
                          refine hK _ _ ?_
                          clear hK K
                          simp only [Act.put, List.setIfInBounds_toArray]
                          refine wpAnyIn_ready (rs := [9]) (by kernel_rfl) (by simp) ?_
                          refine AllReadyIn.cons rfl (fun K hK => ?_) ?_
                          · go_simp
                            refine hK _ _ ?_
                            clear hK K
                            refine wpAnyIn_done (by kernel_rfl) ?_ _
                            have c1 := HF.out.c1
                            have z1 := HF.out.z1
                            have cn := HF.out.cn
                            have c2 := HF.out.c2
                            have z2 := HF.out.z2
                            clear c3 zz3 hrun b3q b3a b1 b2 b3 z3 d0 d7 f0 f1 f2 f3 f4 f5 SKH BRH x0 x1 x3 xb z5
                            gi_wp2
                            have hdn : dueN x now P (d + 1) = c + 1 := by rw [dueN_succ, if_pos hd2, hd3]
                            exact ⟨⟨HF.out.keep.size, fun k o hk => HF.out.keep.same k o (by omega)⟩, by rw [← hdn]; exact HF.out.fin⟩
                          exact AllReadyIn.nil
                        exact AllReadyIn.nil
                      exact AllReadyIn.nil
                    exact AllReadyIn.nil
                  exact AllReadyIn.nil
                exact AllReadyIn.nil
              exact AllReadyIn.nil
            refine AllReadyIn.cons rfl (fun K hK => ?_) ?_
            · go_simp
              refine hK _ _ ?_
              clear hK K
              refine wpAnyIn_ready (rs := [1, 4]) (by kernel_rfl) (by simp) ?_
              refine AllReadyIn.cons rfl (fun K hK => ?_) ?_
              · go_simp
                refine hK _ _ ?_
                clear hK K
                refine wpAnyIn_ready (rs := [4]) (by kernel_rfl) (by simp) ?_
                refine AllReadyIn.cons rfl (fun K hK => ?_) ?_
                · go_simp
                  refine hK _ _ ?_
                  clear hK K
                  refine wpAnyIn_ready (rs := [5]) (by kernel_rfl) (by simp) ?_
                  refine AllReadyIn.cons rfl (fun K hK => ?_) ?_
                  · go_simp
                    refine hK _ _ ?_
                    clear hK K
                    refine wpAnyIn_ready (rs := [6]) (by kernel_rfl) (by simp) ?_
                    refine AllReadyIn.cons rfl (fun K hK => ?_) ?_
                    · go_simp
                      refine (CallsIn.inRound l (callsIn_wide.2 BRH.out)).mono ?_
                      rintro e w1 ⟨rfl, B1⟩
                      have b3q := (B1.cell (p := ⟨w.heap.size + 2, 0, none⟩) (cell_lt x3)).trans x3
                      obtain ⟨gz, cz, wb, hrun, hF⟩ := SKH.out w1 (((Below.refl _ _).drew).trans B1)
                      have b3a : (w1.alloc (.cells #[.int .i64 (x.tx : Int), .int .i64 sq, .int .i64 0, .int .i64 0, .int .i64 2, .slice none 0 0] 55)).cell? ⟨w.heap.size + 2, 0, none⟩ = _ := cellQ ((Below.refl _ w1).alloc (Nat.le_refl _) _) b3q
                      have c3 := hF.c3
                      have zz3 := hF.z3
                      have HF := Hid.intro hF
                      clear hF B1
                      simp only []
                      refine hK _ _ ?_
                      clear hK K
                      refine wpAnyIn_ready (rs := [7]) (by kernel_rfl) (by simp) ?_
                      refine AllReadyIn.cons rfl (fun K hK => ?_) ?_
                      · go_simp
                        refine hK _ _ ?_
                        clear hK K
                        refine wpAnyIn_ready (rs := [8]) (by kernel_rfl) (by simp) ?_
                        refine AllReadyIn.cons rfl (fun K hK => ?_) ?_
                        · refine stepIn_append rfl _ _ _ rfl _ _ _ _ (by rfl) (by rfl) hrun ?_
                          refine hK _ _ ?_
                          clear hK K
                          simp only [Act.put, List.setIfInBounds_toArray]
                          refine wpAnyIn_ready (rs := [9]) (by kernel_rfl) (by simp) ?_
                          refine AllReadyIn.cons rfl (fun K hK => ?_) ?_
                          · go_simp
                            refine hK _ _ ?_
                            clear hK K
                            refine wpAnyIn_done (by kernel_rfl) ?_ _
                            have c1 := HF.out.c1
                            have z1 := HF.out.z1
                            have cn := HF.out.cn
                            have c2 := HF.out.c2
                            have z2 := HF.out.z2
                            clear c3 zz3 hrun b3q b3a b1 b2 b3 z3 d0 d7 f0 f1 f2 f3 f4 f5 SKH BRH x0 x1 x3 xb z5
                            gi_wp2
                            have hdn : dueN x now P (d + 1) = c + 1 := by rw [dueN_succ, if_pos hd2, hd3]
                            exact ⟨⟨HF.out.keep.size, fun k o hk => HF.out.keep.same k o (by omega)⟩, by rw [← hdn]; exact HF.out.fin⟩
                          exact AllReadyIn.nil
                        exact AllReadyIn.nil
                      exact AllReadyIn.nil
                    exact AllReadyIn.nil
                  exact AllReadyIn.nil
                exact AllReadyIn.nil
              refine AllReadyIn.cons rfl (fun K hK => ?_) ?_
              · go_simp
                refine hK _ _ ?_
                clear hK K
                refine wpAnyIn_ready (rs := [1, 5]) (by kernel_rfl) (by simp) ?_
                refine AllReadyIn.cons rfl (fun K hK => ?_) ?_
                · go_simp
                  refine hK _ _ ?_
                  clear hK K
                  refine wpAnyIn_ready (rs := [5]) (by kernel_rfl) (by simp) ?_
                  refine AllReadyIn.cons rfl (fun K hK => ?_) ?_
                  · go_simp
                    refine hK _ _ ?_
                    clear hK K
                    refine wpAnyIn_ready (rs := [6]) (by kernel_rfl) (by simp) ?_
                    refine AllReadyIn.cons rfl (fun K hK => ?_) ?_
                    · go_simp
                      refine (CallsIn.inRound l (callsIn_wide.2 BRH.out)).mono ?_
                      rintro e w1 ⟨rfl, B1⟩
                      have b3q := (B1.cell (p := ⟨w.heap.size + 2, 0, none⟩) (cell_lt x3)).trans x3
                      obtain ⟨gz, cz, wb, hrun, hF⟩ := SKH.out w1 (((Below.refl _ _).drew).trans B1)
                      have b3a : (w1.alloc (.cells #[.int .i64 (x.tx : Int), .int .i64 sq, .int .i64 0, .int .i64 0, .int .i64 2, .slice none 0 0] 55)).cell? ⟨w.heap.size + 2, 0, none⟩ = _ := cellQ ((Below.refl _ w1).alloc (Nat.le_refl _) _) b3q
                      have c3 := hF.c3
                      have zz3 := hF.z3
                      have HF := Hid.intro hF
                      clear hF B1
                      simp only []
                      refine hK _ _ ?_
                      clear hK K
                      refine wpAnyIn_ready (rs := [7]) (by kernel_rfl) (by simp) ?_
                      refine AllReadyIn.cons rfl (fun K hK => ?_) ?_
                      · go_simp
                        refine hK _ _ ?_
                        clear hK K
                        refine wpAnyIn_ready (rs := [8]) (by kernel_rfl) (by simp) ?_
                        refine AllReadyIn.cons rfl (fun K hK => ?_) ?_
                        · refine stepIn_append rfl _ _ _ rfl _ _ _ _ (by rfl) (by rfl) hrun ?_
                          refine hK _ _ ?_
                          clear hK K
                          simp only [Act.put, List.setIfInBounds_toArray]
                          refine wpAnyIn_ready (rs := [9]) (by kernel_rfl) (by simp) ?_
                          refine AllReadyIn.cons rfl (fun K hK => ?_) ?_
                          · go_simp
                            refine hK _ _ ?_
                            clear hK K
                            refine wpAnyIn_done (by kernel_rfl) ?_ _
                            have c1 := HF.out.c1
                            have z1 := HF.out.z1
                            have cn := HF.out.cn
                            have c2 := HF.out.c2
                            have z2 := HF.out.z2
                            clear c3 zz3 hrun b3q b3a b1 b2 b3 z3 d0 d7 f0 f1 f2 f3 f4 f5 SKH BRH x0 x1 x3 xb z5
                            gi_wp2
                            have hdn : dueN x now P (d + 1) = c + 1 := by rw [dueN_succ, if_pos hd2, hd3]
                            exact ⟨⟨HF.out.keep.size, fun k o hk => HF.out.keep.same k o (by omega)⟩, by rw [← hdn]; exact HF.out.fin⟩
                          exact AllReadyIn.nil
                        exact AllReadyIn.nil
                      exact AllReadyIn.nil
                    exact AllReadyIn.nil
                  exact AllReadyIn.nil
                refine AllReadyIn.cons rfl (fun K hK => ?_) ?_
                · go_simp
                  refine hK _ _ ?_
                  clear hK K
                  refine wpAnyIn_ready (rs := [1]) (by kernel_rfl) (by simp) ?_
                  refine AllReadyIn.cons rfl (fun K hK => ?_) ?_
                  · go_simp
                    refine hK _ _ ?_
                    clear hK K
                    refine wpAnyIn_ready (rs := [6]) (by kernel_rfl) (by simp) ?_
                    refine AllReadyIn.cons rfl (fun K hK => ?_) ?_
                    · go_simp
                      refine (CallsIn.inRound l (callsIn_wide.2 BRH.out)).mono ?_
                      rintro e w1 ⟨rfl, B1⟩
                      have b3q := (B1.cell (p := ⟨w.heap.size + 2, 0, none⟩) (cell_lt x3)).trans x3
                      obtain ⟨gz, cz, wb, hrun, hF⟩ := SKH.out w1 (((Below.refl _ _).drew).trans B1)
                      have b3a : (w1.alloc (.cells #[.int .i64 (x.tx : Int), .int .i64 sq, .int .i64 0, .int .i64 0, .int .i64 2, .slice none 0 0] 55)).cell? ⟨w.heap.size + 2, 0, none⟩ = _ := cellQ ((Below.refl _ w1).alloc (Nat.le_refl _) _) b3q
                      have c3 := hF.c3
                      have zz3 := hF.z3
                      have HF := Hid.intro hF
                      clear hF B1
                      simp only []
                      refine hK _ _ ?_
                      clear hK K
                      refine wpAnyIn_ready (rs := [7]) (by kernel_rfl) (by simp) ?_
                      refine AllReadyIn.cons rfl (fun K hK => ?_) ?_
                      · go_simp
                        refine hK _ _ ?_
                        clear hK K
                        refine wpAnyIn_ready (rs := [8]) (by kernel_rfl) (by simp) ?_
                        refine AllReadyIn.cons rfl (fun K hK => ?_) ?_
                        · refine stepIn_append rfl _ _ _ rfl _ _ _ _ (by rfl) (by rfl) hrun ?_
                          refine hK _ _ ?_
                          clear hK K
                          simp only [Act.put, List.setIfInBounds_toArray]
                          refine wpAnyIn_ready (rs := [9]) (by kernel_rfl) (by simp) ?_
                          refine AllReadyIn.cons rfl (fun K hK => ?_) ?_
                          · go_simp
                            refine hK _ _ ?_
                            clear hK K
                            refine wpAnyIn_done (by kernel_rfl) ?_ _
                            have c1 := HF.out.c1
                            have z1 := HF.out.z1
                            have cn := HF.out.cn
                            have c2 := HF.out.c2
                            have z2 := HF.out.z2
                            clear c3 zz3 hrun b3q b3a b1 b2 b3 z3 d0 d7 f0 f1 f2 f3 f4 f5 SKH BRH x0 x1 x3 xb z5
                            gi_wp2
                            have hdn : dueN x now P (d + 1) = c + 1 := by rw [dueN_succ, if_pos hd2, hd3]
                            exact ⟨⟨HF.out.keep.size, fun k o hk => HF.out.keep.same k o (by omega)⟩, by rw [← hdn]; exact HF.out.fin⟩
                          exact AllReadyIn.nil
                        exact AllReadyIn.nil
                      exact AllReadyIn.nil
                    exact AllReadyIn.nil
                  exact AllReadyIn.nil
                exact AllReadyIn.nil
              exact AllReadyIn.nil
            exact AllReadyIn.nil
          exact AllReadyIn.nil
        refine AllReadyIn.cons rfl (fun K hK => ?_) ?_
        · go_simp
          refine hK _ _ ?_
          clear hK K
          refine wpAnyIn_ready (rs := [0, 2]) (by kernel_rfl) (by simp) ?_
          refine AllReadyIn.cons rfl (fun K hK => ?_) ?_
          · go_simp
            refine hK _ _ ?_
            clear hK K
            refine wpAnyIn_ready (rs := [2]) (by kernel_rfl) (by simp) ?_
            refine AllReadyIn.cons rfl (fun K hK => ?_) ?_
            · go_simp
              refine hK _ _ ?_
              clear hK K
              refine wpAnyIn_ready (rs := [3]) (by kernel_rfl) (by simp) ?_
              refine AllReadyIn.cons rfl (fun K hK => ?_) ?_
              · go_simp
                refine hK _ _ ?_
                clear hK K
                refine wpAnyIn_ready (rs := [4]) (by kernel_rfl) (by simp) ?_
                refine AllReadyIn.cons rfl (fun K hK => ?_) ?_
                · go_simp
                  refine hK _ _ ?_
                  clear hK K
                  refine wpAnyIn_ready (rs := [5]) (by kernel_rfl) (by simp) ?_
                  refine AllReadyIn.cons rfl (fun K hK => ?_) ?_
                  · go_simp
                    refine hK _ _ ?_
                    clear hK K
                    refine wpAnyIn_ready (rs := [6]) (by kernel_rfl) (by simp) ?_
                    refine AllReadyIn.cons rfl (fun K hK => ?_) ?_
                    · go_simp
                      refine (CallsIn.inRound l (callsIn_wide.2 BRH.out)).mono ?_
                      rintro e w1 ⟨rfl, B1⟩
                      have b3q := (B1.cell (p := ⟨w.heap.size + 2, 0, none⟩) (cell_lt x3)).trans x3
                      obtain ⟨gz, cz, wb, hrun, hF⟩ := SKH.out w1 (((Below.refl _ _).drew).trans B1)
                      have b3a : (w1.alloc (.cells #[.int .i64 (x.tx : Int), .int .i64 sq, .int .i64 0, .int .i64 0, .int .i64 2, .slice none 0 0] 55)).cell? ⟨w.heap.size + 2, 0, none⟩ = _ := cellQ ((Below.refl _ w1).alloc (Nat.le_refl _) _) b3q
                      have c3 := hF.c3
                      have zz3 := hF.z3
                      have HF := Hid.intro hF
                      clear hF B1
                      simp only []
                      refine hK _ _ ?_
                      clear hK K
                      refine wpAnyIn_ready (rs := [7]) (by kernel_rfl) (by simp) ?_
                      refine AllReadyIn.cons rfl (fun K hK => ?_) ?_
                      · go_simp
                        refine hK _ _ ?_
                        clear hK K
                        refine wpAnyIn_ready (rs := [8]) (by kernel_rfl) (by simp) ?_
                        refine AllReadyIn.cons rfl (fun K hK => ?_) ?_
                        · refine stepIn_append rfl _ _ _ rfl _ _ _ _ (by rfl) (by rfl) hrun ?_
                          refine hK _ _ ?_
                          clear hK K
                          simp only [Act.put, List.setIfInBounds_toArray]
                          refine wpAnyIn_ready (rs := [9]) (by kernel_rfl) (by simp) ?_
                          refine AllReadyIn.cons rfl (fun K hK => ?_) ?_
                          · go_simp
                            refine hK _ _ ?_
                            clear hK K
                            refine wpAnyIn_done (by kernel_rfl) ?_ _
                            have c1 := HF.out.c1
                            have z1 := HF.out.z1
                            have cn := HF.out.cn
                            have c2 := HF.out.c2
                            have z2 := HF.out.z2
                            clear c3 zz3 hrun b3q b3a b1 b2 b3 z3 d0 d7 f0 f1 f2 f3 f4 f5 SKH BRH x0 x1 x3 xb z5
                            gi_wp2
                            have hdn : dueN x now P (d + 1) = c + 1 := by rw [dueN_succ, if_pos hd2, hd3]
                            exact ⟨⟨HF.out.keep.size, fun k o hk => HF.out.keep.same k o (by omega)⟩, by rw [← hdn]; exact HF.out.fin⟩
                          exact AllReadyIn.nil
                        exact AllReadyIn.nil
                      exact AllReadyIn.nil
                    exact AllReadyIn.nil
                  exact AllReadyIn.nil
                exact AllReadyIn.nil
              exact AllReadyIn.nil
            exact AllReadyIn.nil
          refine AllReadyIn.cons rfl (fun K hK => ?_) ?_
          · go_simp
            refine hK _ _ ?_
            clear hK K
            refine wpAnyIn_ready (rs := [0, 3]) (by kernel_rfl) (by simp) ?_
            refine AllReadyIn.cons rfl (fun K hK => ?_) ?_
            · go_simp
              refine hK _ _ ?_
              clear hK K
              refine wpAnyIn_ready (rs := [3]) (by kernel_rfl) (by simp) ?_
              refine AllReadyIn.cons rfl (fun K hK => ?_) ?_
              · go_simp
                refine hK _ _ ?_
                clear hK K
                refine wpAnyIn_ready (rs := [4]) (by kernel_rfl) (by simp) ?_
                refine AllReadyIn.cons rfl (fun K hK => ?_) ?_
                · go_simp
                  refine hK _ _ ?_
                  clear hK K
                  refine wpAnyIn_ready (rs := [5]) (by kernel_rfl) (by simp) ?_
                  refine AllReadyIn.cons rfl (fun K hK => ?_) ?_
                  · go_simp
                    refine hK _ _ ?_
                    clear hK K
                    refine wpAnyIn_ready (rs := [6]) (by kernel_rfl) (by simp) ?_
                    refine AllReadyIn.cons rfl (fun K hK => ?_) ?_
                    · go_simp
                      refine (CallsIn.inRound l (callsIn_wide.2 BRH.out)).mono ?_
                      rintro e w1 ⟨rfl, B1⟩
                      have b3q := (B1.cell (p := ⟨w.heap.size + 2, 0, none⟩) (cell_lt x3)).trans x3
                      obtain ⟨gz, cz, wb, hrun, hF⟩ := SKH.out w1 (((Below.refl _ _).drew).trans B1)
                      have b3a : (w1.alloc (.cells #[.int .i64 (x.tx : Int), .int .i64 sq, .int .i64 0, .int .i64 0, .int .i64 2, .slice none 0 0] 55)).cell? ⟨w.heap.size + 2, 0, none⟩ = _ := cellQ ((Below.refl _ w1).alloc (Nat.le_refl _) _) b3q
                      have c3 := hF.c3
                      have zz3 := hF.z3
                      have HF := Hid.intro hF
                      clear hF B1
                      simp only []
                      refine hK _ _ ?_
                      clear hK K
                      refine wpAnyIn_ready (rs := [7]) (by kernel_rfl) (by simp) ?_
                      refine AllReadyIn.cons rfl (fun K hK => ?_) ?_
                      · go_simp
                        refine hK _ _ ?_
                        clear hK K
                        refine wpAnyIn_ready (rs := [8]) (by kernel_rfl) (by simp) ?_
                        refine AllReadyIn.cons rfl (fun K hK => ?_) ?_
                        · refine stepIn_append rfl _ _ _ rfl _ _ _ _ (by rfl) (by rfl) hrun ?_
                          refine hK _ _ ?_
                          clear hK K
                          simp only [Act.put, List.setIfInBounds_toArray]
                          refine wpAnyIn_ready (rs := [9]) (by kernel_rfl) (by simp) ?_
                          refine AllReadyIn.cons rfl (fun K hK => ?_) ?_
                          · go_simp
                            refine hK _ _ ?_
                            clear hK K
                            refine wpAnyIn_done (by kernel_rfl) ?_ _
                            have c1 := HF.out.c1
                            have z1 := HF.out.z1
                            have cn := HF.out.cn
                            have c2 := HF.out.c2
                            have z2 := HF.out.z2
                            clear c3 zz3 hrun b3q b3a b1 b2 b3 z3 d0 d7 f0 f1 f2 f3 f4 f5 SKH BRH x0 x1 x3 xb z5
                            gi_wp2
                            have hdn : dueN x now P (d + 1) = c + 1 := by rw [dueN_succ, if_pos hd2, hd3]
                            exact ⟨⟨HF.out.keep.size, fun k o hk => HF.out.keep.same k o (by omega)⟩, by rw [← hdn]; exact HF.out.fin⟩
                          exact AllReadyIn.nil
                        exact AllReadyIn.nil
                      exact AllReadyIn.nil
                    exact AllReadyIn.nil
                  exact AllReadyIn.nil
                exact AllReadyIn.nil
              exact AllReadyIn.nil
            refine AllReadyIn.cons rfl (fun K hK => ?_) ?_
            · go_simp
              refine hK _ _ ?_
              clear hK K
              refine wpAnyIn_ready (rs := [0, 4]) (by kernel_rfl) (by simp) ?_
              refine AllReadyIn.cons rfl (fun K hK => ?_) ?_
              · go_simp
                refine hK _ _ ?_
                clear hK K
                refine wpAnyIn_ready (rs := [4]) (by kernel_rfl) (by simp) ?_
                refine AllReadyIn.cons rfl (fun K hK => ?_) ?_
                · go_simp
                  refine hK _ _ ?_
                  clear hK K
                  refine wpAnyIn_ready (rs := [5]) (by kernel_rfl) (by simp) ?_
                  refine AllReadyIn.cons rfl (fun K hK => ?_) ?_
                  · go_simp
                    refine hK _ _ ?_
                    clear hK K
                    refine wpAnyIn_ready (rs := [6]) (by kernel_rfl) (by simp) ?_
                    refine AllReadyIn.cons rfl (fun K hK => ?_) ?_
                    · go_simp
                      refine (CallsIn.inRound l (callsIn_wide.2 BRH.out)).mono ?_
                      rintro e w1 ⟨rfl, B1⟩
                      have b3q := (B1.cell (p := ⟨w.heap.size + 2, 0, none⟩) (cell_lt x3)).trans x3
                      obtain ⟨gz, cz, wb, hrun, hF⟩ := SKH.out w1 (((Below.refl _ _).drew).trans B1)
                      have b3a : (w1.alloc (.cells #[.int .i64 (x.tx : Int), .int .i64 sq, .int .i64 0, .int .i64 0, .int .i64 2, .slice none 0 0] 55)).cell? ⟨w.heap.size + 2, 0, none⟩ = _ := cellQ ((Below.refl _ w1).alloc (Nat.le_refl _) _) b3q
                      have c3 := hF.c3
                      have zz3 := hF.z3
                      have HF := Hid.intro hF
                      clear hF B1
                      simp only []
                      refine hK _ _ ?_
                      clear hK K
                      refine wpAnyIn_ready (rs := [7]) (by kernel_rfl) (by simp) ?_
                      refine AllReadyIn.cons rfl (fun K hK => ?_) ?_
                      · go_simp
                        refine hK _ _ ?_
                        clear hK K
                        refine wpAnyIn_ready (rs := [8]) (by kernel_rfl) (by simp) ?_
                        refine AllReadyIn.cons rfl (fun K hK => ?_) ?_
                        · refine stepIn_append rfl _ _ _ rfl _ _ _ _ (by rfl) (by rfl) hrun ?_
                          refine hK _ _ ?_
                          clear hK K
                          simp only [Act.put, List.setIfInBounds_toArray]
                          refine wpAnyIn_ready (rs := [9]) (by kernel_rfl) (by simp) ?_
                          refine AllReadyIn.cons rfl (fun K hK => ?_) ?_
                          · go_simp
                            refine hK _ _ ?_
                            clear hK K
                            refine wpAnyIn_done (by kernel_rfl) ?_ _
                            have c1 := HF.out.c1
                            have z1 := HF.out.z1
                            have cn := HF.out.cn
                            have c2 := HF.out.c2
                            have z2 := HF.out.z2
                            clear c3 zz3 hrun b3q b3a b1 b2 b3 z3 d0 d7 f0 f1 f2 f3 f4 f5 SKH BRH x0 x1 x3 xb z5
                            gi_wp2
                            have hdn : dueN x now P (d + 1) = c + 1 := by rw [dueN_succ, if_pos hd2, hd3]
                            exact ⟨⟨HF.out.keep.size, fun k o hk => HF.out.keep.same k o (by omega)⟩, by rw [← hdn]; exact HF.out.fin⟩
                          exact AllReadyIn.nil
                        exact AllReadyIn.nil
                      exact AllReadyIn.nil
                    exact AllReadyIn.nil
                  exact AllReadyIn.nil
                exact AllReadyIn.nil
              refine AllReadyIn.cons rfl (fun K hK => ?_) ?_
              · go_simp
                refine hK _ _ ?_
                clear hK K
                refine wpAnyIn_ready (rs := [0, 5]) (by kernel_rfl) (by simp) ?_
                refine AllReadyIn.cons rfl (fun K hK => ?_) ?_
                · go_simp
                  refine hK _ _ ?_
                  clear hK K
                  refine wpAnyIn_ready (rs := [5]) (by kernel_rfl) (by simp) ?_
                  refine AllReadyIn.cons rfl (fun K hK => ?_) ?_
                  · go_simp
                    refine hK _ _ ?_
                    clear hK K
                    refine wpAnyIn_ready (rs := [6]) (by kernel_rfl) (by simp) ?_
                    refine AllReadyIn.cons rfl (fun K hK => ?_) ?_
                    · go_simp
                      refine (CallsIn.inRound l (callsIn_wide.2 BRH.out)).mono ?_
                      rintro e w1 ⟨rfl, B1⟩
                      have b3q := (B1.cell (p := ⟨w.heap.size + 2, 0, none⟩) (cell_lt x3)).trans x3
                      obtain ⟨gz, cz, wb, hrun, hF⟩ := SKH.out w1 (((Below.refl _ _).drew).trans B1)
                      have b3a : (w1.alloc (.cells #[.int .i64 (x.tx : Int), .int .i64 sq, .int .i64 0, .int .i64 0, .int .i64 2, .slice none 0 0] 55)).cell? ⟨w.heap.size + 2, 0, none⟩ = _ := cellQ ((Below.refl _ w1).alloc (Nat.le_refl _) _) b3q
                      have c3 := hF.c3
                      have zz3 := hF.z3
                      have HF := Hid.intro hF
                      clear hF B1
                      simp only []
                      refine hK _ _ ?_
                      clear hK K
                      refine wpAnyIn_ready (rs := [7]) (by kernel_rfl) (by simp) ?_
                      refine AllReadyIn.cons rfl (fun K hK => ?_) ?_
                      · go_simp
                        refine hK _ _ ?_
                        clear hK K
                        refine wpAnyIn_ready (rs := [8]) (by kernel_rfl) (by simp) ?_
                        refine AllReadyIn.cons rfl (fun K hK => ?_) ?_
                        · refine stepIn_append rfl _ _ _ rfl _ _ _ _ (by rfl) (by rfl) hrun ?_
                          refine hK _ _ ?_
                          clear hK K
                          simp only [Act.put, List.setIfInBounds_toArray]
                          refine wpAnyIn_ready (rs := [9]) (by kernel_rfl) (by simp) ?_
                          refine AllReadyIn.cons rfl (fun K hK => ?_) ?_
                          · go_simp
                            refine hK _ _ ?_
                            clear hK K
                            refine wpAnyIn_done (by kernel_rfl) ?_ _
                            have c1 := HF.out.c1
                            have z1 := HF.out.z1
                            have cn := HF.out.cn
                            have c2 := HF.out.c2
                            have z2 := HF.out.z2
                            clear c3 zz3 hrun b3q b3a b1 b2 b3 z3 d0 d7 f0 f1 f2 f3 f4 f5 SKH BRH x0 x1 x3 xb z5
                            gi_wp2
                            have hdn : dueN x now P (d + 1) = c + 1 := by rw [dueN_succ, if_pos hd2, hd3]
                            exact ⟨⟨HF.out.keep.size, fun k o hk => HF.out.keep.same k o (by omega)⟩, by rw [← hdn]; exact HF.out.fin⟩
                          exact AllReadyIn.nil
                        exact AllReadyIn.nil
                      exact AllReadyIn.nil
                    exact AllReadyIn.nil
                  exact AllReadyIn.nil
                refine AllReadyIn.cons rfl (fun K hK => ?_) ?_
                · go_simp
                  refine hK _ _ ?_
                  clear hK K
                  refine wpAnyIn_ready (rs := [0, 6]) (by kernel_rfl) (by simp) ?_
                  refine AllReadyIn.cons rfl (fun K hK => ?_) ?_
                  · go_simp
                    refine hK _ _ ?_
                    clear hK K
                    refine wpAnyIn_ready (rs := [6]) (by kernel_rfl) (by simp) ?_
                    refine AllReadyIn.cons rfl (fun K hK => ?_) ?_
                    · go_simp
                      refine (CallsIn.inRound l (callsIn_wide.2 BRH.out)).mono ?_
                      rintro e w1 ⟨rfl, B1⟩
                      have b3q := (B1.cell (p := ⟨w.heap.size + 2, 0, none⟩) (cell_lt x3)).trans x3
                      obtain ⟨gz, cz, wb, hrun, hF⟩ := SKH.out w1 (((Below.refl _ _).drew).trans B1)
                      have b3a : (w1.alloc (.cells #[.int .i64 (x.tx : Int), .int .i64 sq, .int .i64 0, .int .i64 0, .int .i64 2, .slice none 0 0] 55)).cell? ⟨w.heap.size + 2, 0, none⟩ = _ := cellQ ((Below.refl _ w1).alloc (Nat.le_refl _) _) b3q
                      have c3 := hF.c3
                      have zz3 := hF.z3
                      have HF := Hid.intro hF
                      clear hF B1
                      simp only []
                      refine hK _ _ ?_
                      clear hK K
                      refine wpAnyIn_ready (rs := [7]) (by kernel_rfl) (by simp) ?_
                      refine AllReadyIn.cons rfl (fun K hK => ?_) ?_
                      · go_simp
                        refine hK _ _ ?_
                        clear hK K
                        refine wpAnyIn_ready (rs := [8]) (by kernel_rfl) (by simp) ?_
                        refine AllReadyIn.cons rfl (fun K hK => ?_) ?_
                        · refine stepIn_append rfl _ _ _ rfl _ _ _ _ (by rfl) (by rfl) hrun ?_
                          refine hK _ _ ?_
                          clear hK K
                          simp only [Act.put, List.setIfInBounds_toArray]
                          refine wpAnyIn_ready (rs := [9]) (by kernel_rfl) (by simp) ?_
                          refine AllReadyIn.cons rfl (fun K hK => ?_) ?_
                          · go_simp
                            refine hK _ _ ?_
                            clear hK K
                            refine wpAnyIn_done (by kernel_rfl) ?_ _
                            have c1 := HF.out.c1
                            have z1 := HF.out.z1
                            have cn := HF.out.cn
                            have c2 := HF.out.c2
                            have z2 := HF.out.z2
                            clear c3 zz3 hrun b3q b3a b1 b2 b3 z3 d0 d7 f0 f1 f2 f3 f4 f5 SKH BRH x0 x1 x3 xb z5
                            gi_wp2
                            have hdn : dueN x now P (d + 1) = c + 1 := by rw [dueN_succ, if_pos hd2, hd3]
                            exact ⟨⟨HF.out.keep.size, fun k o hk => HF.out.keep.same k o (by omega)⟩, by rw [← hdn]; exact HF.out.fin⟩
                          exact AllReadyIn.nil
                        exact AllReadyIn.nil
                      exact AllReadyIn.nil
                    exact AllReadyIn.nil
                  refine AllReadyIn.cons rfl (fun K hK => ?_) ?_
                  · go_simp
                    refine (CallsIn.inRound l (callsIn_wide.2 BRH.out)).mono ?_
                    rintro e w1 ⟨rfl, B1⟩
                    have b3q := (B1.cell (p := ⟨w.heap.size + 2, 0, none⟩) (cell_lt x3)).trans x3
                    obtain ⟨gz, cz, wb, hrun, hF⟩ := SKH.out w1 (((Below.refl _ _).drew).trans B1)
                    have b3a : (w1.alloc (.cells #[.int .i64 (x.tx : Int), .int .i64 sq, .int .i64 0, .int .i64 0, .int .i64 2, .slice none 0 0] 55)).cell? ⟨w.heap.size + 2, 0, none⟩ = _ := cellQ ((Below.refl _ w1).alloc (Nat.le_refl _) _) b3q
                    have c3 := hF.c3
                    have zz3 := hF.z3
                    have HF := Hid.intro hF
                    clear hF B1
                    simp only []
                    refine hK _ _ ?_
                    clear hK K
                    refine wpAnyIn_ready (rs := [0, 7]) (by kernel_rfl) (by simp) ?_
                    refine AllReadyIn.cons rfl (fun K hK => ?_) ?_
                    · go_simp
                      refine hK _ _ ?_
                      clear hK K
                      refine wpAnyIn_ready (rs := [7]) (by kernel_rfl) (by simp) ?_
                      refine AllReadyIn.cons rfl (fun K hK => ?_) ?_
                      · go_simp
                        refine hK _ _ ?_
                        clear hK K
                        refine wpAnyIn_ready (rs := [8]) (by kernel_rfl) (by simp) ?_
                        refine AllReadyIn.cons rfl (fun K hK => ?_) ?_
                        · refine stepIn_append rfl _ _ _ rfl _ _ _ _ (by rfl) (by rfl) hrun ?_
                          refine hK _ _ ?_
                          clear hK K
                          simp only [Act.put, List.setIfInBounds_toArray]
                          refine wpAnyIn_ready (rs := [9]) (by kernel_rfl) (by simp) ?_
                          refine AllReadyIn.cons rfl (fun K hK => ?_) ?_
                          · go_simp
                            refine hK _ _ ?_
                            clear hK K
                            refine wpAnyIn_done (by kernel_rfl) ?_ _
                            have c1 := HF.out.c1
                            have z1 := HF.out.z1
                            have cn := HF.out.cn
                            have c2 := HF.out.c2
                            have z2 := HF.out.z2
                            clear c3 zz3 hrun b3q b3a b1 b2 b3 z3 d0 d7 f0 f1 f2 f3 f4 f5 SKH BRH x0 x1 x3 xb z5
                            gi_wp2
                            have hdn : dueN x now P (d + 1) = c + 1 := by rw [dueN_succ, if_pos hd2, hd3]
                            exact ⟨⟨HF.out.keep.size, fun k o hk => HF.out.keep.same k o (by omega)⟩, by rw [← hdn]; exact HF.out.fin⟩
                          exact AllReadyIn.nil
                        exact AllReadyIn.nil
                      exact AllReadyIn.nil
                    refine AllReadyIn.cons rfl (fun K hK => ?_) ?_
                    · go_simp
                      refine hK _ _ ?_
                      clear hK K
                      refine wpAnyIn_ready (rs := [0]) (by kernel_rfl) (by simp) ?_
                      refine AllReadyIn.cons rfl (fun K hK => ?_) ?_
                      · go_simp
                        refine hK _ _ ?_
                        clear hK K
                        refine wpAnyIn_ready (rs := [8]) (by kernel_rfl) (by simp) ?_
                        refine AllReadyIn.cons rfl (fun K hK => ?_) ?_
                        · refine stepIn_append rfl _ _ _ rfl _ _ _ _ (by rfl) (by rfl) hrun ?_
                          refine hK _ _ ?_
                          clear hK K
                          simp only [Act.put, List.setIfInBounds_toArray]
                          refine wpAnyIn_ready (rs := [9]) (by kernel_rfl) (by simp) ?_
                          refine AllReadyIn.cons rfl (fun K hK => ?_) ?_
                          · go_simp
                            refine hK _ _ ?_
                            clear hK K
                            refine wpAnyIn_done (by kernel_rfl) ?_ _
                            have c1 := HF.out.c1
                            have z1 := HF.out.z1
                            have cn := HF.out.cn
                            have c2 := HF.out.c2
                            have z2 := HF.out.z2
                            clear c3 zz3 hrun b3q b3a b1 b2 b3 z3 d0 d7 f0 f1 f2 f3 f4 f5 SKH BRH x0 x1 x3 xb z5
                            gi_wp2
                            have hdn : dueN x now P (d + 1) = c + 1 := by rw [dueN_succ, if_pos hd2, hd3]
                            exact ⟨⟨HF.out.keep.size, fun k o hk => HF.out.keep.same k o (by omega)⟩, by rw [← hdn]; exact HF.out.fin⟩
                          exact AllReadyIn.nil
                        exact AllReadyIn.nil
                      exact AllReadyIn.nil
                    exact AllReadyIn.nil
                  exact AllReadyIn.nil
                exact AllReadyIn.nil
              exact AllReadyIn.nil
            exact AllReadyIn.nil
          exact AllReadyIn.nil
        refine AllReadyIn.cons rfl (fun K hK => ?_) ?_
        · go_simp
          refine hK _ _ ?_
          clear hK K
          refine wpAnyIn_ready (rs := [0, 1, 3]) (by kernel_rfl) (by simp) ?_
          refine AllReadyIn.cons rfl (fun K hK => ?_) ?_
          · go_simp
            refine hK _ _ ?_
            clear hK K
            refine wpAnyIn_ready (rs := [1, 3]) (by kernel_rfl) (by simp) ?_
            refine AllReadyIn.cons rfl (fun K hK => ?_) ?_
            · go_simp
              refine hK _ _ ?_
              clear hK K
              refine wpAnyIn_ready (rs := [3]) (by kernel_rfl) (by simp) ?_
              refine AllReadyIn.cons rfl (fun K hK => ?_) ?_
              · go_simp
                refine hK _ _ ?_
                clear hK K
                refine wpAnyIn_ready (rs := [4]) (by kernel_rfl) (by simp) ?_
                refine AllReadyIn.cons rfl (fun K hK => ?_) ?_
                · go_simp
                  refine hK _ _ ?_
                  clear hK K
                  refine wpAnyIn_ready (rs := [5]) (by kernel_rfl) (by simp) ?_
                  refine AllReadyIn.cons rfl (fun K hK => ?_) ?_
                  · go_simp
                    refine hK _ _ ?_
                    clear hK K
                    refine wpAnyIn_ready (rs := [6]) (by kernel_rfl) (by simp) ?_
                    refine AllReadyIn.cons rfl (fun K hK => ?_) ?_
                    · go_simp
                      refine (CallsIn.inRound l (callsIn_wide.2 BRH.out)).mono ?_
                      rintro e w1 ⟨rfl, B1⟩
                      have b3q := (B1.cell (p := ⟨w.heap.size + 2, 0, none⟩) (cell_lt x3)).trans x3
                      obtain ⟨gz, cz, wb, hrun, hF⟩ := SKH.out w1 (((Below.refl _ _).drew).trans B1)
                      have b3a : (w1.alloc (.cells #[.int .i64 (x.tx : Int), .int .i64 sq, .int .i64 0, .int .i64 0, .int .i64 2, .slice none 0 0] 55)).cell? ⟨w.heap.size + 2, 0, none⟩ = _ := cellQ ((Below.refl _ w1).alloc (Nat.le_refl _) _) b3q
                      have c3 := hF.c3
                      have zz3 := hF.z3
                      have HF := Hid.intro hF
                      clear hF B1
                      simp only []
                      refine hK _ _ ?_
                      clear hK K
                      refine wpAnyIn_ready (rs := [7]) (by kernel_rfl) (by simp) ?_
                      refine AllReadyIn.cons rfl (fun K hK => ?_) ?_
                      · go_simp
                        refine hK _ _ ?_
                        clear hK K
                        refine wpAnyIn_ready (rs := [8]) (by kernel_rfl) (by simp) ?_
                        refine AllReadyIn.cons rfl (fun K hK => ?_) ?_
                        · refine stepIn_append rfl _ _ _ rfl _ _ _ _ (by rfl) (by rfl) hrun ?_
                          refine hK _ _ ?_
                          clear hK K
                          simp only [Act.put, List.setIfInBounds_toArray]
                          refine wpAnyIn_ready (rs := [9]) (by kernel_rfl) (by simp) ?_
                          refine AllReadyIn.cons rfl (fun K hK => ?_) ?_
                          · go_simp
                            refine hK _ _ ?_
                            clear hK K
                            refine wpAnyIn_done (by kernel_rfl) ?_ _
                            have c1 := HF.out.c1
                            have z1 := HF.out.z1
                            have cn := HF.out.cn
                            have c2 := HF.out.c2
                            have z2 := HF.out.z2
                            clear c3 zz3 hrun b3q b3a b1 b2 b3 z3 d0 d7 f0 f1 f2 f3 f4 f5 SKH BRH x0 x1 x3 xb z5
                            gi_wp2
                            have hdn : dueN x now P (d + 1) = c + 1 := by rw [dueN_succ, if_pos hd2, hd3]
                            exact ⟨⟨HF.out.keep.size, fun k o hk => HF.out.keep.same k o (by omega)⟩, by rw [← hdn]; exact HF.out.fin⟩
                          exact AllReadyIn.nil
                        exact AllReadyIn.nil
                      exact AllReadyIn.nil
                    exact AllReadyIn.nil
                  exact AllReadyIn.nil
                exact AllReadyIn.nil
              exact AllReadyIn.nil
            refine AllReadyIn.cons rfl (fun K hK => ?_) ?_
            · go_simp
              refine hK _ _ ?_
              clear hK K
              refine wpAnyIn_ready (rs := [1, 4]) (by kernel_rfl) (by simp) ?_
              refine AllReadyIn.cons rfl (fun K hK => ?_) ?_
              · go_simp
                refine hK _ _ ?_
                clear hK K
                refine wpAnyIn_ready (rs := [4]) (by kernel_rfl) (by simp) ?_
                refine AllReadyIn.cons rfl (fun K hK => ?_) ?_
                · go_simp
                  refine hK _ _ ?_
                  clear hK K
                  refine wpAnyIn_ready (rs := [5]) (by kernel_rfl) (by simp) ?_
                  refine AllReadyIn.cons rfl (fun K hK => ?_) ?_
                  · go_simp
                    refine hK _ _ ?_
                    clear hK K
                    refine wpAnyIn_ready (rs := [6]) (by kernel_rfl) (by simp) ?_
                    refine AllReadyIn.cons rfl (fun K hK => ?_) ?_
                    · go_simp
                      refine (CallsIn.inRound l (callsIn_wide.2 BRH.out)).mono ?_
                      rintro e w1 ⟨rfl, B1⟩
                      have b3q := (B1.cell (p := ⟨w.heap.size + 2, 0, none⟩) (cell_lt x3)).trans x3
                      obtain ⟨gz, cz, wb, hrun, hF⟩ := SKH.out w1 (((Below.refl _ _).drew).trans B1)
                      have b3a : (w1.alloc (.cells #[.int .i64 (x.tx : Int), .int .i64 sq, .int .i64 0, .int .i64 0, .int .i64 2, .slice none 0 0] 55)).cell? ⟨w.heap.size + 2, 0, none⟩ = _ := cellQ ((Below.refl _ w1).alloc (Nat.le_refl _) _) b3q
                      have c3 := hF.c3
                      have zz3 := hF.z3
                      have HF := Hid.intro hF
                      clear hF B1
                      simp only []
                      refine hK _ _ ?_
                      clear hK K
                      refine wpAnyIn_ready (rs := [7]) (by kernel_rfl) (by simp) ?_
                      refine AllReadyIn.cons rfl (fun K hK => ?_) ?_
                      · go_simp
                        refine hK _ _ ?_
                        clear hK K
                        refine wpAnyIn_ready (rs := [8]) (by kernel_rfl) (by simp) ?_
                        refine AllReadyIn.cons rfl (fun K hK => ?_) ?_
                        · refine stepIn_append rfl _ _ _ rfl _ _ _ _ (by rfl) (by rfl) hrun ?_
                          refine hK _ _ ?_
                          clear hK K
                          simp only [Act.put, List.setIfInBounds_toArray]
                          refine wpAnyIn_ready (rs := [9]) (by kernel_rfl) (by simp) ?_
                          refine AllReadyIn.cons rfl (fun K hK => ?_) ?_
                          · go_simp
                            refine hK _ _ ?_
                            clear hK K
                            refine wpAnyIn_done (by kernel_rfl) ?_ _
                            have c1 := HF.out.c1
                            have z1 := HF.out.z1
                            have cn := HF.out.cn
                            have c2 := HF.out.c2
                            have z2 := HF.out.z2
                            clear c3 zz3 hrun b3q b3a b1 b2 b3 z3 d0 d7 f0 f1 f2 f3 f4 f5 SKH BRH x0 x1 x3 xb z5
                            gi_wp2
                            have hdn : dueN x now P (d + 1) = c + 1 := by rw [dueN_succ, if_pos hd2, hd3]
                            exact ⟨⟨HF.out.keep.size, fun k o hk => HF.out.keep.same k o (by omega)⟩, by rw [← hdn]; exact HF.out.fin⟩
                          exact AllReadyIn.nil
                        exact AllReadyIn.nil
                      exact AllReadyIn.nil
                    exact AllReadyIn.nil
                  exact AllReadyIn.nil
                exact AllReadyIn.nil
              refine AllReadyIn.cons rfl (fun K hK => ?_) ?_
              · go_simp
                refine hK _ _ ?_
                clear hK K
                refine wpAnyIn_ready (rs := [1, 5]) (by kernel_rfl) (by simp) ?_
                refine AllReadyIn.cons rfl (fun K hK => ?_) ?_
                · go_simp
                  refine hK _ _ ?_
                  clear hK K
                  refine wpAnyIn_ready (rs := [5]) (by kernel_rfl) (by simp) ?_
                  refine AllReadyIn.cons rfl (fun K hK => ?_) ?_
                  · go_simp
                    refine hK _ _ ?_
                    clear hK K
                    refine wpAnyIn_ready (rs := [6]) (by kernel_rfl) (by simp) ?_
                    refine AllReadyIn.cons rfl (fun K hK => ?_) ?_
                    · go_simp
                      refine (CallsIn.inRound l (callsIn_wide.2 BRH.out)).mono ?_
                      rintro e w1 ⟨rfl, B1⟩
                      have b3q := (B1.cell (p := ⟨w.heap.size + 2, 0, none⟩) (cell_lt x3)).trans x3
                      obtain ⟨gz, cz, wb, hrun, hF⟩ := SKH.out w1 (((Below.refl _ _).drew).trans B1)
                      have b3a : (w1.alloc (.cells #[.int .i64 (x.tx : Int), .int .i64 sq, .int .i64 0, .int .i64 0, .int .i64 2, .slice none 0 0] 55)).cell? ⟨w.heap.size + 2, 0, none⟩ = _ := cellQ ((Below.refl _ w1).alloc (Nat.le_refl _) _) b3q
                      have c3 := hF.c3
                      have zz3 := hF.z3
                      have HF := Hid.intro hF
                      clear hF B1
                      simp only []
                      refine hK _ _ ?_
                      clear hK K
                      refine wpAnyIn_ready (rs := [7]) (by kernel_rfl) (by simp) ?_
                      refine AllReadyIn.cons rfl (fun K hK => ?_) ?_
                      · go_simp
                        refine hK _ _ ?_
                        clear hK K
                        refine wpAnyIn_ready (rs := [8]) (by kernel_rfl) (by simp) ?_
                        refine AllReadyIn.cons rfl (fun K hK => ?_) ?_
                        · refine stepIn_append rfl _ _ _ rfl _ _ _ _ (by rfl) (by rfl) hrun ?_
                          refine hK _ _ ?_
                          clear hK K
                          simp only [Act.put, List.setIfInBounds_toArray]
                          refine wpAnyIn_ready (rs := [9]) (by kernel_rfl) (by simp) ?_
                          refine AllReadyIn.cons rfl (fun K hK => ?_) ?_
                          · go_simp
                            refine hK _ _ ?_
                            clear hK K
                            refine wpAnyIn_done (by kernel_rfl) ?_ _
                            have c1 := HF.out.c1
                            have z1 := HF.out.z1
                            have cn := HF.out.cn
                            have c2 := HF.out.c2
                            have z2 := HF.out.z2
                            clear c3 zz3 hrun b3q b3a b1 b2 b3 z3 d0 d7 f0 f1 f2 f3 f4 f5 SKH BRH x0 x1 x3 xb z5
                            gi_wp2
                            have hdn : dueN x now P (d + 1) = c + 1 := by rw [dueN_succ, if_pos hd2, hd3]
                            exact ⟨⟨HF.out.keep.size, fun k o hk => HF.out.keep.same k o (by omega)⟩, by rw [← hdn]; exact HF.out.fin⟩
                          exact AllReadyIn.nil
                        exact AllReadyIn.nil
                      exact AllReadyIn.nil
                    exact AllReadyIn.nil
                  exact AllReadyIn.nil
                refine AllReadyIn.cons rfl (fun K hK => ?_) ?_
                · go_simp
                  refine hK _ _ ?_
                  clear hK K
                  refine wpAnyIn_ready (rs := [1]) (by kernel_rfl) (by simp) ?_
                  refine AllReadyIn.cons rfl (fun K hK => ?_) ?_
                  · go_simp
                    refine hK _ _ ?_
                    clear hK K
                    refine wpAnyIn_ready (rs := [6]) (by kernel_rfl) (by simp) ?_
                    refine AllReadyIn.cons rfl (fun K hK => ?_) ?_
                    · go_simp
                      refine (CallsIn.inRound l (callsIn_wide.2 BRH.out)).mono ?_
                      rintro e w1 ⟨rfl, B1⟩
                      have b3q := (B1.cell (p := ⟨w.heap.size + 2, 0, none⟩) (cell_lt x3)).trans x3
                      obtain ⟨gz, cz, wb, hrun, hF⟩ := SKH.out w1 (((Below.refl _ _).drew).trans B1)
                      have b3a : (w1.alloc (.cells #[.int .i64 (x.tx : Int), .int .i64 sq, .int .i64 0, .int .i64 0, .int .i64 2, .slice none 0 0] 55)).cell? ⟨w.heap.size + 2, 0, none⟩ = _ := cellQ ((Below.refl _ w1).alloc (Nat.le_refl _) _) b3q
                      have c3 := hF.c3
                      have zz3 := hF.z3
                      have HF := Hid.intro hF
                      clear hF B1
                      simp only []
                      refine hK _ _ ?_
                      clear hK K
                      refine wpAnyIn_ready (rs := [7]) (by kernel_rfl) (by simp) ?_
                      refine AllReadyIn.cons rfl (fun K hK => ?_) ?_
                      · go_simp
                        refine hK _ _ ?_
                        clear hK K
                        refine wpAnyIn_ready (rs := [8]) (by kernel_rfl) (by simp) ?_
                        refine AllReadyIn.cons rfl (fun K hK => ?_) ?_
                        · refine stepIn_append rfl _ _ _ rfl _ _ _ _ (by rfl) (by rfl) hrun ?_
                          refine hK _ _ ?_
                          clear hK K
                          simp only [Act.put, List.setIfInBounds_toArray]
                          refine wpAnyIn_ready (rs := [9]) (by kernel_rfl) (by simp) ?_
                          refine AllReadyIn.cons rfl (fun K hK => ?_) ?_
                          · go_simp
                            refine hK _ _ ?_
                            clear hK K
                            refine wpAnyIn_done (by kernel_rfl) ?_ _
                            have c1 := HF.out.c1
                            have z1 := HF.out.z1
                            have cn := HF.out.cn
                            have c2 := HF.out.c2
                            have z2 := HF.out.z2
                            clear c3 zz3 hrun b3q b3a b1 b2 b3 z3 d0 d7 f0 f1 f2 f3 f4 f5 SKH BRH x0 x1 x3 xb z5
                            gi_wp2
                            have hdn : dueN x now P (d + 1) = c + 1 := by rw [dueN_succ, if_pos hd2, hd3]
                            exact ⟨⟨HF.out.keep.size, fun k o hk => HF.out.keep.same k o (by omega)⟩, by rw [← hdn]; exact HF.out.fin⟩
                          exact AllReadyIn.nil
                        exact AllReadyIn.nil
                      exact AllReadyIn.nil
                    exact AllReadyIn.nil
                  exact AllReadyIn.nil
                exact AllReadyIn.nil
              exact AllReadyIn.nil
            exact AllReadyIn.nil
          refine AllReadyIn.cons rfl (fun K hK => ?_) ?_
          · go_simp
            refine hK _ _ ?_
            clear hK K
            refine wpAnyIn_ready (rs := [0, 3]) (by kernel_rfl) (by simp) ?_
            refine AllReadyIn.cons rfl (fun K hK => ?_) ?_
            · go_simp
              refine hK _ _ ?_
              clear hK K
              refine wpAnyIn_ready (rs := [3]) (by kernel_rfl) (by simp) ?_
              refine AllReadyIn.cons rfl (fun K hK => ?_) ?_
              · go_simp
                refine hK _ _ ?_
                clear hK K
                refine wpAnyIn_ready (rs := [4]) (by kernel_rfl) (by simp) ?_
                refine AllReadyIn.cons rfl (fun K hK => ?_) ?_
                · go_simp
                  refine hK _ _ ?_
                  clear hK K
                  refine wpAnyIn_ready (rs := [5]) (by kernel_rfl) (by simp) ?_
                  refine AllReadyIn.cons rfl (fun K hK => ?_) ?_
                  · go_simp
                    refine hK _ _ ?_
                    clear hK K
                    refine wpAnyIn_ready (rs := [6]) (by kernel_rfl) (by simp) ?_
                    refine AllReadyIn.cons rfl (fun K hK => ?_) ?_
                    · go_simp
                      refine (CallsIn.inRound l (callsIn_wide.2 BRH.out)).mono ?_
                      rintro e w1 ⟨rfl, B1⟩
                      have b3q := (B1.cell (p := ⟨w.heap.size + 2, 0, none⟩) (cell_lt x3)).trans x3
                      obtain ⟨gz, cz, wb, hrun, hF⟩ := SKH.out w1 (((Below.refl _ _).drew).trans B1)
                      have b3a : (w1.alloc (.cells #[.int .i64 (x.tx : Int), .int .i64 sq, .int .i64 0, .int .i64 0, .int .i64 2, .slice none 0 0] 55)).cell? ⟨w.heap.size + 2, 0, none⟩ = _ := cellQ ((Below.refl _ w1).alloc (Nat.le_refl _) _) b3q
                      have c3 := hF.c3
                      have zz3 := hF.z3
                      have HF := Hid.intro hF
                      clear hF B1
                      simp only []
                      refine hK _ _ ?_
                      clear hK K
                      refine wpAnyIn_ready (rs := [7]) (by kernel_rfl) (by simp) ?_
                      refine AllReadyIn.cons rfl (fun K hK => ?_) ?_
                      · go_simp
                        refine hK _ _ ?_
                        clear hK K
                        refine wpAnyIn_ready (rs := [8]) (by kernel_rfl) (by simp) ?_
                        refine AllReadyIn.cons rfl (fun K hK => ?_) ?_
                        · refine stepIn_append rfl _ _ _ rfl _ _ _ _ (by rfl) (by rfl) hrun ?_
                          refine hK _ _ ?_
                          clear hK K
                          simp only [Act.put, List.setIfInBounds_toArray]
                          refine wpAnyIn_ready (rs := [9]) (by kernel_rfl) (by simp) ?_
                          refine AllReadyIn.cons rfl (fun K hK => ?_) ?_
                          · go_simp
                            refine hK _ _ ?_
                            clear hK K
                            refine wpAnyIn_done (by kernel_rfl) ?_ _
                            have c1 := HF.out.c1
                            have z1 := HF.out.z1
                            have cn := HF.out.cn
                            have c2 := HF.out.c2
                            have z2 := HF.out.z2
                            clear c3 zz3 hrun b3q b3a b1 b2 b3 z3 d0 d7 f0 f1 f2 f3 f4 f5 SKH BRH x0 x1 x3 xb z5
                            gi_wp2
                            have hdn : dueN x now P (d + 1) = c + 1 := by rw [dueN_succ, if_pos hd2, hd3]
                            exact ⟨⟨HF.out.keep.size, fun k o hk => HF.out.keep.same k o (by omega)⟩, by rw [← hdn]; exact HF.out.fin⟩
                          exact AllReadyIn.nil
                        exact AllReadyIn.nil
                      exact AllReadyIn.nil
                    exact AllReadyIn.nil
                  exact AllReadyIn.nil
                exact AllReadyIn.nil
              exact AllReadyIn.nil
            refine AllReadyIn.cons rfl (fun K hK => ?_) ?_
            · go_simp
              refine hK _ _ ?_
              clear hK K
              refine wpAnyIn_ready (rs := [0, 4]) (by kernel_rfl) (by simp) ?_
              refine AllReadyIn.cons rfl (fun K hK => ?_) ?_
              · go_simp
                refine hK _ _ ?_
                clear hK K
                refine wpAnyIn_ready (rs := [4]) (by kernel_rfl) (by simp) ?_
                refine AllReadyIn.cons rfl (fun K hK => ?_) ?_
                · go_simp
                  refine hK _ _ ?_
                  clear hK K
                  refine wpAnyIn_ready (rs := [5]) (by kernel_rfl) (by simp) ?_
                  refine AllReadyIn.cons rfl (fun K hK => ?_) ?_
                  · go_simp
                    refine hK _ _ ?_
                    clear hK K
                    refine wpAnyIn_ready (rs := [6]) (by kernel_rfl) (by simp) ?_
                    refine AllReadyIn.cons rfl (fun K hK => ?_) ?_
                    · go_simp
                      refine (CallsIn.inRound l (callsIn_wide.2 BRH.out)).mono ?_
                      rintro e w1 ⟨rfl, B1⟩
                      have b3q := (B1.cell (p := ⟨w.heap.size + 2, 0, none⟩) (cell_lt x3)).trans x3
                      obtain ⟨gz, cz, wb, hrun, hF⟩ := SKH.out w1 (((Below.refl _ _).drew).trans B1)
                      have b3a : (w1.alloc (.cells #[.int .i64 (x.tx : Int), .int .i64 sq, .int .i64 0, .int .i64 0, .int .i64 2, .slice none 0 0] 55)).cell? ⟨w.heap.size + 2, 0, none⟩ = _ := cellQ ((Below.refl _ w1).alloc (Nat.le_refl _) _) b3q
                      have c3 := hF.c3
                      have zz3 := hF.z3
                      have HF := Hid.intro hF
                      clear hF B1
                      simp only []
                      refine hK _ _ ?_
                      clear hK K
                      refine wpAnyIn_ready (rs := [7]) (by kernel_rfl) (by simp) ?_
                      refine AllReadyIn.cons rfl (fun K hK => ?_) ?_
                      · go_simp
                        refine hK _ _ ?_
                        clear hK K
                        refine wpAnyIn_ready (rs := [8]) (by kernel_rfl) (by simp) ?_
                        refine AllReadyIn.cons rfl (fun K hK => ?_) ?_
                        · refine stepIn_append rfl _ _ _ rfl _ _ _ _ (by rfl) (by rfl) hrun ?_
                          refine hK _ _ ?_
                          clear hK K
                          simp only [Act.put, List.setIfInBounds_toArray]
                          refine wpAnyIn_ready (rs := [9]) (by kernel_rfl) (by simp) ?_
                          refine AllReadyIn.cons rfl (fun K hK => ?_) ?_
                          · go_simp
                            refine hK _ _ ?_
                            clear hK K
                            refine wpAnyIn_done (by kernel_rfl) ?_ _
                            have c1 := HF.out.c1
                            have z1 := HF.out.z1
                            have cn := HF.out.cn
                            have c2 := HF.out.c2
                            have z2 := HF.out.z2
                            clear c3 zz3 hrun b3q b3a b1 b2 b3 z3 d0 d7 f0 f1 f2 f3 f4 f5 SKH BRH x0 x1 x3 xb z5
                            gi_wp2
                            have hdn : dueN x now P (d + 1) = c + 1 := by rw [dueN_succ, if_pos hd2, hd3]
                            exact ⟨⟨HF.out.keep.size, fun k o hk => HF.out.keep.same k o (by omega)⟩, by rw [← hdn]; exact HF.out.fin⟩
                          exact AllReadyIn.nil
                        exact AllReadyIn.nil
                      exact AllReadyIn.nil
                    exact AllReadyIn.nil
                  exact AllReadyIn.nil
                exact AllReadyIn.nil
              refine AllReadyIn.cons rfl (fun K hK => ?_) ?_
              · go_simp
                refine hK _ _ ?_
                clear hK K
                refine wpAnyIn_ready (rs := [0, 5]) (by kernel_rfl) (by simp) ?_
                refine AllReadyIn.cons rfl (fun K hK => ?_) ?_
                · go_simp
                  refine hK _ _ ?_
                  clear hK K
                  refine wpAnyIn_ready (rs := [5]) (by kernel_rfl) (by simp) ?_
                  refine AllReadyIn.cons rfl (fun K hK => ?_) ?_
                  · go_simp
                    refine hK _ _ ?_
                    clear hK K
                    refine wpAnyIn_ready (rs := [6]) (by kernel_rfl) (by simp) ?_
                    refine AllReadyIn.cons rfl (fun K hK => ?_) ?_
                    · go_simp
                      refine (CallsIn.inRound l (callsIn_wide.2 BRH.out)).mono ?_
                      rintro e w1 ⟨rfl, B1⟩
                      have b3q := (B1.cell (p := ⟨w.heap.size + 2, 0, none⟩) (cell_lt x3)).trans x3
                      obtain ⟨gz, cz, wb, hrun, hF⟩ := SKH.out w1 (((Below.refl _ _).drew).trans B1)
                      have b3a : (w1.alloc (.cells #[.int .i64 (x.tx : Int), .int .i64 sq, .int .i64 0, .int .i64 0, .int .i64 2, .slice none 0 0] 55)).cell? ⟨w.heap.size + 2, 0, none⟩ = _ := cellQ ((Below.refl _ w1).alloc (Nat.le_refl _) _) b3q
                      have c3 := hF.c3
                      have zz3 := hF.z3
                      have HF := Hid.intro hF
                      clear hF B1
                      simp only []
                      refine hK _ _ ?_
                      clear hK K
                      refine wpAnyIn_ready (rs := [7]) (by kernel_rfl) (by simp) ?_
                      refine AllReadyIn.cons rfl (fun K hK => ?_) ?_
                      · go_simp
                        refine hK _ _ ?_
                        clear hK K
                        refine wpAnyIn_ready (rs := [8]) (by kernel_rfl) (by simp) ?_
                        refine AllReadyIn.cons rfl (fun K hK => ?_) ?_
                        · refine stepIn_append rfl _ _ _ rfl _ _ _ _ (by rfl) (by rfl) hrun ?_
                          refine hK _ _ ?_
                          clear hK K
                          simp only [Act.put, List.setIfInBounds_toArray]
                          refine wpAnyIn_ready (rs := [9]) (by kernel_rfl) (by simp) ?_
                          refine AllReadyIn.cons rfl (fun K hK => ?_) ?_
                          · go_simp
                            refine hK _ _ ?_
                            clear hK K
                            refine wpAnyIn_done (by kernel_rfl) ?_ _
                            have c1 := HF.out.c1
                            have z1 := HF.out.z1
                            have cn := HF.out.cn
                            have c2 := HF.out.c2
                            have z2 := HF.out.z2
                            clear c3 zz3 hrun b3q b3a b1 b2 b3 z3 d0 d7 f0 f1 f2 f3 f4 f5 SKH BRH x0 x1 x3 xb z5
                            gi_wp2
                            have hdn : dueN x now P (d + 1) = c + 1 := by rw [dueN_succ, if_pos hd2, hd3]
                            exact ⟨⟨HF.out.keep.size, fun k o hk => HF.out.keep.same k o (by omega)⟩, by rw [← hdn]; exact HF.out.fin⟩
                          exact AllReadyIn.nil
                        exact AllReadyIn.nil
                      exact AllReadyIn.nil
                    exact AllReadyIn.nil
                  exact AllReadyIn.nil
                refine AllReadyIn.cons rfl (fun K hK => ?_) ?_
                · go_simp
                  refine hK _ _ ?_
                  clear hK K
                  refine wpAnyIn_ready (rs := [0, 6]) (by kernel_rfl) (by simp) ?_
                  refine AllReadyIn.cons rfl (fun K hK => ?_) ?_
                  · go_simp
                    refine hK _ _ ?_
                    clear hK K
                    refine wpAnyIn_ready (rs := [6]) (by kernel_rfl) (by simp) ?_
                    refine AllReadyIn.cons rfl (fun K hK => ?_) ?_
                    · go_simp
                      refine (CallsIn.inRound l (callsIn_wide.2 BRH.out)).mono ?_
                      rintro e w1 ⟨rfl, B1⟩
                      have b3q := (B1.cell (p := ⟨w.heap.size + 2, 0, none⟩) (cell_lt x3)).trans x3
                      obtain ⟨gz, cz, wb, hrun, hF⟩ := SKH.out w1 (((Below.refl _ _).drew).trans B1)
                      have b3a : (w1.alloc (.cells #[.int .i64 (x.tx : Int), .int .i64 sq, .int .i64 0, .int .i64 0, .int .i64 2, .slice none 0 0] 55)).cell? ⟨w.heap.size + 2, 0, none⟩ = _ := cellQ ((Below.refl _ w1).alloc (Nat.le_refl _) _) b3q
                      have c3 := hF.c3
                      have zz3 := hF.z3
                      have HF := Hid.intro hF
                      clear hF B1
                      simp only []
                      refine hK _ _ ?_
                      clear hK K
                      refine wpAnyIn_ready (rs := [7]) (by kernel_rfl) (by simp) ?_
                      refine AllReadyIn.cons rfl (fun K hK => ?_) ?_
                      · go_simp
                        refine hK _ _ ?_
                        clear hK K
                        refine wpAnyIn_ready (rs := [8]) (by kernel_rfl) (by simp) ?_
                        refine AllReadyIn.cons rfl (fun K hK => ?_) ?_
                        · refine stepIn_append rfl _ _ _ rfl _ _ _ _ (by rfl) (by rfl) hrun ?_
                          refine hK _ _ ?_
                          clear hK K
                          simp only [Act.put, List.setIfInBounds_toArray]
                          refine wpAnyIn_ready (rs := [9]) (by kernel_rfl) (by simp) ?_
                          refine AllReadyIn.cons rfl (fun K hK => ?_) ?_
                          · go_simp
                            refine hK _ _ ?_
                            clear hK K
                            refine wpAnyIn_done (by kernel_rfl) ?_ _
                            have c1 := HF.out.c1
                            have z1 := HF.out.z1
                            have cn := HF.out.cn
                            have c2 := HF.out.c2
                            have z2 := HF.out.z2
                            clear c3 zz3 hrun b3q b3a b1 b2 b3 z3 d0 d7 f0 f1 f2 f3 f4 f5 SKH BRH x0 x1 x3 xb z5
                            gi_wp2
                            have hdn : dueN x now P (d + 1) = c + 1 := by rw [dueN_succ, if_pos hd2, hd3]
                            exact ⟨⟨HF.out.keep.size, fun k o hk => HF.out.keep.same k o (by omega)⟩, by rw [← hdn]; exact HF.out.fin⟩
                          exact AllReadyIn.nil
                        exact AllReadyIn.nil
                      exact AllReadyIn.nil
                    exact AllReadyIn.nil
                  refine AllReadyIn.cons rfl (fun K hK => ?_) ?_
                  · go_simp
                    refine (CallsIn.inRound l (callsIn_wide.2 BRH.out)).mono ?_
                    rintro e w1 ⟨rfl, B1⟩
                    have b3q := (B1.cell (p := ⟨w.heap.size + 2, 0, none⟩) (cell_lt x3)).trans x3
                    obtain ⟨gz, cz, wb, hrun, hF⟩ := SKH.out w1 (((Below.refl _ _).drew).trans B1)
                    have b3a : (w1.alloc (.cells #[.int .i64 (x.tx : Int), .int .i64 sq, .int .i64 0, .int .i64 0, .int .i64 2, .slice none 0 0] 55)).cell? ⟨w.heap.size + 2, 0, none⟩ = _ := cellQ ((Below.refl _ w1).alloc (Nat.le_refl _) _) b3q
                    have c3 := hF.c3
                    have zz3 := hF.z3
                    have HF := Hid.intro hF
                    clear hF B1
                    simp only []
                    refine hK _ _ ?_
                    clear hK K
                    refine wpAnyIn_ready (rs := [0, 7]) (by kernel_rfl) (by simp) ?_
                    refine AllReadyIn.cons rfl (fun K hK => ?_) ?_
                    · go_simp
                      refine hK _ _ ?_
                      clear hK K
                      refine wpAnyIn_ready (rs := [7]) (by kernel_rfl) (by simp) ?_
                      refine AllReadyIn.cons rfl (fun K hK => ?_) ?_
                      · go_simp
                        refine hK _ _ ?_
                        clear hK K
                        refine wpAnyIn_ready (rs := [8]) (by kernel_rfl) (by simp) ?_
                        refine AllReadyIn.cons rfl (fun K hK => ?_) ?_
                        · refine stepIn_append rfl _ _ _ rfl _ _ _ _ (by rfl) (by rfl) hrun ?_
                          refine hK _ _ ?_
                          clear hK K
                          simp only [Act.put, List.setIfInBounds_toArray]
                          refine wpAnyIn_ready (rs := [9]) (by kernel_rfl) (by simp) ?_
                          refine AllReadyIn.cons rfl (fun K hK => ?_) ?_
                          · go_simp
                            refine hK _ _ ?_
                            clear hK K
                            refine wpAnyIn_done (by kernel_rfl) ?_ _
                            have c1 := HF.out.c1
                            have z1 := HF.out.z1
                            have cn := HF.out.cn
                            have c2 := HF.out.c2
                            have z2 := HF.out.z2
                            clear c3 zz3 hrun b3q b3a b1 b2 b3 z3 d0 d7 f0 f1 f2 f3 f4 f5 SKH BRH x0 x1 x3 xb z5
                            gi_wp2
                            have hdn : dueN x now P (d + 1) = c + 1 := by rw [dueN_succ, if_pos hd2, hd3]
                            exact ⟨⟨HF.out.keep.size, fun k o hk => HF.out.keep.same k o (by omega)⟩, by rw [← hdn]; exact HF.out.fin⟩
                          exact AllReadyIn.nil
                        exact AllReadyIn.nil
                      exact AllReadyIn.nil
                    refine AllReadyIn.cons rfl (fun K hK => ?_) ?_
                    · go_simp
                      refine hK _ _ ?_
                      clear hK K
                      refine wpAnyIn_ready (rs := [0]) (by kernel_rfl) (by simp) ?_
                      refine AllReadyIn.cons rfl (fun K hK => ?_) ?_
                      · go_simp
                        refine hK _ _ ?_
                        clear hK K
                        refine wpAnyIn_ready (rs := [8]) (by kernel_rfl) (by simp) ?_
                        refine AllReadyIn.cons rfl (fun K hK => ?_) ?_
                        · refine stepIn_append rfl _ _ _ rfl _ _ _ _ (by rfl) (by rfl) hrun ?_
                          refine hK _ _ ?_
                          clear hK K
                          simp only [Act.put, List.setIfInBounds_toArray]
                          refine wpAnyIn_ready (rs := [9]) (by kernel_rfl) (by simp) ?_
                          refine AllReadyIn.cons rfl (fun K hK => ?_) ?_
                          · go_simp
                            refine hK _ _ ?_
                            clear hK K
                            refine wpAnyIn_done (by kernel_rfl) ?_ _
                            have c1 := HF.out.c1
                            have z1 := HF.out.z1
                            have cn := HF.out.cn
                            have c2 := HF.out.c2
                            have z2 := HF.out.z2
                            clear c3 zz3 hrun b3q b3a b1 b2 b3 z3 d0 d7 f0 f1 f2 f3 f4 f5 SKH BRH x0 x1 x3 xb z5
                            gi_wp2
                            have hdn : dueN x now P (d + 1) = c + 1 := by rw [dueN_succ, if_pos hd2, hd3]
                            exact ⟨⟨HF.out.keep.size, fun k o hk => HF.out.keep.same k o (by omega)⟩, by rw [← hdn]; exact HF.out.fin⟩
                          exact AllReadyIn.nil
                        exact AllReadyIn.nil
                      exact AllReadyIn.nil
                    exact AllReadyIn.nil
                  exact AllReadyIn.nil
                exact AllReadyIn.nil
              exact AllReadyIn.nil
            exact AllReadyIn.nil
          refine AllReadyIn.cons rfl (fun K hK => ?_) ?_
          · go_simp
            refine hK _ _ ?_
            clear hK K
            refine wpAnyIn_ready (rs := [0, 1, 4]) (by kernel_rfl) (by simp) ?_
            refine AllReadyIn.cons rfl (fun K hK => ?_) ?_
            · go_simp
              refine hK _ _ ?_
              clear hK K
              refine wpAnyIn_ready (rs := [1, 4]) (by kernel_rfl) (by simp) ?_
              refine AllReadyIn.cons rfl (fun K hK => ?_) ?_
              · go_simp
                refine hK _ _ ?_
                clear hK K
                refine wpAnyIn_ready (rs := [4]) (by kernel_rfl) (by simp) ?_
                refine AllReadyIn.cons rfl (fun K hK => ?_) ?_
                · go_simp
                  refine hK _ _ ?_
                  clear hK K
                  refine wpAnyIn_ready (rs := [5]) (by kernel_rfl) (by simp) ?_
                  refine AllReadyIn.cons rfl (fun K hK => ?_) ?_
                  · go_simp
                    refine hK _ _ ?_
                    clear hK K
                    refine wpAnyIn_ready (rs := [6]) (by kernel_rfl) (by simp) ?_
                    refine AllReadyIn.cons rfl (fun K hK => ?_) ?_
                    · go_simp
                      refine (CallsIn.inRound l (callsIn_wide.2 BRH.out)).mono ?_
                      rintro e w1 ⟨rfl, B1⟩
                      have b3q := (B1.cell (p := ⟨w.heap.size + 2, 0, none⟩) (cell_lt x3)).trans x3
                      obtain ⟨gz, cz, wb, hrun, hF⟩ := SKH.out w1 (((Below.refl _ _).drew).trans B1)
                      have b3a : (w1.alloc (.cells #[.int .i64 (x.tx : Int), .int .i64 sq, .int .i64 0, .int .i64 0, .int .i64 2, .slice none 0 0] 55)).cell? ⟨w.heap.size + 2, 0, none⟩ = _ := cellQ ((Below.refl _ w1).alloc (Nat.le_refl _) _) b3q
                      have c3 := hF.c3
                      have zz3 := hF.z3
                      have HF := Hid.intro hF
                      clear hF B1
                      simp only []
                      refine hK _ _ ?_
                      clear hK K
                      refine wpAnyIn_ready (rs := [7]) (by kernel_rfl) (by simp) ?_
                      refine AllReadyIn.cons rfl (fun K hK => ?_) ?_
                      · go_simp
                        refine hK _ _ ?_
                        clear hK K
                        refine wpAnyIn_ready (rs := [8]) (by kernel_rfl) (by simp) ?_
                        refine AllReadyIn.cons rfl (fun K hK => ?_) ?_
                        · refine stepIn_append rfl _ _ _ rfl _ _ _ _ (by rfl) (by rfl) hrun ?_
                          refine hK _ _ ?_
                          clear hK K
                          simp only [Act.put, List.setIfInBounds_toArray]
                          refine wpAnyIn_ready (rs := [9]) (by kernel_rfl) (by simp) ?_
                          refine AllReadyIn.cons rfl (fun K hK => ?_) ?_
                          · go_simp
                            refine hK _ _ ?_
                            clear hK K
                            refine wpAnyIn_done (by kernel_rfl) ?_ _
                            have c1 := HF.out.c1
                            have z1 := HF.out.z1
                            have cn := HF.out.cn
                            have c2 := HF.out.c2
                            have z2 := HF.out.z2
                            clear c3 zz3 hrun b3q b3a b1 b2 b3 z3 d0 d7 f0 f1 f2 f3 f4 f5 SKH BRH x0 x1 x3 xb z5
                            gi_wp2
                            have hdn : dueN x now P (d + 1) = c + 1 := by rw [dueN_succ, if_pos hd2, hd3]
                            exact ⟨⟨HF.out.keep.size, fun k o hk => HF.out.keep.same k o (by omega)⟩, by rw [← hdn]; exact HF.out.fin⟩
                          exact AllReadyIn.nil
                        exact AllReadyIn.nil
                      exact AllReadyIn.nil
                    exact AllReadyIn.nil
                  exact AllReadyIn.nil
                exact AllReadyIn.nil
              refine AllReadyIn.cons rfl (fun K hK => ?_) ?_
              · go_simp
                refine hK _ _ ?_
                clear hK K
                refine wpAnyIn_ready (rs := [1, 5]) (by kernel_rfl) (by simp) ?_
                refine AllReadyIn.cons rfl (fun K hK => ?_) ?_
                · go_simp
                  refine hK _ _ ?_
                  clear hK K
                  refine wpAnyIn_ready (rs := [5]) (by kernel_rfl) (by simp) ?_
                  refine AllReadyIn.cons rfl (fun K hK => ?_) ?_
                  · go_simp
                    refine hK _ _ ?_
                    clear hK K
                    refine wpAnyIn_ready (rs := [6]) (by kernel_rfl) (by simp) ?_
                    refine AllReadyIn.cons rfl (fun K hK => ?_) ?_
                    · go_simp
                      refine (CallsIn.inRound l (callsIn_wide.2 BRH.out)).mono ?_
                      rintro e w1 ⟨rfl, B1⟩
                      have b3q := (B1.cell (p := ⟨w.heap.size + 2, 0, none⟩) (cell_lt x3)).trans x3
                      obtain ⟨gz, cz, wb, hrun, hF⟩ := SKH.out w1 (((Below.refl _ _).drew).trans B1)
                      have b3a : (w1.alloc (.cells #[.int .i64 (x.tx : Int), .int .i64 sq, .int .i64 0, .int .i64 0, .int .i64 2, .slice none 0 0] 55)).cell? ⟨w.heap.size + 2, 0, none⟩ = _ := cellQ ((Below.refl _ w1).alloc (Nat.le_refl _) _) b3q
                      have c3 := hF.c3
                      have zz3 := hF.z3
                      have HF := Hid.intro hF
                      clear hF B1
                      simp only []
                      refine hK _ _ ?_
                      clear hK K
                      refine wpAnyIn_ready (rs := [7]) (by kernel_rfl) (by simp) ?_
                      refine AllReadyIn.cons rfl (fun K hK => ?_) ?_
                      · go_simp
                        refine hK _ _ ?_
                        clear hK K
                        refine wpAnyIn_ready (rs := [8]) (by kernel_rfl) (by simp) ?_
                        refine AllReadyIn.cons rfl (fun K hK => ?_) ?_
                        · refine stepIn_append rfl _ _ _ rfl _ _ _ _ (by rfl) (by rfl) hrun ?_
                          refine hK _ _ ?_
                          clear hK K
                          simp only [Act.put, List.setIfInBounds_toArray]
                          refine wpAnyIn_ready (rs := [9]) (by kernel_rfl) (by simp) ?_
                          refine AllReadyIn.cons rfl (fun K hK => ?_) ?_
                          · go_simp
                            refine hK _ _ ?_
                            clear hK K
                            refine wpAnyIn_done (by kernel_rfl) ?_ _
                            have c1 := HF.out.c1
                            have z1 := HF.out.z1
                            have cn := HF.out.cn
                            have c2 := HF.out.c2
                            have z2 := HF.out.z2
                            clear c3 zz3 hrun b3q b3a b1 b2 b3 z3 d0 d7 f0 f1 f2 f3 f4 f5 SKH BRH x0 x1 x3 xb z5
                            gi_wp2
                            have hdn : dueN x now P (d + 1) = c + 1 := by rw [dueN_succ, if_pos hd2, hd3]
                            exact ⟨⟨HF.out.keep.size, fun k o hk => HF.out.keep.same k o (by omega)⟩, by rw [← hdn]; exact HF.out.fin⟩
                          exact AllReadyIn.nil
                        exact AllReadyIn.nil
                      exact AllReadyIn.nil
                    exact AllReadyIn.nil
                  exact AllReadyIn.nil
                refine AllReadyIn.cons rfl (fun K hK => ?_) ?_
                · go_simp
                  refine hK _ _ ?_
                  clear hK K
                  refine wpAnyIn_ready (rs := [1]) (by kernel_rfl) (by simp) ?_
                  refine AllReadyIn.cons rfl (fun K hK => ?_) ?_
                  · go_simp
                    refine hK _ _ ?_
                    clear hK K
                    refine wpAnyIn_ready (rs := [6]) (by kernel_rfl) (by simp) ?_
                    refine AllReadyIn.cons rfl (fun K hK => ?_) ?_
                    · go_simp
                      refine (CallsIn.inRound l (callsIn_wide.2 BRH.out)).mono ?_
                      rintro e w1 ⟨rfl, B1⟩
                      have b3q := (B1.cell (p := ⟨w.heap.size + 2, 0, none⟩) (cell_lt x3)).trans x3
                      obtain ⟨gz, cz, wb, hrun, hF⟩ := SKH.out w1 (((Below.refl _ _).drew).trans B1)
                      have b3a : (w1.alloc (.cells #[.int .i64 (x.tx : Int), .int .i64 sq, .int .i64 0, .int .i64 0, .int .i64 2, .slice none 0 0] 55)).cell? ⟨w.heap.size + 2, 0, none⟩ = _ := cellQ ((Below.refl _ w1).alloc (Nat.le_refl _) _) b3q
                      have c3 := hF.c3
                      have zz3 := hF.z3
                      have HF := Hid.intro hF
                      clear hF B1
                      simp only []
                      refine hK _ _ ?_
                      clear hK K
                      refine wpAnyIn_ready (rs := [7]) (by kernel_rfl) (by simp) ?_
                      refine AllReadyIn.cons rfl (fun K hK => ?_) ?_
                      · go_simp
                        refine hK _ _ ?_
                        clear hK K
                        refine wpAnyIn_ready (rs := [8]) (by kernel_rfl) (by simp) ?_
                        refine AllReadyIn.cons rfl (fun K hK => ?_) ?_
                        · refine stepIn_append rfl _ _ _ rfl _ _ _ _ (by rfl) (by rfl) hrun ?_
                          refine hK _ _ ?_
                          clear hK K
                          simp only [Act.put, List.setIfInBounds_toArray]
                          refine wpAnyIn_ready (rs := [9]) (by kernel_rfl) (by simp) ?_
                          refine AllReadyIn.cons rfl (fun K hK => ?_) ?_
                          · go_simp
                            refine hK _ _ ?_
                            clear hK K
                            refine wpAnyIn_done (by kernel_rfl) ?_ _
                            have c1 := HF.out.c1
                            have z1 := HF.out.z1
                            have cn := HF.out.cn
                            have c2 := HF.out.c2
                            have z2 := HF.out.z2
                            clear c3 zz3 hrun b3q b3a b1 b2 b3 z3 d0 d7 f0 f1 f2 f3 f4 f5 SKH BRH x0 x1 x3 xb z5
                            gi_wp2
                            have hdn : dueN x now P (d + 1) = c + 1 := by rw [dueN_succ, if_pos hd2, hd3]
                            exact ⟨⟨HF.out.keep.size, fun k o hk => HF.out.keep.same k o (by omega)⟩, by rw [← hdn]; exact HF.out.fin⟩
                          exact AllReadyIn.nil
                        exact AllReadyIn.nil
                      exact AllReadyIn.nil
                    exact AllReadyIn.nil
                  exact AllReadyIn.nil
                exact AllReadyIn.nil
              exact AllReadyIn.nil
            refine AllReadyIn.cons rfl (fun K hK => ?_) ?_
            · go_simp
              refine hK _ _ ?_
              clear hK K
              refine wpAnyIn_ready (rs := [0, 4]) (by kernel_rfl) (by simp) ?_
              refine AllReadyIn.cons rfl (fun K hK => ?_) ?_
              · go_simp
                refine hK _ _ ?_
                clear hK K
                refine wpAnyIn_ready (rs := [4]) (by kernel_rfl) (by simp) ?_
                refine AllReadyIn.cons rfl (fun K hK => ?_) ?_
                · go_simp
                  refine hK _ _ ?_
                  clear hK K
                  refine wpAnyIn_ready (rs := [5]) (by kernel_rfl) (by simp) ?_
                  refine AllReadyIn.cons rfl (fun K hK => ?_) ?_
                  · go_simp
                    refine hK _ _ ?_
                    clear hK K
                    refine wpAnyIn_ready (rs := [6]) (by kernel_rfl) (by simp) ?_
                    refine AllReadyIn.cons rfl (fun K hK => ?_) ?_
                    · go_simp
                      refine (CallsIn.inRound l (callsIn_wide.2 BRH.out)).mono ?_
                      rintro e w1 ⟨rfl, B1⟩
                      have b3q := (B1.cell (p := ⟨w.heap.size + 2, 0, none⟩) (cell_lt x3)).trans x3
                      obtain ⟨gz, cz, wb, hrun, hF⟩ := SKH.out w1 (((Below.refl _ _).drew).trans B1)
                      have b3a : (w1.alloc (.cells #[.int .i64 (x.tx : Int), .int .i64 sq, .int .i64 0, .int .i64 0, .int .i64 2, .slice none 0 0] 55)).cell? ⟨w.heap.size + 2, 0, none⟩ = _ := cellQ ((Below.refl _ w1).alloc (Nat.le_refl _) _) b3q
                      have c3 := hF.c3
                      have zz3 := hF.z3
                      have HF := Hid.intro hF
                      clear hF B1
                      simp only []
                      refine hK _ _ ?_
                      clear hK K
                      refine wpAnyIn_ready (rs := [7]) (by kernel_rfl) (by simp) ?_
                      refine AllReadyIn.cons rfl (fun K hK => ?_) ?_
                      · go_simp
                        refine hK _ _ ?_
                        clear hK K
                        refine wpAnyIn_ready (rs := [8]) (by kernel_rfl) (by simp) ?_
                        refine AllReadyIn.cons rfl (fun K hK => ?_) ?_
                        · refine stepIn_append rfl _ _ _ rfl _ _ _ _ (by rfl) (by rfl) hrun ?_
                          refine hK _ _ ?_
                          clear hK K
                          simp only [Act.put, List.setIfInBounds_toArray]
                          refine wpAnyIn_ready (rs := [9]) (by kernel_rfl) (by simp) ?_
                          refine AllReadyIn.cons rfl (fun K hK => ?_) ?_
                          · go_simp
                            refine hK _ _ ?_
                            clear hK K
                            refine wpAnyIn_done (by kernel_rfl) ?_ _
                            have c1 := HF.out.c1
                            have z1 := HF.out.z1
                            have cn := HF.out.cn
                            have c2 := HF.out.c2
                            have z2 := HF.out.z2
                            clear c3 zz3 hrun b3q b3a b1 b2 b3 z3 d0 d7 f0 f1 f2 f3 f4 f5 SKH BRH x0 x1 x3 xb z5
                            gi_wp2
                            have hdn : dueN x now P (d + 1) = c + 1 := by rw [dueN_succ, if_pos hd2, hd3]
                            exact ⟨⟨HF.out.keep.size, fun k o hk => HF.out.keep.same k o (by omega)⟩, by rw [← hdn]; exact HF.out.fin⟩
                          exact AllReadyIn.nil
                        exact AllReadyIn.nil
                      exact AllReadyIn.nil
                    exact AllReadyIn.nil
                  exact AllReadyIn.nil
                exact AllReadyIn.nil
              refine AllReadyIn.cons rfl (fun K hK => ?_) ?_
              · go_simp
                refine hK _ _ ?_
                clear hK K
                refine wpAnyIn_ready (rs := [0, 5]) (by kernel_rfl) (by simp) ?_
                refine AllReadyIn.cons rfl (fun K hK => ?_) ?_
                · go_simp
                  refine hK _ _ ?_
                  clear hK K
                  refine wpAnyIn_ready (rs := [5]) (by kernel_rfl) (by simp) ?_
                  refine AllReadyIn.cons rfl (fun K hK => ?_) ?_
                  · go_simp
                    refine hK _ _ ?_
                    clear hK K
                    refine wpAnyIn_ready (rs := [6]) (by kernel_rfl) (by simp) ?_
                    refine AllReadyIn.cons rfl (fun K hK => ?_) ?_
                    · go_simp
                      refine (CallsIn.inRound l (callsIn_wide.2 BRH.out)).mono ?_
                      rintro e w1 ⟨rfl, B1⟩
                      have b3q := (B1.cell (p := ⟨w.heap.size + 2, 0, none⟩) (cell_lt x3)).trans x3
                      obtain ⟨gz, cz, wb, hrun, hF⟩ := SKH.out w1 (((Below.refl _ _).drew).trans B1)
                      have b3a : (w1.alloc (.cells #[.int .i64 (x.tx : Int), .int .i64 sq, .int .i64 0, .int .i64 0, .int .i64 2, .slice none 0 0] 55)).cell? ⟨w.heap.size + 2, 0, none⟩ = _ := cellQ ((Below.refl _ w1).alloc (Nat.le_refl _) _) b3q
                      have c3 := hF.c3
                      have zz3 := hF.z3
                      have HF := Hid.intro hF
                      clear hF B1
                      simp only []
                      refine hK _ _ ?_
                      clear hK K
                      refine wpAnyIn_ready (rs := [7]) (by kernel_rfl) (by simp) ?_
                      refine AllReadyIn.cons rfl (fun K hK => ?_) ?_
                      · go_simp
                        refine hK _ _ ?_
                        clear hK K
                        refine wpAnyIn_ready (rs := [8]) (by kernel_rfl) (by simp) ?_
                        refine AllReadyIn.cons rfl (fun K hK => ?_) ?_
                        · refine stepIn_append rfl _ _ _ rfl _ _ _ _ (by rfl) (by rfl) hrun ?_
                          refine hK _ _ ?_
                          clear hK K
                          simp only [Act.put, List.setIfInBounds_toArray]
                          refine wpAnyIn_ready (rs := [9]) (by kernel_rfl) (by simp) ?_
                          refine AllReadyIn.cons rfl (fun K hK => ?_) ?_
                          · go_simp
                            refine hK _ _ ?_
                            clear hK K
                            refine wpAnyIn_done (by kernel_rfl) ?_ _
                            have c1 := HF.out.c1
                            have z1 := HF.out.z1
                            have cn := HF.out.cn
                            have c2 := HF.out.c2
                            have z2 := HF.out.z2
                            clear c3 zz3 hrun b3q b3a b1 b2 b3 z3 d0 d7 f0 f1 f2 f3 f4 f5 SKH BRH x0 x1 x3 xb z5
                            gi_wp2
                            have hdn : dueN x now P (d + 1) = c + 1 := by rw [dueN_succ, if_pos hd2, hd3]
                            exact ⟨⟨HF.out.keep.size, fun k o hk => HF.out.keep.same k o (by omega)⟩, by rw [← hdn]; exact HF.out.fin⟩
                          exact AllReadyIn.nil
                        exact AllReadyIn.nil
                      exact AllReadyIn.nil
                    exact AllReadyIn.nil
                  exact AllReadyIn.nil
                refine AllReadyIn.cons rfl (fun K hK => ?_) ?_
                · go_simp
                  refine hK _ _ ?_
                  clear hK K
                  refine wpAnyIn_ready (rs := [0, 6]) (by kernel_rfl) (by simp) ?_
                  refine AllReadyIn.cons rfl (fun K hK => ?_) ?_
                  · go_simp
                    refine hK _ _ ?_
                    clear hK K
                    refine wpAnyIn_ready (rs := [6]) (by kernel_rfl) (by simp) ?_
                    refine AllReadyIn.cons rfl (fun K hK => ?_) ?_
                    · go_simp
                      refine (CallsIn.inRound l (callsIn_wide.2 BRH.out)).mono ?_
                      rintro e w1 ⟨rfl, B1⟩
                      have b3q := (B1.cell (p := ⟨w.heap.size + 2, 0, none⟩) (cell_lt x3)).trans x3
                      obtain ⟨gz, cz, wb, hrun, hF⟩ := SKH.out w1 (((Below.refl _ _).drew).trans B1)
                      have b3a : (w1.alloc (.cells #[.int .i64 (x.tx : Int), .int .i64 sq, .int .i64 0, .int .i64 0, .int .i64 2, .slice none 0 0] 55)).cell? ⟨w.heap.size + 2, 0, none⟩ = _ := cellQ ((Below.refl _ w1).alloc (Nat.le_refl _) _) b3q
                      have c3 := hF.c3
                      have zz3 := hF.z3
                      have HF := Hid.intro hF
                      clear hF B1
                      simp only []
                      refine hK _ _ ?_
                      clear hK K
                      refine wpAnyIn_ready (rs := [7]) (by kernel_rfl) (by simp) ?_
                      refine AllReadyIn.cons rfl (fun K hK => ?_) ?_
                      · go_simp
                        refine hK _ _ ?_
                        clear hK K
                        refine wpAnyIn_ready (rs := [8]) (by kernel_rfl) (by simp) ?_
                        refine AllReadyIn.cons rfl (fun K hK => ?_) ?_
                        · refine stepIn_append rfl _ _ _ rfl _ _ _ _ (by rfl) (by rfl) hrun ?_
                          refine hK _ _ ?_
                          clear hK K
                          simp only [Act.put, List.setIfInBounds_toArray]
                          refine wpAnyIn_ready (rs := [9]) (by kernel_rfl) (by simp) ?_
                          refine AllReadyIn.cons rfl (fun K hK => ?_) ?_
                          · go_simp
                            refine hK _ _ ?_
                            clear hK K
                            refine wpAnyIn_done (by kernel_rfl) ?_ _
                            have c1 := HF.out.c1
                            have z1 := HF.out.z1
                            have cn := HF.out.cn
                            have c2 := HF.out.c2
                            have z2 := HF.out.z2
                            clear c3 zz3 hrun b3q b3a b1 b2 b3 z3 d0 d7 f0 f1 f2 f3 f4 f5 SKH BRH x0 x1 x3 xb z5
                            gi_wp2
                            have hdn : dueN x now P (d + 1) = c + 1 := by rw [dueN_succ, if_pos hd2, hd3]
                            exact ⟨⟨HF.out.keep.size, fun k o hk => HF.out.keep.same k o (by omega)⟩, by rw [← hdn]; exact HF.out.fin⟩
                          exact AllReadyIn.nil
                        exact AllReadyIn.nil
                      exact AllReadyIn.nil
                    exact AllReadyIn.nil
                  refine AllReadyIn.cons rfl (fun K hK => ?_) ?_
                  · go_simp
                    refine (CallsIn.inRound l (callsIn_wide.2 BRH.out)).mono ?_
                    rintro e w1 ⟨rfl, B1⟩
                    have b3q := (B1.cell (p := ⟨w.heap.size + 2, 0, none⟩) (cell_lt x3)).trans x3
                    obtain ⟨gz, cz, wb, hrun, hF⟩ := SKH.out w1 (((Below.refl _ _).drew).trans B1)
                    have b3a : (w1.alloc (.cells #[.int .i64 (x.tx : Int), .int .i64 sq, .int .i64 0, .int .i64 0, .int .i64 2, .slice none 0 0] 55)).cell? ⟨w.heap.size + 2, 0, none⟩ = _ := cellQ ((Below.refl _ w1).alloc (Nat.le_refl _) _) b3q
                    have c3 := hF.c3
                    have zz3 := hF.z3
                    have HF := Hid.intro hF
                    clear hF B1
                    simp only []
                    refine hK _ _ ?_
                    clear hK K
                    refine wpAnyIn_ready (rs := [0, 7]) (by kernel_rfl) (by simp) ?_
                    refine AllReadyIn.cons rfl (fun K hK => ?_) ?_
                    · go_simp
                      refine hK _ _ ?_
                      clear hK K
                      refine wpAnyIn_ready (rs := [7]) (by kernel_rfl) (by simp) ?_
                      refine AllReadyIn.cons rfl (fun K hK => ?_) ?_
                      · go_simp
                        refine hK _ _ ?_
                        clear hK K
                        refine wpAnyIn_ready (rs := [8]) (by kernel_rfl) (by simp) ?_
                        refine AllReadyIn.cons rfl (fun K hK => ?_) ?_
                        · refine stepIn_append rfl _ _ _ rfl _ _ _ _ (by rfl) (by rfl) hrun ?_
                          refine hK _ _ ?_
                          clear hK K
                          simp only [Act.put, List.setIfInBounds_toArray]
                          refine wpAnyIn_ready (rs := [9]) (by kernel_rfl) (by simp) ?_
                          refine AllReadyIn.cons rfl (fun K hK => ?_) ?_
                          · go_simp
                            refine hK _ _ ?_
                            clear hK K
                            refine wpAnyIn_done (by kernel_rfl) ?_ _
                            have c1 := HF.out.c1
                            have z1 := HF.out.z1
                            have cn := HF.out.cn
                            have c2 := HF.out.c2
                            have z2 := HF.out.z2
                            clear c3 zz3 hrun b3q b3a b1 b2 b3 z3 d0 d7 f0 f1 f2 f3 f4 f5 SKH BRH x0 x1 x3 xb z5
                            gi_wp2
                            have hdn : dueN x now P (d + 1) = c + 1 := by rw [dueN_succ, if_pos hd2, hd3]
                            exact ⟨⟨HF.out.keep.size, fun k o hk => HF.out.keep.same k o (by omega)⟩, by rw [← hdn]; exact HF.out.fin⟩
                          exact AllReadyIn.nil
                        exact AllReadyIn.nil
                      exact AllReadyIn.nil
                    refine AllReadyIn.cons rfl (fun K hK => ?_) ?_
                    · go_simp
                      refine hK _ _ ?_
                      clear hK K
                      refine wpAnyIn_ready (rs := [0]) (by kernel_rfl) (by simp) ?_
                      refine AllReadyIn.cons rfl (fun K hK => ?_) ?_
                      · go_simp
                        refine hK _ _ ?_
                        clear hK K
                        refine wpAnyIn_ready (rs := [8]) (by kernel_rfl) (by simp) ?_
                        refine AllReadyIn.cons rfl (fun K hK => ?_) ?_
                        · refine stepIn_append rfl _ _ _ rfl _ _ _ _ (by rfl) (by rfl) hrun ?_
                          refine hK _ _ ?_
                          clear hK K
                          simp only [Act.put, List.setIfInBounds_toArray]
                          refine wpAnyIn_ready (rs := [9]) (by kernel_rfl) (by simp) ?_
                          refine AllReadyIn.cons rfl (fun K hK => ?_) ?_
                          · go_simp
                            refine hK _ _ ?_
                            clear hK K
                            refine wpAnyIn_done (by kernel_rfl) ?_ _
                            have c1 := HF.out.c1
                            have z1 := HF.out.z1
                            have cn := HF.out.cn
                            have c2 := HF.out.c2
                            have z2 := HF.out.z2
                            clear c3 zz3 hrun b3q b3a b1 b2 b3 z3 d0 d7 f0 f1 f2 f3 f4 f5 SKH BRH x0 x1 x3 xb z5
                            gi_wp2
                            have hdn : dueN x now P (d + 1) = c + 1 := by rw [dueN_succ, if_pos hd2, hd3]
                            exact ⟨⟨HF.out.keep.size, fun k o hk => HF.out.keep.same k o (by omega)⟩, by rw [← hdn]; exact HF.out.fin⟩
                          exact AllReadyIn.nil
                        exact AllReadyIn.nil
                      exact AllReadyIn.nil
                    exact AllReadyIn.nil
                  exact AllReadyIn.nil
                exact AllReadyIn.nil
              exact AllReadyIn.nil
            refine AllReadyIn.cons rfl (fun K hK => ?_) ?_
            · go_simp
              refine hK _ _ ?_
              clear hK K
              refine wpAnyIn_ready (rs := [0, 1, 5]) (by kernel_rfl) (by simp) ?_
              refine AllReadyIn.cons rfl (fun K hK => ?_) ?_
              · go_simp
                refine hK _ _ ?_
                clear hK K
                refine wpAnyIn_ready (rs := [1, 5]) (by kernel_rfl) (by simp) ?_
                refine AllReadyIn.cons rfl (fun K hK => ?_) ?_
                · go_simp
                  refine hK _ _ ?_
                  clear hK K
                  refine wpAnyIn_ready (rs := [5]) (by kernel_rfl) (by simp) ?_
                  refine AllReadyIn.cons rfl (fun K hK => ?_) ?_
                  · go_simp
                    refine hK _ _ ?_
                    clear hK K
                    refine wpAnyIn_ready (rs := [6]) (by kernel_rfl) (by simp) ?_
                    refine AllReadyIn.cons rfl (fun K hK => ?_) ?_
                    · go_simp
                      refine (CallsIn.inRound l (callsIn_wide.2 BRH.out)).mono ?_
                      rintro e w1 ⟨rfl, B1⟩
                      have b3q := (B1.cell (p := ⟨w.heap.size + 2, 0, none⟩) (cell_lt x3)).trans x3
                      obtain ⟨gz, cz, wb, hrun, hF⟩ := SKH.out w1 (((Below.refl _ _).drew).trans B1)
                      have b3a : (w1.alloc (.cells #[.int .i64 (x.tx : Int), .int .i64 sq, .int .i64 0, .int .i64 0, .int .i64 2, .slice none 0 0] 55)).cell? ⟨w.heap.size + 2, 0, none⟩ = _ := cellQ ((Below.refl _ w1).alloc (Nat.le_refl _) _) b3q
                      have c3 := hF.c3
                      have zz3 := hF.z3
                      have HF := Hid.intro hF
                      clear hF B1
                      simp only []
                      refine hK _ _ ?_
                      clear hK K
                      refine wpAnyIn_ready (rs := [7]) (by kernel_rfl) (by simp) ?_
                      refine AllReadyIn.cons rfl (fun K hK => ?_) ?_
                      · go_simp
                        refine hK _ _ ?_
                        clear hK K
                        refine wpAnyIn_ready (rs := [8]) (by kernel_rfl) (by simp) ?_
                        refine AllReadyIn.cons rfl (fun K hK => ?_) ?_
                        · refine stepIn_append rfl _ _ _ rfl _ _ _ _ (by rfl) (by rfl) hrun ?_
                          refine hK _ _ ?_
                          clear hK K
                          simp only [Act.put, List.setIfInBounds_toArray]
                          refine wpAnyIn_ready (rs := [9]) (by kernel_rfl) (by simp) ?_
                          refine AllReadyIn.cons rfl (fun K hK => ?_) ?_
                          · go_simp
                            refine hK _ _ ?_
                            clear hK K
                            refine wpAnyIn_done (by kernel_rfl) ?_ _
                            have c1 := HF.out.c1
                            have z1 := HF.out.z1
                            have cn := HF.out.cn
                            have c2 := HF.out.c2
                            have z2 := HF.out.z2
                            clear c3 zz3 hrun b3q b3a b1 b2 b3 z3 d0 d7 f0 f1 f2 f3 f4 f5 SKH BRH x0 x1 x3 xb z5
                            gi_wp2
                            have hdn : dueN x now P (d + 1) = c + 1 := by rw [dueN_succ, if_pos hd2, hd3]
                            exact ⟨⟨HF.out.keep.size, fun k o hk => HF.out.keep.same k o (by omega)⟩, by rw [← hdn]; exact HF.out.fin⟩
                          exact AllReadyIn.nil
                        exact AllReadyIn.nil
                      exact AllReadyIn.nil
                    exact AllReadyIn.nil
                  exact AllReadyIn.nil
                refine AllReadyIn.cons rfl (fun K hK => ?_) ?_
                · go_simp
                  refine hK _ _ ?_
                  clear hK K
                  refine wpAnyIn_ready (rs := [1]) (by kernel_rfl) (by simp) ?_
                  refine AllReadyIn.cons rfl (fun K hK => ?_) ?_
                  · go_simp
                    refine hK _ _ ?_
                    clear hK K
                    refine wpAnyIn_ready (rs := [6]) (by kernel_rfl) (by simp) ?_
                    refine AllReadyIn.cons rfl (fun K hK => ?_) ?_
                    · go_simp
                      refine (CallsIn.inRound l (callsIn_wide.2 BRH.out)).mono ?_
                      rintro e w1 ⟨rfl, B1⟩
                      have b3q := (B1.cell (p := ⟨w.heap.size + 2, 0, none⟩) (cell_lt x3)).trans x3
                      obtain ⟨gz, cz, wb, hrun, hF⟩ := SKH.out w1 (((Below.refl _ _).drew).trans B1)
                      have b3a : (w1.alloc (.cells #[.int .i64 (x.tx : Int), .int .i64 sq, .int .i64 0, .int .i64 0, .int .i64 2, .slice none 0 0] 55)).cell? ⟨w.heap.size + 2, 0, none⟩ = _ := cellQ ((Below.refl _ w1).alloc (Nat.le_refl _) _) b3q
                      have c3 := hF.c3
                      have zz3 := hF.z3
                      have HF := Hid.intro hF
                      clear hF B1
                      simp only []
                      refine hK _ _ ?_
                      clear hK K
                      refine wpAnyIn_ready (rs := [7]) (by kernel_rfl) (by simp) ?_
                      refine AllReadyIn.cons rfl (fun K hK => ?_) ?_
                      · go_simp
                        refine hK _ _ ?_
                        clear hK K
                        refine wpAnyIn_ready (rs := [8]) (by kernel_rfl) (by simp) ?_
                        refine AllReadyIn.cons rfl (fun K hK => ?_) ?_
                        · refine stepIn_append rfl _ _ _ rfl _ _ _ _ (by rfl) (by rfl) hrun ?_
                          refine hK _ _ ?_
                          clear hK K
                          simp only [Act.put, List.setIfInBounds_toArray]
                          refine wpAnyIn_ready (rs := [9]) (by kernel_rfl) (by simp) ?_
                          refine AllReadyIn.cons rfl (fun K hK => ?_) ?_
                          · go_simp
                            refine hK _ _ ?_
                            clear hK K
                            refine wpAnyIn_done (by kernel_rfl) ?_ _
                            have c1 := HF.out.c1
                            have z1 := HF.out.z1
                            have cn := HF.out.cn
                            have c2 := HF.out.c2
                            have z2 := HF.out.z2
                            clear c3 zz3 hrun b3q b3a b1 b2 b3 z3 d0 d7 f0 f1 f2 f3 f4 f5 SKH BRH x0 x1 x3 xb z5
                            gi_wp2
                            have hdn : dueN x now P (d + 1) = c + 1 := by rw [dueN_succ, if_pos hd2, hd3]
                            exact ⟨⟨HF.out.keep.size, fun k o hk => HF.out.keep.same k o (by omega)⟩, by rw [← hdn]; exact HF.out.fin⟩
                          exact AllReadyIn.nil
                        exact AllReadyIn.nil
                      exact AllReadyIn.nil
                    exact AllReadyIn.nil
                  exact AllReadyIn.nil
                exact AllReadyIn.nil
              refine AllReadyIn.cons rfl (fun K hK => ?_) ?_
              · go_simp
                refine hK _ _ ?_
                clear hK K
                refine wpAnyIn_ready (rs := [0, 5]) (by kernel_rfl) (by simp) ?_
                refine AllReadyIn.cons rfl (fun K hK => ?_) ?_
                · go_simp
                  refine hK _ _ ?_
                  clear hK K
                  refine wpAnyIn_ready (rs := [5]) (by kernel_rfl) (by simp) ?_
                  refine AllReadyIn.cons rfl (fun K hK => ?_) ?_
                  · go_simp
                    refine hK _ _ ?_
                    clear hK K
                    refine wpAnyIn_ready (rs := [6]) (by kernel_rfl) (by simp) ?_
                    refine AllReadyIn.cons rfl (fun K hK => ?_) ?_
                    · go_simp
                      refine (CallsIn.inRound l (callsIn_wide.2 BRH.out)).mono ?_
                      rintro e w1 ⟨rfl, B1⟩
                      have b3q := (B1.cell (p := ⟨w.heap.size + 2, 0, none⟩) (cell_lt x3)).trans x3
                      obtain ⟨gz, cz, wb, hrun, hF⟩ := SKH.out w1 (((Below.refl _ _).drew).trans B1)
                      have b3a : (w1.alloc (.cells #[.int .i64 (x.tx : Int), .int .i64 sq, .int .i64 0, .int .i64 0, .int .i64 2, .slice none 0 0] 55)).cell? ⟨w.heap.size + 2, 0, none⟩ = _ := cellQ ((Below.refl _ w1).alloc (Nat.le_refl _) _) b3q
                      have c3 := hF.c3
                      have zz3 := hF.z3
                      have HF := Hid.intro hF
                      clear hF B1
                      simp only []
                      refine hK _ _ ?_
                      clear hK K
                      refine wpAnyIn_ready (rs := [7]) (by kernel_rfl) (by simp) ?_
                      refine AllReadyIn.cons rfl (fun K hK => ?_) ?_
                      · go_simp
                        refine hK _ _ ?_
                        clear hK K
                        refine wpAnyIn_ready (rs := [8]) (by kernel_rfl) (by simp) ?_
                        refine AllReadyIn.cons rfl (fun K hK => ?_) ?_
                        · refine stepIn_append rfl _ _ _ rfl _ _ _ _ (by rfl) (by rfl) hrun ?_
                          refine hK _ _ ?_
                          clear hK K
                          simp only [Act.put, List.setIfInBounds_toArray]
                          refine wpAnyIn_ready (rs := [9]) (by kernel_rfl) (by simp) ?_
                          refine AllReadyIn.cons rfl (fun K hK => ?_) ?_
                          · go_simp
                            refine hK _ _ ?_
                            clear hK K
                            refine wpAnyIn_done (by kernel_rfl) ?_ _
                            have c1 := HF.out.c1
                            have z1 := HF.out.z1
                            have cn := HF.out.cn
                            have c2 := HF.out.c2
                            have z2 := HF.out.z2
                            clear c3 zz3 hrun b3q b3a b1 b2 b3 z3 d0 d7 f0 f1 f2 f3 f4 f5 SKH BRH x0 x1 x3 xb z5
                            gi_wp2
                            have hdn : dueN x now P (d + 1) = c + 1 := by rw [dueN_succ, if_pos hd2, hd3]
                            exact ⟨⟨HF.out.keep.size, fun k o hk => HF.out.keep.same k o (by omega)⟩, by rw [← hdn]; exact HF.out.fin⟩
                          exact AllReadyIn.nil
                        exact AllReadyIn.nil
                      exact AllReadyIn.nil
                    exact AllReadyIn.nil
                  exact AllReadyIn.nil
                refine AllReadyIn.cons rfl (fun K hK => ?_) ?_
                · go_simp
                  refine hK _ _ ?_
                  clear hK K
                  refine wpAnyIn_ready (rs := [0, 6]) (by kernel_rfl) (by simp) ?_
                  refine AllReadyIn.cons rfl (fun K hK => ?_) ?_
                  · go_simp
                    refine hK _ _ ?_
                    clear hK K
                    refine wpAnyIn_ready (rs := [6]) (by kernel_rfl) (by simp) ?_
                    refine AllReadyIn.cons rfl (fun K hK => ?_) ?_
                    · go_simp
                      refine (CallsIn.inRound l (callsIn_wide.2 BRH.out)).mono ?_
                      rintro e w1 ⟨rfl, B1⟩
                      have b3q := (B1.cell (p := ⟨w.heap.size + 2, 0, none⟩) (cell_lt x3)).trans x3
                      obtain ⟨gz, cz, wb, hrun, hF⟩ := SKH.out w1 (((Below.refl _ _).drew).trans B1)
                      have b3a : (w1.alloc (.cells #[.int .i64 (x.tx : Int), .int .i64 sq, .int .i64 0, .int .i64 0, .int .i64 2, .slice none 0 0] 55)).cell? ⟨w.heap.size + 2, 0, none⟩ = _ := cellQ ((Below.refl _ w1).alloc (Nat.le_refl _) _) b3q
                      have c3 := hF.c3
                      have zz3 := hF.z3
                      have HF := Hid.intro hF
                      clear hF B1
                      simp only []
                      refine hK _ _ ?_
                      clear hK K
                      refine wpAnyIn_ready (rs := [7]) (by kernel_rfl) (by simp) ?_
                      refine AllReadyIn.cons rfl (fun K hK => ?_) ?_
                      · go_simp
                        refine hK _ _ ?_
                        clear hK K
                        refine wpAnyIn_ready (rs := [8]) (by kernel_rfl) (by simp) ?_
                        refine AllReadyIn.cons rfl (fun K hK => ?_) ?_
                        · refine stepIn_append rfl _ _ _ rfl _ _ _ _ (by rfl) (by rfl) hrun ?_
                          refine hK _ _ ?_
                          clear hK K
                          simp only [Act.put, List.setIfInBounds_toArray]
                          refine wpAnyIn_ready (rs := [9]) (by kernel_rfl) (by simp) ?_
                          refine AllReadyIn.cons rfl (fun K hK => ?_) ?_
                          · go_simp
                            refine hK _ _ ?_
                            clear hK K
                            refine wpAnyIn_done (by kernel_rfl) ?_ _
                            have c1 := HF.out.c1
                            have z1 := HF.out.z1
                            have cn := HF.out.cn
                            have c2 := HF.out.c2
                            have z2 := HF.out.z2
                            clear c3 zz3 hrun b3q b3a b1 b2 b3 z3 d0 d7 f0 f1 f2 f3 f4 f5 SKH BRH x0 x1 x3 xb z5
                            gi_wp2
                            have hdn : dueN x now P (d + 1) = c + 1 := by rw [dueN_succ, if_pos hd2, hd3]
                            exact ⟨⟨HF.out.keep.size, fun k o hk => HF.out.keep.same k o (by omega)⟩, by rw [← hdn]; exact HF.out.fin⟩
                          exact AllReadyIn.nil
                        exact AllReadyIn.nil
                      exact AllReadyIn.nil
                    exact AllReadyIn.nil
                  refine AllReadyIn.cons rfl (fun K hK => ?_) ?_
                  · go_simp
                    refine (CallsIn.inRound l (callsIn_wide.2 BRH.out)).mono ?_
                    rintro e w1 ⟨rfl, B1⟩
                    have b3q := (B1.cell (p := ⟨w.heap.size + 2, 0, none⟩) (cell_lt x3)).trans x3
                    obtain ⟨gz, cz, wb, hrun, hF⟩ := SKH.out w1 (((Below.refl _ _).drew).trans B1)
                    have b3a : (w1.alloc (.cells #[.int .i64 (x.tx : Int), .int .i64 sq, .int .i64 0, .int .i64 0, .int .i64 2, .slice none 0 0] 55)).cell? ⟨w.heap.size + 2, 0, none⟩ = _ := cellQ ((Below.refl _ w1).alloc (Nat.le_refl _) _) b3q
                    have c3 := hF.c3
                    have zz3 := hF.z3
                    have HF := Hid.intro hF
                    clear hF B1
                    simp only []
                    refine hK _ _ ?_
                    clear hK K
                    refine wpAnyIn_ready (rs := [0, 7]) (by kernel_rfl) (by simp) ?_
                    refine AllReadyIn.cons rfl (fun K hK => ?_) ?_
                    · go_simp
                      refine hK _ _ ?_
                      clear hK K
                      refine wpAnyIn_ready (rs := [7]) (by kernel_rfl) (by simp) ?_
                      refine AllReadyIn.cons rfl (fun K hK => ?_) ?_
                      · go_simp
                        refine hK _ _ ?_
                        clear hK K
                        refine wpAnyIn_ready (rs := [8]) (by kernel_rfl) (by simp) ?_
                        refine AllReadyIn.cons rfl (fun K hK => ?_) ?_
                        · refine stepIn_append rfl _ _ _ rfl _ _ _ _ (by rfl) (by rfl) hrun ?_
                          refine hK _ _ ?_
                          clear hK K
                          simp only [Act.put, List.setIfInBounds_toArray]
                          refine wpAnyIn_ready (rs := [9]) (by kernel_rfl) (by simp) ?_
                          refine AllReadyIn.cons rfl (fun K hK => ?_) ?_
                          · go_simp
                            refine hK _ _ ?_
                            clear hK K
                            refine wpAnyIn_done (by kernel_rfl) ?_ _
                            have c1 := HF.out.c1
                            have z1 := HF.out.z1
                            have cn := HF.out.cn
                            have c2 := HF.out.c2
                            have z2 := HF.out.z2
                            clear c3 zz3 hrun b3q b3a b1 b2 b3 z3 d0 d7 f0 f1 f2 f3 f4 f5 SKH BRH x0 x1 x3 xb z5
                            gi_wp2
                            have hdn : dueN x now P (d + 1) = c + 1 := by rw [dueN_succ, if_pos hd2, hd3]
                            exact ⟨⟨HF.out.keep.size, fun k o hk => HF.out.keep.same k o (by omega)⟩, by rw [← hdn]; exact HF.out.fin⟩
                          exact AllReadyIn.nil
                        exact AllReadyIn.nil
                      exact AllReadyIn.nil
                    refine AllReadyIn.cons rfl (fun K hK => ?_) ?_
                    · go_simp
                      refine hK _ _ ?_
                      clear hK K
                      refine wpAnyIn_ready (rs := [0]) (by kernel_rfl) (by simp) ?_
                      refine AllReadyIn.cons rfl (fun K hK => ?_) ?_
                      · go_simp
                        refine hK _ _ ?_
                        clear hK K
                        refine wpAnyIn_ready (rs := [8]) (by kernel_rfl) (by simp) ?_
                        refine AllReadyIn.cons rfl (fun K hK => ?_) ?_
                        · refine stepIn_append rfl _ _ _ rfl _ _ _ _ (by rfl) (by rfl) hrun ?_
                          refine hK _ _ ?_
                          clear hK K
                          simp only [Act.put, List.setIfInBounds_toArray]
                          refine wpAnyIn_ready (rs := [9]) (by kernel_rfl) (by simp) ?_
                          refine AllReadyIn.cons rfl (fun K hK => ?_) ?_
                          · go_simp
                            refine hK _ _ ?_
                            clear hK K
                            refine wpAnyIn_done (by kernel_rfl) ?_ _
                            have c1 := HF.out.c1
                            have z1 := HF.out.z1
                            have cn := HF.out.cn
                            have c2 := HF.out.c2
                            have z2 := HF.out.z2
                            clear c3 zz3 hrun b3q b3a b1 b2 b3 z3 d0 d7 f0 f1 f2 f3 f4 f5 SKH BRH x0 x1 x3 xb z5
                            gi_wp2
                            have hdn : dueN x now P (d + 1) = c + 1 := by rw [dueN_succ, if_pos hd2, hd3]
                            exact ⟨⟨HF.out.keep.size, fun k o hk => HF.out.keep.same k o (by omega)⟩, by rw [← hdn]; exact HF.out.fin⟩
                          exact AllReadyIn.nil
                        exact AllReadyIn.nil
                      exact AllReadyIn.nil
                    exact AllReadyIn.nil
                  exact AllReadyIn.nil
                exact AllReadyIn.nil
              refine AllReadyIn.cons rfl (fun K hK => ?_) ?_
              · go_simp
                refine hK _ _ ?_
                clear hK K
                refine wpAnyIn_ready (rs := [0, 1]) (by kernel_rfl) (by simp) ?_
                refine AllReadyIn.cons rfl (fun K hK => ?_) ?_
                · go_simp
                  refine hK _ _ ?_
                  clear hK K
                  refine wpAnyIn_ready (rs := [1]) (by kernel_rfl) (by simp) ?_
                  refine AllReadyIn.cons rfl (fun K hK => ?_) ?_
                  · go_simp
                    refine hK _ _ ?_
                    clear hK K
                    refine wpAnyIn_ready (rs := [6]) (by kernel_rfl) (by simp) ?_
                    refine AllReadyIn.cons rfl (fun K hK => ?_) ?_
                    · go_simp
                      refine (CallsIn.inRound l (callsIn_wide.2 BRH.out)).mono ?_
                      rintro e w1 ⟨rfl, B1⟩
                      have b3q := (B1.cell (p := ⟨w.heap.size + 2, 0, none⟩) (cell_lt x3)).trans x3
                      obtain ⟨gz, cz, wb, hrun, hF⟩ := SKH.out w1 (((Below.refl _ _).drew).trans B1)
                      have b3a : (w1.alloc (.cells #[.int .i64 (x.tx : Int), .int .i64 sq, .int .i64 0, .int .i64 0, .int .i64 2, .slice none 0 0] 55)).cell? ⟨w.heap.size + 2, 0, none⟩ = _ := cellQ ((Below.refl _ w1).alloc (Nat.le_refl _) _) b3q
                      have c3 := hF.c3
                      have zz3 := hF.z3
                      have HF := Hid.intro hF
                      clear hF B1
                      simp only []
                      refine hK _ _ ?_
                      clear hK K
                      refine wpAnyIn_ready (rs := [7]) (by kernel_rfl) (by simp) ?_
                      refine AllReadyIn.cons rfl (fun K hK => ?_) ?_
                      · go_simp
                        refine hK _ _ ?_
                        clear hK K
                        refine wpAnyIn_ready (rs := [8]) (by kernel_rfl) (by simp) ?_
                        refine AllReadyIn.cons rfl (fun K hK => ?_) ?_
                        · refine stepIn_append rfl _ _ _ rfl _ _ _ _ (by rfl) (by rfl) hrun ?_
                          refine hK _ _ ?_
                          clear hK K
                          simp only [Act.put, List.setIfInBounds_toArray]
                          refine wpAnyIn_ready (rs := [9]) (by kernel_rfl) (by simp) ?_
                          refine AllReadyIn.cons rfl (fun K hK => ?_) ?_
                          · go_simp
                            refine hK _ _ ?_
                            clear hK K
                            refine wpAnyIn_done (by kernel_rfl) ?_ _
                            have c1 := HF.out.c1
                            have z1 := HF.out.z1
                            have cn := HF.out.cn
                            have c2 := HF.out.c2
                            have z2 := HF.out.z2
                            clear c3 zz3 hrun b3q b3a b1 b2 b3 z3 d0 d7 f0 f1 f2 f3 f4 f5 SKH BRH x0 x1 x3 xb z5
                            gi_wp2
                            have hdn : dueN x now P (d + 1) = c + 1 := by rw [dueN_succ, if_pos hd2, hd3]
                            exact ⟨⟨HF.out.keep.size, fun k o hk => HF.out.keep.same k o (by omega)⟩, by rw [← hdn]; exact HF.out.fin⟩
                          exact AllReadyIn.nil
                        exact AllReadyIn.nil
                      exact AllReadyIn.nil
                    exact AllReadyIn.nil
                  exact AllReadyIn.nil
                refine AllReadyIn.cons rfl (fun K hK => ?_) ?_
                · go_simp
                  refine hK _ _ ?_
                  clear hK K
                  refine wpAnyIn_ready (rs := [0, 6]) (by kernel_rfl) (by simp) ?_
                  refine AllReadyIn.cons rfl (fun K hK => ?_) ?_
                  · go_simp
                    refine hK _ _ ?_
                    clear hK K
                    refine wpAnyIn_ready (rs := [6]) (by kernel_rfl) (by simp) ?_
                    refine AllReadyIn.cons rfl (fun K hK => ?_) ?_
                    · go_simp
                      refine (CallsIn.inRound l (callsIn_wide.2 BRH.out)).mono ?_
                      rintro e w1 ⟨rfl, B1⟩
                      have b3q := (B1.cell (p := ⟨w.heap.size + 2, 0, none⟩) (cell_lt x3)).trans x3
                      obtain ⟨gz, cz, wb, hrun, hF⟩ := SKH.out w1 (((Below.refl _ _).drew).trans B1)
                      have b3a : (w1.alloc (.cells #[.int .i64 (x.tx : Int), .int .i64 sq, .int .i64 0, .int .i64 0, .int .i64 2, .slice none 0 0] 55)).cell? ⟨w.heap.size + 2, 0, none⟩ = _ := cellQ ((Below.refl _ w1).alloc (Nat.le_refl _) _) b3q
                      have c3 := hF.c3
                      have zz3 := hF.z3
                      have HF := Hid.intro hF
                      clear hF B1
                      simp only []
                      refine hK _ _ ?_
                      clear hK K
                      refine wpAnyIn_ready (rs := [7]) (by kernel_rfl) (by simp) ?_
                      refine AllReadyIn.cons rfl (fun K hK => ?_) ?_
                      · go_simp
                        refine hK _ _ ?_
                        clear hK K
                        refine wpAnyIn_ready (rs := [8]) (by kernel_rfl) (by simp) ?_
                        refine AllReadyIn.cons rfl (fun K hK => ?_) ?_
                        · refine stepIn_append rfl _ _ _ rfl _ _ _ _ (by rfl) (by rfl) hrun ?_
                          refine hK _ _ ?_
                          clear hK K
                          simp only [Act.put, List.setIfInBounds_toArray]
                          refine wpAnyIn_ready (rs := [9]) (by kernel_rfl) (by simp) ?_
                          refine AllReadyIn.cons rfl (fun K hK => ?_) ?_
                          · go_simp
                            refine hK _ _ ?_
                            clear hK K
                            refine wpAnyIn_done (by kernel_rfl) ?_ _
                            have c1 := HF.out.c1
                            have z1 := HF.out.z1
                            have cn := HF.out.cn
                            have c2 := HF.out.c2
                            have z2 := HF.out.z2
                            clear c3 zz3 hrun b3q b3a b1 b2 b3 z3 d0 d7 f0 f1 f2 f3 f4 f5 SKH BRH x0 x1 x3 xb z5
                            gi_wp2
                            have hdn : dueN x now P (d + 1) = c + 1 := by rw [dueN_succ, if_pos hd2, hd3]
                            exact ⟨⟨HF.out.keep.size, fun k o hk => HF.out.keep.same k o (by omega)⟩, by rw [← hdn]; exact HF.out.fin⟩
                          exact AllReadyIn.nil
                        exact AllReadyIn.nil
                      exact AllReadyIn.nil
                    exact AllReadyIn.nil
                  refine AllReadyIn.cons rfl (fun K hK => ?_) ?_
                  · go_simp
                    refine (CallsIn.inRound l (callsIn_wide.2 BRH.out)).mono ?_
                    rintro e w1 ⟨rfl, B1⟩
                    have b3q := (B1.cell (p := ⟨w.heap.size + 2, 0, none⟩) (cell_lt x3)).trans x3
                    obtain ⟨gz, cz, wb, hrun, hF⟩ := SKH.out w1 (((Below.refl _ _).drew).trans B1)
                    have b3a : (w1.alloc (.cells #[.int .i64 (x.tx : Int), .int .i64 sq, .int .i64 0, .int .i64 0, .int .i64 2, .slice none 0 0] 55)).cell? ⟨w.heap.size + 2, 0, none⟩ = _ := cellQ ((Below.refl _ w1).alloc (Nat.le_refl _) _) b3q
                    have c3 := hF.c3
                    have zz3 := hF.z3
                    have HF := Hid.intro hF
                    clear hF B1
                    simp only []
                    refine hK _ _ ?_
                    clear hK K
                    refine wpAnyIn_ready (rs := [0, 7]) (by kernel_rfl) (by simp) ?_
                    refine AllReadyIn.cons rfl (fun K hK => ?_) ?_
                    · go_simp
                      refine hK _ _ ?_
                      clear hK K
                      refine wpAnyIn_ready (rs := [7]) (by kernel_rfl) (by simp) ?_
                      refine AllReadyIn.cons rfl (fun K hK => ?_) ?_
                      · go_simp
                        refine hK _ _ ?_
                        clear hK K
                        refine wpAnyIn_ready (rs := [8]) (by kernel_rfl) (by simp) ?_
                        refine AllReadyIn.cons rfl (fun K hK => ?_) ?_
                        · refine stepIn_append rfl _ _ _ rfl _ _ _ _ (by rfl) (by rfl) hrun ?_
                          refine hK _ _ ?_
                          clear hK K
                          simp only [Act.put, List.setIfInBounds_toArray]
                          refine wpAnyIn_ready (rs := [9]) (by kernel_rfl) (by simp) ?_
                          refine AllReadyIn.cons rfl (fun K hK => ?_) ?_
                          · go_simp
                            refine hK _ _ ?_
                            clear hK K
                            refine wpAnyIn_done (by kernel_rfl) ?_ _
                            have c1 := HF.out.c1
                            have z1 := HF.out.z1
                            have cn := HF.out.cn
                            have c2 := HF.out.c2
                            have z2 := HF.out.z2
                            clear c3 zz3 hrun b3q b3a b1 b2 b3 z3 d0 d7 f0 f1 f2 f3 f4 f5 SKH BRH x0 x1 x3 xb z5
                            gi_wp2
                            have hdn : dueN x now P (d + 1) = c + 1 := by rw [dueN_succ, if_pos hd2, hd3]
                            exact ⟨⟨HF.out.keep.size, fun k o hk => HF.out.keep.same k o (by omega)⟩, by rw [← hdn]; exact HF.out.fin⟩
                          exact AllReadyIn.nil
                        exact AllReadyIn.nil
                      exact AllReadyIn.nil
                    refine AllReadyIn.cons rfl (fun K hK => ?_) ?_
                    · go_simp
                      refine hK _ _ ?_
                      clear hK K
                      refine wpAnyIn_ready (rs := [0]) (by kernel_rfl) (by simp) ?_
                      refine AllReadyIn.cons rfl (fun K hK => ?_) ?_
                      · go_simp
                        refine hK _ _ ?_
                        clear hK K
                        refine wpAnyIn_ready (rs := [8]) (by kernel_rfl) (by simp) ?_
                        refine AllReadyIn.cons rfl (fun K hK => ?_) ?_
                        · refine stepIn_append rfl _ _ _ rfl _ _ _ _ (by rfl) (by rfl) hrun ?_
                          refine hK _ _ ?_
                          clear hK K
                          simp only [Act.put, List.setIfInBounds_toArray]
                          refine wpAnyIn_ready (rs := [9]) (by kernel_rfl) (by simp) ?_
                          refine AllReadyIn.cons rfl (fun K hK => ?_) ?_
                          · go_simp
                            refine hK _ _ ?_
                            clear hK K
                            refine wpAnyIn_done (by kernel_rfl) ?_ _
                            have c1 := HF.out.c1
                            have z1 := HF.out.z1
                            have cn := HF.out.cn
                            have c2 := HF.out.c2
                            have z2 := HF.out.z2
                            clear c3 zz3 hrun b3q b3a b1 b2 b3 z3 d0 d7 f0 f1 f2 f3 f4 f5 SKH BRH x0 x1 x3 xb z5
                            gi_wp2
                            have hdn : dueN x now P (d + 1) = c + 1 := by rw [dueN_succ, if_pos hd2, hd3]
                            exact ⟨⟨HF.out.keep.size, fun k o hk => HF.out.keep.same k o (by omega)⟩, by rw [← hdn]; exact HF.out.fin⟩
                          exact AllReadyIn.nil
                        exact AllReadyIn.nil
                      exact AllReadyIn.nil
                    exact AllReadyIn.nil
                  exact AllReadyIn.nil
                exact AllReadyIn.nil
              exact AllReadyIn.nil
            exact AllReadyIn.nil
          exact AllReadyIn.nil
        exact AllReadyIn.nil
  case done =>
    rintro D W hD ⟨t, ow, ad, cp, ht, hT⟩ hK
    rw [hsz] at hD
    have hT' := hT.at ht
    obtain ⟨F', q1, q2, q3, q4⟩ := hT'.done hn h D (.deferred none) hD hK rfl
    have b3 := hT'.boxes.2.2.1
    have FIN := Hid.intro (And.intro q1 (And.intro q2 (And.intro q3 q4)))
    obtain ⟨oo, oc, hof, _⟩ := ownsRow_form hT'.fts.own
    rw [hof] at b3 FIN
    clear hT hT' q1 q2 q3 q4 ST
    gi_wp2
    refine ⟨by simp, .inl ⟨_, _, rfl, run_takeDeferred hK, ?_⟩⟩
    exact ⟨_, results_tmp rfl _ _ _, .slice oo (tickT x now P n).length oc, F', rfl, FIN.out⟩

end Go.Proofs.YthhggjakenalpaaGreatDoor
