/- Package edf: a line's Pop and Push, and the job that comes ahead of all, taken out. -/
import Derived.Test.YtgcpkploeobafaaEdK3
namespace Go.Proofs.Ytgcpkploeobafaa
open Go.RowKit
open Bt

section
variable {b : Nat} {tb : TypeId} {tl : List Value} {S : Nat → Prop} {w w' : World}

set_option maxRecDepth 100000 in
set_option maxHeartbeats 2000000 in
theorem epop_in (n : Nat) (hn : n ≤ 900) (g : Nat → It) (w : World) (h : Ln b tb tl S w g (n + 1)) :
    Calls Try.prog 61 #[.pointer (some ⟨b, 0, none⟩)] w fun e w' => e = .returned (Wi (g n)) ∧ Ln b tb tl S w' g n ∧ Chg S w w' := by
  obtain ⟨v, hv⟩ := h
  have HV := Hid.intro hv
  have c0 := hv.cell
  have f0 := hv.nofz
  obtain ⟨ao, c, rfl, hf⟩ := hv.form
  obtain ⟨q, rfl⟩ := hf.resolve_left (by simp)
  rw [mapr_length] at c0
  have W0 := wt_of_owns hv.own (i := n) (by simp)
  rw [mapr_at] at W0
  have room : n + 1 ≤ c := by
    have := ownsRow_roomJ hv.own
    simp at this
    exact this
  have qb : q ≠ b := (hv.inV q rfl).2
  generalize hx : g n = x at *
  obtain ⟨⟨a0, a1, a2, a3, a4, a5, a6⟩, na⟩ := x
  obtain ⟨d0, d1, d2, d3, d4, d5, d6, d7⟩ := W0
  simp only at d0 d1 d2 d3 d4 d5 d6 d7
  have BN := (Below.refl _ w).alloc (Nat.le_refl _) (.cells #[.int .i64 a0, .int .i64 a1, .int .i64 a2, .int .i64 a3, .int .i64 a4, .int .i64 a5, .int .i64 a6, .int .i64 (na : Int)] 56)
  have nn : ((n + 1 : Nat) : Int) - 1 = (n : Int) := by omega
  have FIN : Hid (Ln b tb tl S ((w.setCell ⟨b, 0, none⟩ (.slice (some ⟨q, 0, none⟩) n c)).alloc (.cells #[.int .i64 a0, .int .i64 a1, .int .i64 a2, .int .i64 a3, .int .i64 a4, .int .i64 a5, .int .i64 a6, .int .i64 (na : Int)] 56)) g n ∧ Chg S w ((w.setCell ⟨b, 0, none⟩ (.slice (some ⟨q, 0, none⟩) n c)).alloc (.cells #[.int .i64 a0, .int .i64 a1, .int .i64 a2, .int .i64 a3, .int .i64 a4, .int .i64 a5, .int .i64 a6, .int .i64 (na : Int)] 56))) := by
    have own1 := HV.out.own
    rw [mapr_length, mapr_succ, wcells_append] at own1
    have own2 := ownsRow_pop (by rw [wcells_length, mapr_length]) own1
    have h2 := HV.out.laid (W := w) (v' := .slice (some ⟨q, 0, none⟩) n c) (l' := (List.range n).map g) rfl (Nat.le_refl _) (by rw [mapr_length]; exact own2) (fun k hk => by
      obtain rfl : q = k := by simpa [Value.ownBlock] using hk
      exact ⟨qb, .inl (HV.out.inV _ rfl).1⟩)
    have h3 : LnV b tb tl S (w.setCell ⟨b, 0, none⟩ (.slice (some ⟨q, 0, none⟩) n c)) (.slice (some ⟨q, 0, none⟩) n c) ((List.range n).map g) := ⟨h2.head, h2.own, HV.out.inB, fun k hk => by
      obtain rfl : q = k := by simpa [Value.ownBlock] using hk
      exact ⟨(HV.out.inV _ rfl).1, qb⟩, fun k hk => h2.lt k (.inl hk)⟩
    exact ⟨⟨_, h3.below ((Below.refl _ _).alloc (Nat.le_refl _) _)⟩, ((Chg.refl S w).setCell (fun _ => HV.out.inB) _).alloc _⟩
  have bl : b < w.heap.size := HV.out.lt b HV.out.inB
  have bn : ¬ b = w.heap.size := by omega
  have bn' : ¬ w.heap.size = b := by omega
  have c1 := cellB BN c0
  have f1 := (HV.out.below BN).nofz
  clear BN hv hf hx HV
  go_enter Try.func61, Try.ntmps61
  go_wp2
  go_ret
  exact ⟨rfl, FIN.out⟩

/-- One more that waits, appended. -/
theorem step_append_wait {w : World} {ops : Array Oper} {o : Oper} {a : Act} {K : Act → World → Prop} {Q : Exit → Act → World → Prop} {E : Prop} (hgd : o.guard = none) (s x : Operand)
    (ho : o.op = .call { callee := .builtin .append, args := #[s, x], argTypes := #[51, 51] })
    (v : Value) (l : List It) (n : Nat) (hn : n = l.length) (hs : a.eval s = v) (hown : w.ownsRow 0 56 8 v n (wcells l))
    (g : Nat) (j : It) (hx : a.eval x = .slice (some ⟨g, 0, none⟩) 1 1) (hr : w.heap[g]? = some (.cells (wcell j).toArray 56 (0, 0)))
    (hb : n ≤ 100000)
    (h : ∀ v' w', w'.ownsRow 0 56 8 v' (n + 1) (wcells (l ++ [j])) → w.grownBy w' v.ownBlock → (v'.ownBlock = v.ownBlock ∨ v'.ownBlock = some w.heap.size) → K (a.put o.dst v') w') :
    if Region.wanted o (yielded ops a.tmps) = true then Oper.wp Try.prog o a w K Q else E := by
  have hw : Region.wanted o (yielded ops a.tmps) = true := by simp [Region.wanted, hgd]
  rw [if_pos hw]
  obtain ⟨i, hi, hz0, hz1, hz2⟩ := info_parts info_wait
  obtain ⟨v', w', hrr, h2, h3, _, h5⟩ := run_append_own_at (P := Try.prog) w 0 51 o.type 56 i (.agg #[.int .i64 0, .int .i64 0, .int .i64 0, .int .i64 0, .int .i64 0, .int .i64 0, .int .i64 0, .int .i64 0]) 8 64 Try.underlying51 hi hz0 hz1 hz2 rfl (by decide) v n (wcells l) hown ⟨g, 0, none⟩ 1 1 (wcells [j]) (by rw [wcells_length]; rfl) (by rw [wcells_one]; exact World.news_of_block (cs := (wcell j).toArray) hr) (wcells_onecell [j]) (by unfold maxLen; omega) (by omega) (Nat.zero_le _)
  unfold Oper.wp execOp
  simp only [ho, resolve, invoke, builtin, Sem.run_bind, Sem.run_pure, Result.andThen_ok, List.map_toArray, List.map_cons, List.map_nil, hs, hx, hrr]
  exact h v' w' (by rw [wcells_append]; exact h2) h3 h5

theorem LnV.pushed {W wb : World} {v v' : Value} {n : Nat} {h : Nat → It} {x : It} (hv : LnV b tb tl S w v ((List.range n).map h)) (B : Below w.heap.size w W) (hown : wb.ownsRow 0 56 8 v' (n + 1) (wcells ((List.range n).map h ++ [x]))) (hgrow : W.grownBy wb v.ownBlock) (hat : v'.ownBlock = v.ownBlock ∨ v'.ownBlock = some W.heap.size) :
    wb.cell? ⟨b, 0, none⟩ = some v ∧ wb.frozen? ⟨b, 0, none⟩ = false ∧ ∃ S', Ln b tb tl S' (wb.setCell ⟨b, 0, none⟩ v') (updH h n x) (n + 1) ∧ Chg S w (wb.setCell ⟨b, 0, none⟩ v') ∧ ∀ k, S' k → S k ∨ w.heap.size ≤ k := by
  have bl : b < w.heap.size := hv.lt b hv.inB
  have hs := B.size
  have hs2 := hgrow.size
  have hb : wb.heap[b]? = w.heap[b]? := (hgrow.block b (by omega) (fun q => (hv.inV b q.symm).2 rfl)).trans (B.block b bl)
  have hV : ∀ k, v'.ownBlock = some k → k ≠ b ∧ (S k ∨ w.heap.size ≤ k) := fun k hk => by
    rcases hat with q | q
    · have := hv.inV k (by rw [← q]; exact hk)
      exact ⟨this.2, .inl this.1⟩
    · rw [hk] at q
      have e : k = W.heap.size := by simpa using q
      exact ⟨by omega, .inr (by omega)⟩
  have h2 := hv.laid (W := wb) (v' := v') (l' := (List.range (n + 1)).map (updH h n x)) hb (by omega) (by rw [mapr_length, mapr_upd]; exact hown) hV
  have hd := hb.trans hv.head
  refine ⟨by rw [cell_of_row _ _ 0 _ _ _ hd]; rfl, frozen_of_row wb b 0 _ _ hd, _, ⟨_, h2⟩, ?_, fun k hk => ?_⟩
  · exact (((below_chg B).mono (fun _ f _ => f.elim)).grown hgrow (fun k hk _ => (hv.inV k hk).1)).setCell (fun _ => hv.inB) _
  · rcases hk with q | q
    · exact .inl q
    · exact (hV k q).2

theorem run_asrt (a : It) (W : World) : (Instr.typeAssert (Wi a) 20 56 false).run Try.prog W = .ok (Wv a) W := by
  simp [Instr.typeAssert, run_underlying Try.underlying56, go_sem, Result.andThen]

set_option maxRecDepth 100000 in
set_option maxHeartbeats 2000000 in
theorem epushl_in (n : Nat) (hn : n ≤ 900) (h : Nat → It) (x : It) (w : World) (hM : Ln b tb tl S w h n) :
    Calls Try.prog 62 #[.pointer (some ⟨b, 0, none⟩), Wi x] w fun e w' => e = .returned (.tuple #[]) ∧ ∃ S', Ln b tb tl S' w' (updH h n x) (n + 1) ∧ Chg S w w' ∧ ∀ k, S' k → S k ∨ w.heap.size ≤ k := by
  obtain ⟨v, hv⟩ := hM
  have HV := Hid.intro hv
  have c0 := hv.cell
  obtain ⟨⟨a0, a1, a2, a3, a4, a5, a6⟩, na⟩ := x
  have BN := (Below.refl _ w).alloc (Nat.le_refl _) (.cells #[.int .i64 a0, .int .i64 a1, .int .i64 a2, .int .i64 a3, .int .i64 a4, .int .i64 a5, .int .i64 a6, .int .i64 (na : Int)] 56)
  have bl : b < w.heap.size := hv.lt b hv.inB
  have OW : Hid ((w.alloc (.cells #[.int .i64 a0, .int .i64 a1, .int .i64 a2, .int .i64 a3, .int .i64 a4, .int .i64 a5, .int .i64 a6, .int .i64 (na : Int)] 56)).ownsRow 0 56 8 v n (wcells ((List.range n).map h))) := by
    have := (hv.below BN).own
    rw [mapr_length] at this
    exact this
  have NB : Hid ((w.alloc (.cells #[.int .i64 a0, .int .i64 a1, .int .i64 a2, .int .i64 a3, .int .i64 a4, .int .i64 a5, .int .i64 a6, .int .i64 (na : Int)] 56)).heap[w.heap.size]? = some (.cells (wcell ⟨⟨a0, a1, a2, a3, a4, a5, a6⟩, na⟩).toArray 56 (0, 0))) := heap_alloc_new w _
  have c1 := cellB BN c0
  have BND := Hid.intro BN.drew
  have LEN : Hid (n = ((List.range n).map h).length) := by rw [Hid, mapr_length]
  have ta := run_asrt ⟨⟨a0, a1, a2, a3, a4, a5, a6⟩, na⟩
  clear hv BN
  go_enter Try.func62, Try.ntmps62
  go_wp2_with fail
  go_region_law (first
    | (refine step_append_wait rfl (.tmp 7) (.tmp 10) rfl v ((List.range n).map h) n LEN.out (by rfl) OW.out w.heap.size ⟨⟨a0, a1, a2, a3, a4, a5, a6⟩, na⟩ (by rfl) NB.out (by omega) ?_; intro v' wb hown hgrow hat; obtain ⟨c2, f2, fn⟩ := HV.out.pushed BND.out hown hgrow hat; have FN := Hid.intro fn; obtain ⟨ao', cc', hv', _⟩ := ownsRow_form hown; subst hv'; clear hown hgrow hat fn)
    | fail)
  all_goals
    go_end0
    exact ⟨rfl, FN.out⟩

end

end Go.Proofs.Ytgcpkploeobafaa
