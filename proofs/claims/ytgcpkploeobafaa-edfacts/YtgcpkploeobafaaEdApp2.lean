/- 'append(append(append([]api.Job{}, l...), j), m...)' in a region that draws its order. -/
import Derived.Test.YtgcpkploeobafaaEdApp
import Derived.Deep.RegionHeldLaw
namespace Go.Proofs.Ytgcpkploeobafaa
open Go.RowKit
open Bt

theorem step_append_jobs {w : World} {ops : Array Oper} {o : Oper} {a : Act} {K : Act → World → Prop} {Q : Exit → Act → World → Prop} {E : Prop} (hgd : o.guard = none) (s x : Operand)
    (ho : o.op = .call { callee := .builtin .append, args := #[s, x], argTypes := #[26, 26] })
    (v : Value) (n : Nat) (l : List Jb) (_hn : n = l.length) (hs : a.eval s = v) (hown : w.ownsRow 0 38 7 v n (jcells l))
    (R : Nat → Prop) (ao : Option Addr) (m c : Nat) (ms : List Jb) (hm : m = ms.length) (hx : a.eval x = .slice ao m c) (hr : JsAt R w (.slice ao m c) ms) (h0 : ao = none → c = 0)
    (hb : n + m ≤ 100000)
    (h : ∀ v' w', w'.ownsRow 0 38 7 v' (n + m) (jcells (l ++ ms)) → w.grownBy w' v.ownBlock → (v'.ownBlock = v.ownBlock ∨ v'.ownBlock = some w.heap.size) → K (a.put o.dst v') w') :
    if Region.wanted o (yielded ops a.tmps) = true then Oper.wp Try.prog o a w K Q else E := by
  have hw : Region.wanted o (yielded ops a.tmps) = true := by simp [Region.wanted, hgd]
  rw [if_pos hw]
  obtain ⟨i, hi, hz0, hz1, hz2⟩ := info_parts info_job
  match ao, hx, hr, h0 with
  | none, hx, hr, h0 =>
    have hl0 : ms.length = 0 := by
      rcases Nat.eq_zero_or_pos ms.length with h | h
      · exact h
      · obtain ⟨ao', cap, e, _, hp⟩ := hr
        simp only [Value.slice.injEq] at e
        obtain ⟨rfl, _, _⟩ := e
        obtain ⟨pb, off, e2, _⟩ := hp h
        cases e2
    obtain rfl : ms = [] := List.eq_nil_of_length_eq_zero hl0
    subst hm
    rw [h0 rfl] at hx
    have hrun := run_append_owned_none (P := Try.prog) (w := w) 0 26 o.type 38 i 7 Try.underlying26 hi v n (jcells l) hown
    unfold Oper.wp
    simp [execOp, ho, resolve, invoke, builtin, hs, hx, hrun, Result.andThen]
    exact h v w (by simpa using hown) ⟨rfl, rfl, rfl, Nat.le_refl _, fun _ _ _ => rfl⟩ (.inl rfl)
  | some ad, hx, hr, _ =>
    obtain ⟨v', w', hrr, h2, h3, _, h5⟩ := run_append_own_at (P := Try.prog) w 0 26 o.type 38 i (.agg #[.int .i64 0, .int .i64 0, .int .i64 0, .int .i64 0, .int .i64 0, .int .i64 0, .int .i64 0]) 7 56 Try.underlying26 hi hz0 hz1 hz2 rfl (by decide) v n (jcells l) hown ad m c (jcells ms) (by rw [jcells_length, hm]) (news_jobs hr) (jcells_onecell ms) (by unfold maxLen; omega) (by omega) (Nat.zero_le _)
    unfold Oper.wp execOp
    simp only [ho, resolve, invoke, builtin, Sem.run_bind, Sem.run_pure, Result.andThen_ok, List.map_toArray, List.map_cons, List.map_nil, hs, hx, hrr]
    exact h v' w' (by rw [jcells_append]; exact h2) h3 h5

theorem own_emptyJ {W : World} {e : Nat} (h : W.heap[e]? = some (.cells #[] 38 (0, 0))) : W.ownsRow 0 38 7 (.slice (some ⟨e, 0, none⟩) 0 0) 0 (jcells []) :=
  ⟨rfl, .inr ⟨e, 0, #[], rfl, Nat.zero_le _, h, Nat.le_refl _, Nat.zero_le _, rfl, rfl⟩⟩

theorem bel_allocJ {H : Nat} {a W : World} (h : Below H a W) (hH : H ≤ a.heap.size) (o : Obj) : Below H a (W.alloc o) := h.alloc (Nat.le_trans hH h.size) o

theorem alloc_atJ {W : World} {o : Obj} {k : Nat} (h : k = W.heap.size) : (W.alloc o).heap[k]? = some o := by rw [h]; exact heap_alloc_new W o

theorem alloc_farJ {W : World} {o v : Obj} {k : Nat} (h : W.heap[k]? = some v) : (W.alloc o).heap[k]? = some v := (Below.heap_alloc W o k (Array.getElem?_eq_some_iff.1 h).1).trans h

/-- Behind the first append. -/
structure ApJF (H : Nat) (w0 : World) (L : Nat) (l : List Jb) (W wa : World) (va : Value) : Prop where
  own : wa.ownsRow 0 38 7 va L (jcells l)
  below : Below H w0 wa
  ge : ∀ k, va.ownBlock = some k → H ≤ k
  keep : ∀ (k : Nat) (o : Obj), W.heap[k]? = some o → o ≠ .cells #[] 38 (0, 0) → wa.heap[k]? = some o

theorem apJF {H : Nat} {w0 W wa : World} {L : Nat} {l : List Jb} {e : Nat} {va : Value} (hE : W.heap[e]? = some (.cells #[] 38 (0, 0))) (he : H ≤ e) (hB : Below H w0 W) (hH : H ≤ w0.heap.size)
    (hown : wa.ownsRow 0 38 7 va (0 + L) (jcells ([] ++ l))) (hgrow : W.grownBy wa (some e)) (hat : va.ownBlock = some e ∨ va.ownBlock = some W.heap.size) : ApJF H w0 L l W wa va := by
  have hs := hB.size
  refine ⟨by rw [Nat.zero_add, List.nil_append] at hown; exact hown, ⟨hgrow.os.trans hB.os, hgrow.tape.trans hB.tape, hgrow.output.trans hB.output, Nat.le_trans hs hgrow.size, fun k hk => (hgrow.block k (by omega) (fun q => by cases q; omega)).trans (hB.block k hk)⟩, fun k hk => ?_, fun k o ho hn => ?_⟩
  · rcases hat with q | q
    · rw [q] at hk; cases hk; exact he
    · rw [q] at hk; cases hk; omega
  · have hk := (Array.getElem?_eq_some_iff.1 ho).1
    have hne : k ≠ e := fun q => by subst q; rw [hE] at ho; cases ho; exact hn rfl
    exact (hgrow.block k hk (fun q => hne (by cases q; rfl))).trans ho

/-- Behind the second one. -/
structure ApJG (H : Nat) (w0 : World) (L : Nat) (l : List Jb) (wb : World) (vb : Value) : Prop where
  own : wb.ownsRow 0 38 7 vb (L + 1) (jcells l)
  below : Below H w0 wb
  ge : ∀ k, vb.ownBlock = some k → H ≤ k

theorem apJG {H : Nat} {w0 W W2 wa wb : World} {L : Nat} {l : List Jb} {b : Jb} {va vb : Value} (Q : ApJF H w0 L l W wa va) (hB : Below H w0 W2) (hH : H ≤ w0.heap.size)
    (hown : wb.ownsRow 0 38 7 vb (L + 1) (jcells (l ++ [b]))) (hgrow : W2.grownBy wb va.ownBlock) (hat : vb.ownBlock = va.ownBlock ∨ vb.ownBlock = some W2.heap.size) : ApJG H w0 L (l ++ [b]) wb vb := by
  obtain ⟨g1, g2⟩ := grownJ hgrow hat hB hH Q.ge
  exact ⟨hown, g1, g2⟩

end Go.Proofs.Ytgcpkploeobafaa
