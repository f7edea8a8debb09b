/- Limits, and owners, appended to a row of one's own. -/
import Derived.Test.YtcloneccfbcclaaLmVal
import Derived.Laws.AppendOwnNone
import Derived.Deep.RegionHeldLaw
namespace Go.Proofs.Ytcloneccfbcclaa
open Go.RowKit
open Bt

theorem news_lims {R : Nat → Prop} {w : World} {ad : Addr} {m c : Nat} {ms : List Lm} (h : LmsAt R w (.slice (some ad) m c) ms) : ∀ j u, (lcells ms)[j]? = some u → w.cell? (ad.add j) = some u := by
  intro j u hu
  have hj := (List.getElem?_eq_some_iff.1 hu).1
  rw [lcells_length] at hj
  obtain ⟨ao, cap, e, _, hp⟩ := h
  simp only [Value.slice.injEq] at e
  obtain ⟨rfl, _, _⟩ := e
  obtain ⟨pb, off, ha, _, hc⟩ := hp (by omega)
  simp only [Option.some.injEq] at ha
  subst ha
  have hq : j / 5 < ms.length := by omega
  have hr : j % 5 < 5 := Nat.mod_lt _ (by decide)
  have e2 : j = j / 5 * 5 + j % 5 := by omega
  have hcell := lcells_at ms hq hr
  rw [← e2, hu] at hcell
  obtain ⟨c0, c1, c2, c3, c4⟩ := hc (j / 5) hq
  rw [WideShapes.add_plain]
  generalize j / 5 = q at *
  generalize j % 5 = r at *
  have e3 : off + j = off + q * 5 + r := by omega
  rw [e3]
  match r, hr, hcell with
  | 0, _, hcell => rw [hcell]; exact c0
  | 1, _, hcell => rw [hcell]; exact c1
  | 2, _, hcell => rw [hcell]; exact c2
  | 3, _, hcell => rw [hcell]; exact c3
  | 4, _, hcell => rw [hcell]; exact c4

theorem append_lims {w : World} {ops : Array Oper} {rest : List Oper} {o : Oper} {a : Act} {Q : Exit → Act → World → Prop} (hgd : o.guard = none) (s x : Operand)
    (ho : o.op = .call { callee := .builtin .append, args := #[s, x], argTypes := #[34, 34] })
    (v : Value) (n : Nat) (l : List Lm) (hn : n = l.length) (hs : a.eval s = v) (hown : w.ownsRow 0 30 5 v n (lcells l))
    (R : Nat → Prop) (ao : Option Addr) (m c : Nat) (ms : List Lm) (hm : m = ms.length) (hx : a.eval x = .slice ao m c) (hr : LmsAt R w (.slice ao m c) ms) (h0 : ao = none → c = 0)
    (hb : n + m ≤ 100000)
    (h : ∀ v' w', w'.ownsRow 0 30 5 v' (n + m) (lcells (l ++ ms)) → w.grownBy w' v.ownBlock → (v'.ownBlock = v.ownBlock ∨ v'.ownBlock = some w.heap.size) → wpList Try.prog ops Q rest (a.put o.dst v') w') :
    wpList Try.prog ops Q (o :: rest) a w := by
  obtain ⟨i, hi, hz0, hz1, hz2⟩ := info_parts info_lim
  match ao, hx, hr, h0 with
  | none, hx, hr, h0 =>
    have hl0 : ms.length = 0 := by
      rcases Nat.eq_zero_or_pos ms.length with h | h
      · exact h
      · obtain ⟨ao', cap, e, _, hp⟩ := hr
        simp only [Value.slice.injEq] at e
        obtain ⟨rfl, _, _⟩ := e
        obtain ⟨pb, off, e2, _⟩ := hp h
        cases e2
    obtain rfl : ms = [] := List.eq_nil_of_length_eq_zero hl0
    subst hm
    rw [h0 rfl] at hx
    refine wpList_append_own_none hgd s x 34 ho 0 30 i 5 Try.underlying34 hi v n (lcells l) hs hown hx ?_
    refine h v w (by simpa using hown) ⟨rfl, rfl, rfl, Nat.le_refl _, fun _ _ _ => rfl⟩ (.inl rfl)
  | some ad, hx, hr, _ =>
    refine wpList_append_own_at w hgd s x 34 ho 0 30 i (.agg #[.int .i64 0, .int .i64 0, .int .i64 0, .int .i64 0, .int .i64 0]) 5 40 Try.underlying34 hi hz0 hz1 hz2 rfl (by decide) v n (lcells l) hs hown ad m c (lcells ms) hx (by rw [lcells_length, hm]) (news_lims hr) (lcells_onecell ms) (by unfold maxLen; omega) (by omega) (Nat.zero_le _) ?_
    intro v' w' h1 h2 _ h4
    exact h v' w' (by rw [lcells_append]; exact h1) h2 h4

/-- The row of '[]api.Job{}'. -/
theorem empty_lims (w : World) : (w.alloc (.cells #[] 30)).ownsRow 0 30 5 (.slice (some ⟨w.heap.size, 0, none⟩) 0 0) 0 (lcells []) :=
  ⟨rfl, .inr ⟨w.heap.size, 0, #[], rfl, Nat.zero_le _, heap_alloc_new _ _, Nat.le_refl _, Nat.zero_le _, rfl, rfl⟩⟩

/-- What an append leaves as it was. -/
theorem grownL {w w1 w2 : World} {v v' : Value} {B : Nat} (hgrow : w1.grownBy w2 v.ownBlock) (hat : v'.ownBlock = v.ownBlock ∨ v'.ownBlock = some w1.heap.size) (hB : Below B w w1) (hBw : B ≤ w.heap.size) (hv : ∀ k, v.ownBlock = some k → B ≤ k) :
    Below B w w2 ∧ ∀ k, v'.ownBlock = some k → B ≤ k := by
  have hs := hB.size
  refine ⟨hB.grown hgrow (by omega) hv, fun k hk => ?_⟩
  rcases hat with h | h
  · exact hv k (by rw [← h]; exact hk)
  · rw [hk] at h
    have e : k = w1.heap.size := by simpa using h
    omega

theorem step_append_lims {w : World} {ops : Array Oper} {o : Oper} {a : Act} {K : Act → World → Prop} {Q : Exit → Act → World → Prop} {E : Prop} (hgd : o.guard = none) (s x : Operand)
    (ho : o.op = .call { callee := .builtin .append, args := #[s, x], argTypes := #[34, 34] })
    (v : Value) (n : Nat) (l : List Lm) (_hn : n = l.length) (hs : a.eval s = v) (hown : w.ownsRow 0 30 5 v n (lcells l))
    (R : Nat → Prop) (ao : Option Addr) (m c : Nat) (ms : List Lm) (hm : m = ms.length) (hx : a.eval x = .slice ao m c) (hr : LmsAt R w (.slice ao m c) ms) (h0 : ao = none → c = 0)
    (hb : n + m ≤ 100000)
    (h : ∀ v' w', w'.ownsRow 0 30 5 v' (n + m) (lcells (l ++ ms)) → w.grownBy w' v.ownBlock → (v'.ownBlock = v.ownBlock ∨ v'.ownBlock = some w.heap.size) → K (a.put o.dst v') w') :
    if Region.wanted o (yielded ops a.tmps) = true then Oper.wp Try.prog o a w K Q else E := by
  have hw : Region.wanted o (yielded ops a.tmps) = true := by simp [Region.wanted, hgd]
  rw [if_pos hw]
  obtain ⟨i, hi, hz0, hz1, hz2⟩ := info_parts info_lim
  match ao, hx, hr, h0 with
  | none, hx, hr, h0 =>
    have hl0 : ms.length = 0 := by
      rcases Nat.eq_zero_or_pos ms.length with h | h
      · exact h
      · obtain ⟨ao', cap, e, _, hp⟩ := hr
        simp only [Value.slice.injEq] at e
        obtain ⟨rfl, _, _⟩ := e
        obtain ⟨pb, off, e2, _⟩ := hp h
        cases e2
    obtain rfl : ms = [] := List.eq_nil_of_length_eq_zero hl0
    subst hm
    rw [h0 rfl] at hx
    have hrun := run_append_owned_none (P := Try.prog) (w := w) 0 34 o.type 30 i 5 Try.underlying34 hi v n (lcells l) hown
    unfold Oper.wp
    simp [execOp, ho, resolve, invoke, builtin, hs, hx, hrun, Result.andThen]
    exact h v w (by simpa using hown) ⟨rfl, rfl, rfl, Nat.le_refl _, fun _ _ _ => rfl⟩ (.inl rfl)
  | some ad, hx, hr, _ =>
    obtain ⟨v', w', hrr, h2, h3, _, h5⟩ := run_append_own_at (P := Try.prog) w 0 34 o.type 30 i (.agg #[.int .i64 0, .int .i64 0, .int .i64 0, .int .i64 0, .int .i64 0]) 5 40 Try.underlying34 hi hz0 hz1 hz2 rfl (by decide) v n (lcells l) hown ad m c (lcells ms) (by rw [lcells_length, hm]) (news_lims hr) (lcells_onecell ms) (by unfold maxLen; omega) (by omega) (Nat.zero_le _)
    unfold Oper.wp execOp
    simp only [ho, resolve, invoke, builtin, Sem.run_bind, Sem.run_pure, Result.andThen_ok, List.map_toArray, List.map_cons, List.map_nil, hs, hx, hrr]
    exact h v' w' (by rw [lcells_append]; exact h2) h3 h5

theorem own_emptyL {W : World} {e : Nat} (h : W.heap[e]? = some (.cells #[] 30 (0, 0))) : W.ownsRow 0 30 5 (.slice (some ⟨e, 0, none⟩) 0 0) 0 (lcells []) :=
  ⟨rfl, .inr ⟨e, 0, #[], rfl, Nat.zero_le _, h, Nat.le_refl _, Nat.zero_le _, rfl, rfl⟩⟩

/-- One owner more, in a region that draws its order. -/
theorem step_append_own {w : World} {ops : Array Oper} {o : Oper} {a : Act} {K : Act → World → Prop} {Q : Exit → Act → World → Prop} {E : Prop} (hgd : o.guard = none) (s x : Operand)
    (ho : o.op = .call { callee := .builtin .append, args := #[s, x], argTypes := #[58, 58] })
    (v : Value) (l : List (Int × Int)) (n : Nat) (_hn : n = l.length) (hs : a.eval s = v) (hown : w.ownsRow 0 62 2 v n (ocells l))
    (g : Nat) (j : Int × Int) (hx : a.eval x = .slice (some ⟨g, 0, none⟩) 1 1) (hr : w.heap[g]? = some (.cells (ocell j).toArray 62 (0, 0)))
    (hb : n ≤ 100000)
    (h : ∀ v' w', w'.ownsRow 0 62 2 v' (n + 1) (ocells (l ++ [j])) → w.grownBy w' v.ownBlock → (v'.ownBlock = v.ownBlock ∨ v'.ownBlock = some w.heap.size) → K (a.put o.dst v') w') :
    if Region.wanted o (yielded ops a.tmps) = true then Oper.wp Try.prog o a w K Q else E := by
  have hw : Region.wanted o (yielded ops a.tmps) = true := by simp [Region.wanted, hgd]
  rw [if_pos hw]
  obtain ⟨i, hi, hz0, hz1, hz2⟩ := info_parts info_own
  obtain ⟨v', w', hrr, h2, h3, _, h5⟩ := run_append_own_at (P := Try.prog) w 0 58 o.type 62 i (.agg #[.int .i64 0, .int .i64 0]) 2 16 Try.underlying58 hi hz0 hz1 hz2 rfl (by decide) v n (ocells l) hown ⟨g, 0, none⟩ 1 1 (ocells [j]) (by rw [ocells_length]; rfl) (by rw [ocells_one]; exact World.news_of_block (cs := (ocell j).toArray) hr) (ocells_onecell [j]) (by unfold maxLen; omega) (by omega) (Nat.zero_le _)
  unfold Oper.wp execOp
  simp only [ho, resolve, invoke, builtin, Sem.run_bind, Sem.run_pure, Result.andThen_ok, List.map_toArray, List.map_cons, List.map_nil, hs, hx, hrr]
  exact h v' w' (by rw [ocells_append]; exact h2) h3 h5

end Go.Proofs.Ytcloneccfbcclaa
