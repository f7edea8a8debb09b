/- Jobs appended to a row of jobs of one's own: whatever jobs, none too. -/
import Derived.Test.YtgcpkploeobafaaEdVal
import Derived.Laws.AppendOwnNone
namespace Go.Proofs.Ytgcpkploeobafaa
open Go.RowKit
open Bt

theorem news_jobs {R : Nat → Prop} {w : World} {ad : Addr} {m c : Nat} {ms : List Jb} (h : JsAt R w (.slice (some ad) m c) ms) : ∀ j u, (jcells ms)[j]? = some u → w.cell? (ad.add j) = some u := by
  intro j u hu
  have hj := (List.getElem?_eq_some_iff.1 hu).1
  rw [jcells_length] at hj
  obtain ⟨ao, cap, e, _, hp⟩ := h
  simp only [Value.slice.injEq] at e
  obtain ⟨rfl, _, _⟩ := e
  obtain ⟨pb, off, ha, _, hc⟩ := hp (by omega)
  simp only [Option.some.injEq] at ha
  subst ha
  have hq : j / 7 < ms.length := by omega
  have hr : j % 7 < 7 := Nat.mod_lt _ (by decide)
  have e2 : j = j / 7 * 7 + j % 7 := by omega
  have hcell := jcells_at ms hq hr
  rw [← e2, hu] at hcell
  obtain ⟨c0, c1, c2, c3, c4, c5, c6⟩ := hc (j / 7) hq
  rw [WideShapes.add_plain]
  generalize j / 7 = q at *
  generalize j % 7 = r at *
  have e3 : off + j = off + q * 7 + r := by omega
  rw [e3]
  match r, hr, hcell with
  | 0, _, hcell => rw [hcell]; exact c0
  | 1, _, hcell => rw [hcell]; exact c1
  | 2, _, hcell => rw [hcell]; exact c2
  | 3, _, hcell => rw [hcell]; exact c3
  | 4, _, hcell => rw [hcell]; exact c4
  | 5, _, hcell => rw [hcell]; exact c5
  | 6, _, hcell => rw [hcell]; exact c6

theorem append_jobs {w : World} {ops : Array Oper} {rest : List Oper} {o : Oper} {a : Act} {Q : Exit → Act → World → Prop} (hgd : o.guard = none) (s x : Operand)
    (ho : o.op = .call { callee := .builtin .append, args := #[s, x], argTypes := #[26, 26] })
    (v : Value) (n : Nat) (l : List Jb) (hn : n = l.length) (hs : a.eval s = v) (hown : w.ownsRow 0 38 7 v n (jcells l))
    (R : Nat → Prop) (ao : Option Addr) (m c : Nat) (ms : List Jb) (hm : m = ms.length) (hx : a.eval x = .slice ao m c) (hr : JsAt R w (.slice ao m c) ms) (h0 : ao = none → c = 0)
    (hb : n + m ≤ 100000)
    (h : ∀ v' w', w'.ownsRow 0 38 7 v' (n + m) (jcells (l ++ ms)) → w.grownBy w' v.ownBlock → (v'.ownBlock = v.ownBlock ∨ v'.ownBlock = some w.heap.size) → wpList Try.prog ops Q rest (a.put o.dst v') w') :
    wpList Try.prog ops Q (o :: rest) a w := by
  obtain ⟨i, hi, hz0, hz1, hz2⟩ := info_parts info_job
  match ao, hx, hr, h0 with
  | none, hx, hr, h0 =>
    have hl0 : ms.length = 0 := by
      rcases Nat.eq_zero_or_pos ms.length with h | h
      · exact h
      · obtain ⟨ao', cap, e, _, hp⟩ := hr
        simp only [Value.slice.injEq] at e
        obtain ⟨rfl, _, _⟩ := e
        obtain ⟨pb, off, e2, _⟩ := hp h
        cases e2
    obtain rfl : ms = [] := List.eq_nil_of_length_eq_zero hl0
    subst hm
    rw [h0 rfl] at hx
    refine wpList_append_own_none hgd s x 26 ho 0 38 i 7 Try.underlying26 hi v n (jcells l) hs hown hx ?_
    refine h v w (by simpa using hown) ⟨rfl, rfl, rfl, Nat.le_refl _, fun _ _ _ => rfl⟩ (.inl rfl)
  | some ad, hx, hr, _ =>
    refine wpList_append_own_at w hgd s x 26 ho 0 38 i (.agg #[.int .i64 0, .int .i64 0, .int .i64 0, .int .i64 0, .int .i64 0, .int .i64 0, .int .i64 0]) 7 56 Try.underlying26 hi hz0 hz1 hz2 rfl (by decide) v n (jcells l) hs hown ad m c (jcells ms) hx (by rw [jcells_length, hm]) (news_jobs hr) (jcells_onecell ms) (by unfold maxLen; omega) (by omega) (Nat.zero_le _) ?_
    intro v' w' h1 h2 _ h4
    exact h v' w' (by rw [jcells_append]; exact h1) h2 h4

/-- The row of '[]api.Job{}'. -/
theorem empty_jobs (w : World) : (w.alloc (.cells #[] 38)).ownsRow 0 38 7 (.slice (some ⟨w.heap.size, 0, none⟩) 0 0) 0 (jcells []) :=
  ⟨rfl, .inr ⟨w.heap.size, 0, #[], rfl, Nat.zero_le _, heap_alloc_new _ _, Nat.le_refl _, Nat.zero_le _, rfl, rfl⟩⟩

/-- What an append leaves as it was. -/
theorem grownJ {w w1 w2 : World} {v v' : Value} {B : Nat} (hgrow : w1.grownBy w2 v.ownBlock) (hat : v'.ownBlock = v.ownBlock ∨ v'.ownBlock = some w1.heap.size) (hB : Below B w w1) (hBw : B ≤ w.heap.size) (hv : ∀ k, v.ownBlock = some k → B ≤ k) :
    Below B w w2 ∧ ∀ k, v'.ownBlock = some k → B ≤ k := by
  have hs := hB.size
  refine ⟨hB.grown hgrow (by omega) hv, fun k hk => ?_⟩
  rcases hat with h | h
  · exact hv k (by rw [← h]; exact hk)
  · rw [hk] at h
    have e : k = w1.heap.size := by simpa using h
    omega

end Go.Proofs.Ytgcpkploeobafaa
