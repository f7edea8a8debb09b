/- A job, and a list of jobs, among a law's arguments. -/
import Derived.Test.YtgcpkploeobafaaCellsArg
import Derived.Test.YtgcpkploeobafaaEdVal
import Derived.Lib.SmallJoins
namespace Go.Proofs.Ytgcpkploeobafaa
open Go.ChangeShapes Go.WideShapes Go.ChangeAt Go.RowKit Go.Joins Go.Deep
open Bt

/-- All its numbers are numbers of 64 bits. -/
def JWf (j : Jb) : Prop := (Lit.int .i64 j.bed).wf = true ∧ (Lit.int .i64 j.kind).wf = true ∧ (Lit.int .i64 j.tick).wf = true ∧ (Lit.int .i64 j.value).wf = true ∧ (Lit.int .i64 j.since).wf = true ∧ (Lit.int .i64 j.dl).wf = true ∧ (Lit.int .i64 j.left).wf = true

theorem num_rangeJ {p : Int} (h : (Lit.int .i64 p).wf = true) : -9223372036854775808 ≤ p ∧ p ≤ 9223372036854775807 := by
  simpa [Lit.wf, IntKind.min, IntKind.max, IntKind.signed, IntKind.bits] using h

set_option maxRecDepth 100000 in
theorem job_cells {H : Type} {enc : TypeId × Value → H} {w : World} {base n : Nat} {held : Bool} {cs : List Value} {y : DataW H × List MemPlace} (hl : cs.length = 7)
    (h : DataW.trod enc Try.prog w base (fun _ => true) held n 38 cs = some y) : ∃ j : Jb, cs = jcell j ∧ JWf j := by
  match cs, hl with
  | [v0, v1, v2, v3, v4, v5, v6], _ =>
    obtain ⟨xs, m, _, _, _, hlen, hg⟩ := DataW.trod_struct Try.underlying38 h
    have g0 := hg 0 _ rfl
    have g1 := hg 1 _ rfl
    have g2 := hg 2 _ rfl
    have g3 := hg 3 _ rfl
    have g4 := hg 4 _ rfl
    clear hg
    have z0 : Try.prog.cellsOf 36 = 3 := by kernel_rfl
    have z1 : Try.prog.cellsOf 3 = 1 := by kernel_rfl
    match xs, hlen with
    | [y0, y1, y2, y3, y4], _ =>
      simp [z0, z1] at g0 g1 g2 g3 g4
      obtain ⟨ys, m', _, _, _, hlen', hg'⟩ := DataW.trod_struct Try.underlying36 g1
      have e0 := hg' 0 _ rfl
      have e1 := hg' 1 _ rfl
      have e2 := hg' 2 _ rfl
      clear hg'
      match ys, hlen' with
      | [u0, u1, u2], _ =>
        simp [z1] at e0 e1 e2
        obtain ⟨x0, q0, _, f0⟩ := DataW.trod_int Try.underlying3 g0
        obtain ⟨x1, q1, _, f1⟩ := DataW.trod_int Try.underlying3 e0
        obtain ⟨x2, q2, _, f2⟩ := DataW.trod_int Try.underlying3 e1
        obtain ⟨x3, q3, _, f3⟩ := DataW.trod_int Try.underlying3 e2
        obtain ⟨x4, q4, _, f4⟩ := DataW.trod_int Try.underlying3 g2
        obtain ⟨x5, q5, _, f5⟩ := DataW.trod_int Try.underlying3 g3
        obtain ⟨x6, q6, _, f6⟩ := DataW.trod_int Try.underlying3 g4
        simp only [List.cons.injEq, and_true] at q0 q1 q2 q3 q4 q5 q6
        subst q0 q1 q2 q3 q4 q5 q6
        exact ⟨⟨x0, x1, x2, x3, x4, x5, x6⟩, rfl, f0, f1, f2, f3, f4, f5, f6⟩

set_option maxRecDepth 100000 in
theorem open_jobs {H : Type} {enc : TypeId × Value → H} {w : World} {base : Nat} {held : Bool} {a : Option Addr} {len cap : Nat} {d : DataW H} {p : List MemPlace}
    (h : DataW.Trod enc Try.prog w base (fun _ => true) held 26 (.slice a len cap) d p) :
    ∃ (l : List Jb), l.length = len ∧ JsAt (fun _ => True) w (.slice a len cap) l ∧ (∀ j ∈ l, JWf j) ∧ cap ≤ maxLen := by
  obtain ⟨fuel, hf⟩ := h
  obtain ⟨h1, h2, h3, h4⟩ := open_cells Try.underlying26 (C := 7) (by kernel_rfl) (by decide) hf
  by_cases h0 : 0 < len
  · obtain ⟨b, off, n, rfl, hc⟩ := h4 h0
    have each : ∀ i, i < len → ∃ q : Jb, JobAt w b (off + i * 7) q ∧ JWf q := fun i hi => by
      obtain ⟨cs, y, hl, hcell, ht⟩ := hc i hi
      obtain ⟨j, rfl, hw⟩ := job_cells hl ht
      have c : ∀ k, k < 7 → w.cell? ⟨b, off + i * 7 + k, none⟩ = (jcell j)[k]? := fun k hk => by rw [Nat.add_assoc]; exact hcell k hk
      exact ⟨j, ⟨c 0 (by omega), c 1 (by omega), c 2 (by omega), c 3 (by omega), c 4 (by omega), c 5 (by omega), c 6 (by omega)⟩, hw⟩
    haveI : Inhabited Jb := ⟨⟨0, 0, 0, 0, 0, 0, 0⟩⟩
    obtain ⟨q, hq⟩ := choose_lt each
    have hlen : ((List.range len).map q).length = len := by simp
    refine ⟨(List.range len).map q, hlen, ⟨some ⟨b, off, none⟩, cap, by rw [hlen], ⟨by rw [hlen]; exact h1, h3⟩, fun _ => ⟨b, off, rfl, trivial, fun i hi => ?_⟩⟩, fun x hx => ?_, h2⟩
    · have hi' : i < len := by simpa using hi
      simp only [List.getElem_map, List.getElem_range]
      exact (hq i hi').1
    · obtain ⟨i, hi, rfl⟩ := List.mem_map.1 hx
      exact (hq i (List.mem_range.1 hi)).2
  · obtain rfl : len = 0 := by omega
    exact ⟨[], rfl, ⟨a, cap, rfl, ⟨h1, h3⟩, fun hp => absurd hp (by simp)⟩, (fun x hx => by cases hx), h2⟩

theorem array7 {α : Type} {cs : Array α} (h : cs.size = 7) : cs.toList.length = 7 := by simpa using h

set_option maxRecDepth 100000 in
/-- A job that came in. -/
theorem open_job {H : Type} {enc : TypeId × Value → H} {w : World} {r : Reach} {b0 base : Nat} {held : Bool} {v : Value} {d : DataW H} {p : List MemPlace}
    (hv : Value.okWide Try.prog w r b0 38 v) (h : DataW.Trod enc Try.prog w base (fun _ => true) held 38 v d p) :
    ∃ (j : Jb), v = Jv j ∧ JWf j := by
  obtain ⟨cs, rfl, hsz⟩ := okWide_struct Try.underlying38 hv
  obtain ⟨fuel, hf⟩ := h
  have h7 : cs.size = 7 := hsz.trans (by kernel_rfl)
  obtain ⟨l⟩ := cs
  have e : (Value.agg ⟨l⟩).cells.toList = l := rfl
  obtain ⟨j, hj, hw⟩ := job_cells (cs := l) (by simpa using h7) (by first | exact hf | (rw [e] at hf; exact hf))
  exact ⟨j, by rw [hj]; rfl, hw⟩

end Go.Proofs.Ytgcpkploeobafaa
