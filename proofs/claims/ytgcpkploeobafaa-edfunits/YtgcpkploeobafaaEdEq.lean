/- Two jobs held against one another. -/
import Derived.Test.YtgcpkploeobafaaEdVal
import Derived.Laws.StructEq
namespace Go.Proofs.Ytgcpkploeobafaa
open Go.RowKit
open Bt

set_option maxRecDepth 100000 in
theorem smp_eqJ (n : Nat) (a0 a1 a2 b0 b1 b2 : Int) (w : World) :
    (Op.equalIn (n + 2) 36 (.agg #[.int .i64 a0, .int .i64 a1, .int .i64 a2]) (.agg #[.int .i64 b0, .int .i64 b1, .int .i64 b2])).run Try.prog w = .ok (a0 == b0 && (a1 == b1 && a2 == b2)) w := by
  have u := Try.underlying36
  rw [run_equalIn_agg (P := Try.prog) w (n + 1) 36 _ _ (by kernel_rfl) (by kernel_rfl)]
  simp only [Program.fieldsOf, u]
  have p : ∀ (x0 x1 x2 : Int), (part 3 #[.int .i64 x0, .int .i64 x1, .int .i64 x2] 0).run Try.prog w = .ok (.int .i64 x0) w ∧ (part 3 #[.int .i64 x0, .int .i64 x1, .int .i64 x2] 1).run Try.prog w = .ok (.int .i64 x1) w ∧ (part 3 #[.int .i64 x0, .int .i64 x1, .int .i64 x2] 2).run Try.prog w = .ok (.int .i64 x2) w := fun x0 x1 x2 => ⟨by kernel_rfl, by kernel_rfl, by kernel_rfl⟩
  have q : ∀ (x y : Int), (Op.equalIn (n + 1) 3 (.int .i64 x) (.int .i64 y)).run Try.prog w = .ok (x == y) w := fun x y => run_equalIn_int w n 3 .i64 .i64 x y Try.underlying3
  obtain ⟨pa0, pa1, pa2⟩ := p a0 a1 a2
  obtain ⟨pb0, pb1, pb2⟩ := p b0 b1 b2
  have n0 : ("Kind" ≠ "_") := by decide
  have n1 : ("At" ≠ "_") := by decide
  have n2 : ("Value" ≠ "_") := by decide
  simp only [Op.eqFields, if_pos n0, if_pos n1, if_pos n2, Sem.run_bind, pa0, pa1, pa2, pb0, pb1, pb2, Result.andThen_ok, q, Sem.run_ite, Sem.run_pure]
  generalize (a0 == b0) = e0
  generalize (a1 == b1) = e1
  generalize (a2 == b2) = e2
  cases e0 <;> cases e1 <;> cases e2 <;> rfl

set_option maxRecDepth 100000 in
theorem job_eq (a0 a1 a2 a3 a4 a5 a6 b0 b1 b2 b3 b4 b5 b6 : Int) (w : World) :
    (Op.equalIn 10000 38 (.agg #[.int .i64 a0, .int .i64 a1, .int .i64 a2, .int .i64 a3, .int .i64 a4, .int .i64 a5, .int .i64 a6]) (.agg #[.int .i64 b0, .int .i64 b1, .int .i64 b2, .int .i64 b3, .int .i64 b4, .int .i64 b5, .int .i64 b6])).run Try.prog w = .ok (a0 == b0 && ((a1 == b1 && (a2 == b2 && a3 == b3)) && (a4 == b4 && (a5 == b5 && a6 == b6)))) w := by
  have u := Try.underlying38
  rw [run_equalIn_agg (P := Try.prog) w 9999 38 _ _ (by kernel_rfl) (by kernel_rfl)]
  simp only [Program.fieldsOf, u]
  have p : ∀ (x0 x1 x2 x3 x4 x5 x6 : Int), (part 3 #[.int .i64 x0, .int .i64 x1, .int .i64 x2, .int .i64 x3, .int .i64 x4, .int .i64 x5, .int .i64 x6] 0).run Try.prog w = .ok (.int .i64 x0) w ∧ (part 36 #[.int .i64 x0, .int .i64 x1, .int .i64 x2, .int .i64 x3, .int .i64 x4, .int .i64 x5, .int .i64 x6] 1).run Try.prog w = .ok (.agg #[.int .i64 x1, .int .i64 x2, .int .i64 x3]) w ∧ (part 3 #[.int .i64 x0, .int .i64 x1, .int .i64 x2, .int .i64 x3, .int .i64 x4, .int .i64 x5, .int .i64 x6] 4).run Try.prog w = .ok (.int .i64 x4) w ∧ (part 3 #[.int .i64 x0, .int .i64 x1, .int .i64 x2, .int .i64 x3, .int .i64 x4, .int .i64 x5, .int .i64 x6] 5).run Try.prog w = .ok (.int .i64 x5) w ∧ (part 3 #[.int .i64 x0, .int .i64 x1, .int .i64 x2, .int .i64 x3, .int .i64 x4, .int .i64 x5, .int .i64 x6] 6).run Try.prog w = .ok (.int .i64 x6) w := fun x0 x1 x2 x3 x4 x5 x6 => ⟨by kernel_rfl, by kernel_rfl, by kernel_rfl, by kernel_rfl, by kernel_rfl⟩
  have q : ∀ (x y : Int), (Op.equalIn 9999 3 (.int .i64 x) (.int .i64 y)).run Try.prog w = .ok (x == y) w := fun x y => run_equalIn_int w 9998 3 .i64 .i64 x y Try.underlying3
  have qs := smp_eqJ 9997 a1 a2 a3 b1 b2 b3 w
  obtain ⟨pa0, pa1, pa4, pa5, pa6⟩ := p a0 a1 a2 a3 a4 a5 a6
  obtain ⟨pb0, pb1, pb4, pb5, pb6⟩ := p b0 b1 b2 b3 b4 b5 b6
  have n0 : ("Bed" ≠ "_") := by decide
  have n1 : ("Sample" ≠ "_") := by decide
  have n2 : ("Since" ≠ "_") := by decide
  have n3 : ("By" ≠ "_") := by decide
  have n4 : ("Left" ≠ "_") := by decide
  simp only [Op.eqFields, if_pos n0, if_pos n1, if_pos n2, if_pos n3, if_pos n4, Sem.run_bind, pa0, pa1, pa4, pa5, pa6, pb0, pb1, pb4, pb5, pb6, Result.andThen_ok, q, qs, Sem.run_ite, Sem.run_pure]
  generalize (a0 == b0) = e0
  generalize (a1 == b1 && (a2 == b2 && a3 == b3)) = e1
  generalize (a4 == b4) = e2
  generalize (a5 == b5) = e3
  generalize (a6 == b6) = e4
  cases e0 <;> cases e1 <;> cases e2 <;> cases e3 <;> cases e4 <;> rfl

theorem job_beq (s t : Jb) : (s.bed == t.bed && ((s.kind == t.kind && (s.tick == t.tick && s.value == t.value)) && (s.since == t.since && (s.dl == t.dl && s.left == t.left)))) = decide (s = t) := by
  obtain ⟨a, b, c, d, e, f, g⟩ := s
  obtain ⟨a', b', c', d', e', f', g'⟩ := t
  rw [Bool.eq_iff_iff]
  simp only [Bool.and_eq_true, beq_iff_eq, decide_eq_true_eq, Jb.mk.injEq]
  constructor
  · rintro ⟨h0, ⟨h1, h2, h3⟩, h4, h5, h6⟩
    exact ⟨h0, h1, h2, h3, h4, h5, h6⟩
  · rintro ⟨h0, h1, h2, h3, h4, h5, h6⟩
    exact ⟨h0, ⟨h1, h2, h3⟩, h4, h5, h6⟩

theorem take_extJ {l m : List Jb} {k : Nat} (h : l.take k = m.take k) (h1 : k < l.length) (h2 : k < m.length) (e : l[k] = m[k]) : l.take (k + 1) = m.take (k + 1) := by
  rw [List.take_add_one, List.take_add_one, h, List.getElem?_eq_getElem h1, List.getElem?_eq_getElem h2, e]

end Go.Proofs.Ytgcpkploeobafaa
