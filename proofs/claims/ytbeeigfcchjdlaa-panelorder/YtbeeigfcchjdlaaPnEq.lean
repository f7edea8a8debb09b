/- Two alarms held against one another. -/
import Derived.Test.YtbeeigfcchjdlaaPnVal
import Derived.Laws.StructEq
namespace Go.Proofs.Ytbeeigfcchjdlaa
open Go.RowKit
open Pn

set_option maxRecDepth 100000 in
theorem al_eq (a0 a1 a2 b0 b1 b2 : Int) (a3 a4 b3 b4 : Bool) (w : World) :
    (Op.equalIn 10000 42 (.agg #[.int .i64 a0, .int .i64 a1, .int .i64 a2, .bool a3, .bool a4]) (.agg #[.int .i64 b0, .int .i64 b1, .int .i64 b2, .bool b3, .bool b4])).run Try.prog w = .ok (a0 == b0 && (a1 == b1 && (a2 == b2 && (a3 == b3 && (a4 == b4))))) w := by
  have u := Try.underlying42
  rw [run_equalIn_agg (P := Try.prog) w 9999 42 _ _ (by kernel_rfl) (by kernel_rfl)]
  simp only [Program.fieldsOf, u]
  have p : ∀ (x0 x1 x2 : Int) (x3 x4 : Bool), (part 3 #[.int .i64 x0, .int .i64 x1, .int .i64 x2, .bool x3, .bool x4] 0).run Try.prog w = .ok (.int .i64 x0) w ∧ (part 3 #[.int .i64 x0, .int .i64 x1, .int .i64 x2, .bool x3, .bool x4] 1).run Try.prog w = .ok (.int .i64 x1) w ∧ (part 3 #[.int .i64 x0, .int .i64 x1, .int .i64 x2, .bool x3, .bool x4] 2).run Try.prog w = .ok (.int .i64 x2) w ∧ (part 4 #[.int .i64 x0, .int .i64 x1, .int .i64 x2, .bool x3, .bool x4] 3).run Try.prog w = .ok (.bool x3) w ∧ (part 4 #[.int .i64 x0, .int .i64 x1, .int .i64 x2, .bool x3, .bool x4] 4).run Try.prog w = .ok (.bool x4) w := fun x0 x1 x2 x3 x4 => ⟨by kernel_rfl, by kernel_rfl, by kernel_rfl, by kernel_rfl, by kernel_rfl⟩
  have q : ∀ (x y : Int), (Op.equalIn 9999 3 (.int .i64 x) (.int .i64 y)).run Try.prog w = .ok (x == y) w := fun x y => run_equalIn_int w 9998 3 .i64 .i64 x y Try.underlying3
  have qb : ∀ (x y : Bool), (Op.equalIn 9999 4 (.bool x) (.bool y)).run Try.prog w = .ok (x == y) w := fun x y => run_equalIn_bool w 9998 4 x y Try.underlying4
  obtain ⟨pa0, pa1, pa2, pa3, pa4⟩ := p a0 a1 a2 a3 a4
  obtain ⟨pb0, pb1, pb2, pb3, pb4⟩ := p b0 b1 b2 b3 b4
  have n0 : ("Bed" ≠ "_") := by decide
  have n1 : ("Kind" ≠ "_") := by decide
  have n2 : ("Since" ≠ "_") := by decide
  have n3 : ("On" ≠ "_") := by decide
  have n4 : ("Acked" ≠ "_") := by decide
  simp only [Op.eqFields, if_pos n0, if_pos n1, if_pos n2, if_pos n3, if_pos n4, Sem.run_bind, pa0, pa1, pa2, pa3, pa4, pb0, pb1, pb2, pb3, pb4, Result.andThen_ok, q, qb, Sem.run_ite, Sem.run_pure]
  generalize (a0 == b0) = e0
  generalize (a1 == b1) = e1
  generalize (a2 == b2) = e2
  generalize (a3 == b3) = e3
  generalize (a4 == b4) = e4
  cases e0 <;> cases e1 <;> cases e2 <;> cases e3 <;> cases e4 <;> rfl

theorem al_beq (s t : Al) : (s.bed == t.bed && (s.kind == t.kind && (s.since == t.since && (s.on == t.on && (s.acked == t.acked))))) = decide (s = t) := by
  obtain ⟨a, b, c, d, e⟩ := s
  obtain ⟨a', b', c', d', e'⟩ := t
  rw [Bool.eq_iff_iff]
  simp only [Bool.and_eq_true, beq_iff_eq, decide_eq_true_eq, Al.mk.injEq]

end Go.Proofs.Ytbeeigfcchjdlaa
