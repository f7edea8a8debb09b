/- Two samples held against one another. -/
import Derived.Test.YthbfdfkkacmbhabDoorRcVal
import Derived.Laws.StructEq
namespace Go.Proofs.YthbfdfkkacmbhabDoor
open Go.RowKit
open Bt

set_option maxRecDepth 100000 in
theorem smp_eq (a0 a1 a2 b0 b1 b2 : Int) (w : World) :
    (Op.equalIn 10000 23 (.agg #[.int .i64 a0, .int .i64 a1, .int .i64 a2]) (.agg #[.int .i64 b0, .int .i64 b1, .int .i64 b2])).run Tryd.prog w = .ok (a0 == b0 && (a1 == b1 && a2 == b2)) w := by
  have u := Tryd.underlying23
  rw [run_equalIn_agg (P := Tryd.prog) w 9999 23 _ _ (by kernel_rfl) (by kernel_rfl)]
  simp only [Program.fieldsOf, u]
  have p : ∀ (x0 x1 x2 : Int), (part 3 #[.int .i64 x0, .int .i64 x1, .int .i64 x2] 0).run Tryd.prog w = .ok (.int .i64 x0) w ∧ (part 3 #[.int .i64 x0, .int .i64 x1, .int .i64 x2] 1).run Tryd.prog w = .ok (.int .i64 x1) w ∧ (part 3 #[.int .i64 x0, .int .i64 x1, .int .i64 x2] 2).run Tryd.prog w = .ok (.int .i64 x2) w := fun x0 x1 x2 => ⟨by kernel_rfl, by kernel_rfl, by kernel_rfl⟩
  have q : ∀ (x y : Int), (Op.equalIn 9999 3 (.int .i64 x) (.int .i64 y)).run Tryd.prog w = .ok (x == y) w := fun x y => run_equalIn_int w 9998 3 .i64 .i64 x y Tryd.underlying3
  obtain ⟨pa0, pa1, pa2⟩ := p a0 a1 a2
  obtain ⟨pb0, pb1, pb2⟩ := p b0 b1 b2
  have n0 : ("Kind" ≠ "_") := by decide
  have n1 : ("At" ≠ "_") := by decide
  have n2 : ("Value" ≠ "_") := by decide
  simp only [Op.eqFields, if_pos n0, if_pos n1, if_pos n2, Sem.run_bind, pa0, pa1, pa2, pb0, pb1, pb2, Result.andThen_ok, q, Sem.run_ite, Sem.run_pure]
  generalize (a0 == b0) = e0
  generalize (a1 == b1) = e1
  generalize (a2 == b2) = e2
  cases e0 <;> cases e1 <;> cases e2 <;> rfl

theorem smp_beq (s t : Smp) : (s.kind == t.kind && (s.tick == t.tick && s.value == t.value)) = decide (s = t) := by
  obtain ⟨a, b, c⟩ := s
  obtain ⟨e, f, g⟩ := t
  rw [Bool.eq_iff_iff]
  simp only [Bool.and_eq_true, beq_iff_eq, decide_eq_true_eq, Smp.mk.injEq]

/-- The first so many are the same. -/
theorem take_extM {l m : List Smp} {k : Nat} (h : l.take k = m.take k) (h1 : k < l.length) (h2 : k < m.length) (e : l[k] = m[k]) : l.take (k + 1) = m.take (k + 1) := by
  rw [List.take_add_one, List.take_add_one, h, List.getElem?_eq_getElem h1, List.getElem?_eq_getElem h2, e]

end Go.Proofs.YthbfdfkkacmbhabDoor
