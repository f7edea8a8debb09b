/- Two beds held against one another. -/
import Derived.Test.YthofgajchejdfaaLdVal
import Derived.Laws.StructEq
namespace Go.Proofs.Ythofgajchejdfaa
open Go.RowKit
open Bt

set_option maxRecDepth 100000 in
theorem bed_eq (a0 a1 a2 a3 a4 a5 b0 b1 b2 b3 b4 b5 : Int) (w : World) :
    (Op.equalIn 10000 27 (.agg #[.int .i64 a0, .int .i64 a1, .int .i64 a2, .int .i64 a3, .int .i64 a4, .int .i64 a5]) (.agg #[.int .i64 b0, .int .i64 b1, .int .i64 b2, .int .i64 b3, .int .i64 b4, .int .i64 b5])).run Try.prog w = .ok (a0 == b0 && (a1 == b1 && (a2 == b2 && (a3 == b3 && (a4 == b4 && a5 == b5))))) w := by
  have u := Try.underlying27
  rw [run_equalIn_agg (P := Try.prog) w 9999 27 _ _ (by kernel_rfl) (by kernel_rfl)]
  simp only [Program.fieldsOf, u]
  have p : ∀ (x0 x1 x2 x3 x4 x5 : Int), (part 3 #[.int .i64 x0, .int .i64 x1, .int .i64 x2, .int .i64 x3, .int .i64 x4, .int .i64 x5] 0).run Try.prog w = .ok (.int .i64 x0) w ∧ (part 3 #[.int .i64 x0, .int .i64 x1, .int .i64 x2, .int .i64 x3, .int .i64 x4, .int .i64 x5] 1).run Try.prog w = .ok (.int .i64 x1) w ∧ (part 3 #[.int .i64 x0, .int .i64 x1, .int .i64 x2, .int .i64 x3, .int .i64 x4, .int .i64 x5] 2).run Try.prog w = .ok (.int .i64 x2) w ∧ (part 3 #[.int .i64 x0, .int .i64 x1, .int .i64 x2, .int .i64 x3, .int .i64 x4, .int .i64 x5] 3).run Try.prog w = .ok (.int .i64 x3) w ∧ (part 3 #[.int .i64 x0, .int .i64 x1, .int .i64 x2, .int .i64 x3, .int .i64 x4, .int .i64 x5] 4).run Try.prog w = .ok (.int .i64 x4) w ∧ (part 3 #[.int .i64 x0, .int .i64 x1, .int .i64 x2, .int .i64 x3, .int .i64 x4, .int .i64 x5] 5).run Try.prog w = .ok (.int .i64 x5) w := fun x0 x1 x2 x3 x4 x5 => ⟨by kernel_rfl, by kernel_rfl, by kernel_rfl, by kernel_rfl, by kernel_rfl, by kernel_rfl⟩
  have q : ∀ (x y : Int), (Op.equalIn 9999 3 (.int .i64 x) (.int .i64 y)).run Try.prog w = .ok (x == y) w := fun x y => run_equalIn_int w 9998 3 .i64 .i64 x y Try.underlying3
  obtain ⟨pa0, pa1, pa2, pa3, pa4, pa5⟩ := p a0 a1 a2 a3 a4 a5
  obtain ⟨pb0, pb1, pb2, pb3, pb4, pb5⟩ := p b0 b1 b2 b3 b4 b5
  have n0 : ("Id" ≠ "_") := by decide
  have n1 : ("Tx" ≠ "_") := by decide
  have n2 : ("Period" ≠ "_") := by decide
  have n3 : ("Cost" ≠ "_") := by decide
  have n4 : ("Watch" ≠ "_") := by decide
  have n5 : ("Prio" ≠ "_") := by decide
  simp only [Op.eqFields, if_pos n0, if_pos n1, if_pos n2, if_pos n3, if_pos n4, if_pos n5, Sem.run_bind, pa0, pa1, pa2, pa3, pa4, pa5, pb0, pb1, pb2, pb3, pb4, pb5, Result.andThen_ok, q, Sem.run_ite, Sem.run_pure]
  generalize (a0 == b0) = e0
  generalize (a1 == b1) = e1
  generalize (a2 == b2) = e2
  generalize (a3 == b3) = e3
  generalize (a4 == b4) = e4
  generalize (a5 == b5) = e5
  cases e0 <;> cases e1 <;> cases e2 <;> cases e3 <;> cases e4 <;> cases e5 <;> rfl

theorem bed_beq (s t : Bdd) : (s.bid == t.bid && (s.tx == t.tx && (s.period == t.period && (s.cost == t.cost && (s.watch == t.watch && s.prio == t.prio))))) = decide (s = t) := by
  obtain ⟨a, b, c, d, e, f⟩ := s
  obtain ⟨a', b', c', d', e', f'⟩ := t
  rw [Bool.eq_iff_iff]
  simp only [Bool.and_eq_true, beq_iff_eq, decide_eq_true_eq, Bdd.mk.injEq]

/-- The first so many are the same. -/
theorem take_extB {l m : List Bdd} {k : Nat} (h : l.take k = m.take k) (h1 : k < l.length) (h2 : k < m.length) (e : l[k] = m[k]) : l.take (k + 1) = m.take (k + 1) := by
  rw [List.take_add_one, List.take_add_one, h, List.getElem?_eq_getElem h1, List.getElem?_eq_getElem h2, e]

end Go.Proofs.Ythofgajchejdfaa
