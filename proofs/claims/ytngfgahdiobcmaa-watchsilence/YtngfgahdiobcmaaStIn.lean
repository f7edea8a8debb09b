/- An append at a step of a region that draws, inside a round of a range over a function. -/
import Derived.Test.YtngfgahdiobcmaaRgTold
namespace Go.Proofs.Ytngfgahdiobcmaa
open Go.RowKit Go.Shelf

/-- An append at a step of a region that draws, inside a fence: by its run. -/
theorem stepIn_append {F : Fence} {m : Nat} {Pg : Program} {ops : Array Oper} {o : Oper} {a : Act} {w : World} {K : Act → World → Prop} {Q : Exit → Act → World → Prop} {E : Prop} (hgd : o.guard = none) (s y : Operand) (T : TypeId)
    (ho : o.op = .call { callee := .builtin .append, args := #[s, y], argTypes := #[T, T] }) (u z r : Value) (w' : World) (hs : a.eval s = u) (hy : a.eval y = z)
    (hrun : (Builtin.append_ #[T, T] o.type #[u, z]).run Pg w = .ok r w') (h : K (a.put o.dst r) w') : if Region.wanted o (yielded ops a.tmps) = true then Oper.wpIn F m Pg o a w K Q else E := by
  have hw : Region.wanted o (yielded ops a.tmps) = true := by simp [Region.wanted, hgd]
  rw [if_pos hw]
  unfold Oper.wpIn
  refine ⟨by simp [Oper.about, ho, resolve, Target.leads, Sem.run_pure], ?_⟩
  rw [Oper.semAt_plain F _ _ (by rw [ho]; intro c hc'; cases hc')]
  simp [execOp, ho, resolve, invoke, builtin, hs, hy, hrun, Result.andThen]
  exact h

end Go.Proofs.Ytngfgahdiobcmaa
