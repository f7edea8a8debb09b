/- Methods of a pointer's type, called through an interface: which function, of which receiver. -/
import Derived.Test.YtgcpkploeobafaaBase
namespace Go.Proofs.Ytgcpkploeobafaa
open Go.RowKit

/-- A method of the value behind the pointer. -/
theorem meth_val {t elem : TypeId} {f : FuncId} {sig : TypeId} {name : String} (hu : Try.prog.underlying t = some (.pointer elem)) (e : (Try.prog.info? t).bind (fun i => i.methods.find? (·.name == name)) = some ⟨name, sig, #[], some (f, false)⟩) (fuel : Nat) (a : Addr) (v : Value) (W : World) (l : (loadVar elem a).run Try.prog W = .ok v W) :
    (method (fuel + 1) t (.pointer (some a)) name).run Try.prog W = .ok (f, v) W := by
  obtain ⟨i, hi⟩ : ∃ i, Try.prog.info? t = some i := by
    cases q : Try.prog.info? t with
    | none => rw [q] at e; cases e
    | some i => exact ⟨i, rfl⟩
  rw [hi] at e
  have e' : i.methods.find? (·.name == name) = some ⟨name, sig, #[], some (f, false)⟩ := e
  have n : ∀ (S : String) (W : World), (Builtin.ssaWrapNilChk_ #[t] t #[.pointer (some a), strVal "", strVal S]).run Try.prog W = .ok (.pointer (some a)) W := fun _ _ => rfl
  rw [method]
  simp [typeInfo, hi, e', follow, receiverAt, Place.get, asAddr, n, l, run_underlying hu]

/-- A method of the pointer itself. -/
theorem meth_ptr {t elem : TypeId} {f : FuncId} {sig : TypeId} {name : String} (hu : Try.prog.underlying t = some (.pointer elem)) (e : (Try.prog.info? t).bind (fun i => i.methods.find? (·.name == name)) = some ⟨name, sig, #[], some (f, true)⟩) (fuel : Nat) (a : Addr) (W : World) :
    (method (fuel + 1) t (.pointer (some a)) name).run Try.prog W = .ok (f, .pointer (some a)) W := by
  obtain ⟨i, hi⟩ : ∃ i, Try.prog.info? t = some i := by
    cases q : Try.prog.info? t with
    | none => rw [q] at e; cases e
    | some i => exact ⟨i, rfl⟩
  rw [hi] at e
  have e' : i.methods.find? (·.name == name) = some ⟨name, sig, #[], some (f, true)⟩ := e
  rw [method]
  simp [typeInfo, hi, e', follow, receiverAt, Place.get, run_underlying hu]

end Go.Proofs.Ytgcpkploeobafaa
