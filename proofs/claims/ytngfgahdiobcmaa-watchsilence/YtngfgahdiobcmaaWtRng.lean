/- Numbers of few bits among a law's arguments. -/
import Derived.Test.YtngfgahdiobcmaaShRng
namespace Go.Proofs.Ytngfgahdiobcmaa
open Go.RowKit
open Bt

theorem u16_nat {n : Int} (h : (Lit.int .u16 n).wf = true) : ∃ N : Nat, n = (N : Int) ∧ N < 65536 := by
  have q : 0 ≤ n ∧ n ≤ 65535 := by simpa [Lit.wf, IntKind.min, IntKind.max, IntKind.signed, IntKind.bits] using h
  exact ⟨n.toNat, by omega, by omega⟩

end Go.Proofs.Ytngfgahdiobcmaa
