/- A number of 64 bits lies between. -/
import Derived.Test.YtngfgahdiobcmaaBase
namespace Go.Proofs.Ytngfgahdiobcmaa
open Go.RowKit
open Bt

theorem num_rangeS {p : Int} (h : (Lit.int .i64 p).wf = true) : -9223372036854775808 ≤ p ∧ p ≤ 9223372036854775807 := by
  simpa [Lit.wf, IntKind.min, IntKind.max, IntKind.signed, IntKind.bits] using h

theorem u8_natS {n : Int} (h : (Lit.int .u8 n).wf = true) : ∃ N : Nat, n = (N : Int) ∧ N < 256 := by
  have q : 0 ≤ n ∧ n ≤ 255 := by simpa [Lit.wf, IntKind.min, IntKind.max, IntKind.signed, IntKind.bits] using h
  exact ⟨n.toNat, by omega, by omega⟩

end Go.Proofs.Ytngfgahdiobcmaa
