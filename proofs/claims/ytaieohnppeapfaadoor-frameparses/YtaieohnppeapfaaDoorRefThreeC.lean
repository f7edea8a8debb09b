/- The document's own Parse and Heard of layer 3. -/
import Derived.Test.YtaieohnppeapfaaDoorRefThreeB
namespace Go.Proofs.YtaieohnppeapfaaDoor
open Go.RowKit
open Bt

theorem refParse_short (a : Option Addr) (cap : Nat) (bs : List Nat) (h : bs.length < 11) (w : World) :
    Calls Tryd.prog 18 #[.slice a bs.length cap] w fun e w' => e = .returned (.tuple #[Fr 0 0 0 0 0 none 0 0, .int .i64 2]) ∧ Below w.heap.size w w' := by
  have B2 := Hid.intro (fun o1 o2 => ((Below.refl _ w).alloc (Nat.le_refl _) o1).alloc (World.size_alloc w o1 ▸ Nat.le_succ _) o2)
  go_enter Tryd.func18, Tryd.ntmps18
  go_wp2
  (try simp only [Exit.inBlock, Exit.then])
  refine bodyPost_ret (results_row_tmp rfl _ _ w.heap.size 24 #[.int .i64 0, .int .i64 0, .int .i64 0, .int .i64 0, .int .i64 0, .slice none 0 0] (0, 0) _ rfl (heap_alloc2_old w _ _) Tryd.underlying24 rfl (by kernel_rfl)) rfl ?_
  exact ⟨rfl, B2.out _ _⟩

end Go.Proofs.YtaieohnppeapfaaDoor
