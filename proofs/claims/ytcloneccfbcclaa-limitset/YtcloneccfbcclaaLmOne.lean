/- A table of one limit. -/
import Derived.Test.YtcloneccfbcclaaLmAlive
import Derived.Test.YtcloneccfbcclaaLmArg
namespace Go.Proofs.Ytcloneccfbcclaa
open Go.RowKit
open Bt

theorem t1_set {l : Lm} (h : mayL l = true) : setE [] l = 0 ∧ setT [] l = [⟨l, 0⟩] := setT_new h rfl (by decide)

theorem t1_not {l : Lm} (h : mayL l = false) : setE [] l = 1 ∧ setT [] l = [] := setT_not h

theorem t1_on (l : Lm) (n : Nat) : onK [⟨l, n⟩] l.bed l.kind = decide (l.cnt ≤ (n : Int)) := by
  simp [onK, findK, isK, alarmK]

theorem t1_bey (l : Lm) (n : Nat) : beyK [⟨l, n⟩] l.bed l.kind = n := by
  simp [beyK, findK, isK]

theorem t1_see (l : Lm) (n : Nat) (v : Int) : seeT [⟨l, n⟩] l.bed l.kind v = [⟨l, if outK l v = true then n + 1 else 0⟩] := by
  simp [seeT, isK, stepK]

/-- One value more. -/
theorem t1_step {F : Nat → Prop} {w0 w : World} {b : Nat} {l : Lm} {n m : Nat} (v : Int) (ho : okO (l.bed, l.kind)) (h : One (TB b [⟨l, n⟩] m) F w0 w) {k : Nat} (hk : k = if outK l v = true then n + 1 else 0) (hm : m ≤ 1000000 := by omega) :
    Calls Try.prog 10 #[.pointer (some ⟨b, 0, none⟩), .int .i64 l.bed, .int .i64 l.kind, .int .i64 v] w fun e w' => e = .returned (.tuple #[.bool (decide (l.cnt ≤ (n : Int))), .bool (decide (l.cnt ≤ (k : Int)))]) ∧ One (TB b [⟨l, k⟩] (m + 1)) F w0 w' := by
  have q := tsee l.bed l.kind v ho h hm
  rw [t1_see, ← hk, t1_on, t1_on] at q
  exact q

theorem one_lm {P : (Nat → Prop) → World → Prop} {F : Nat → Prop} {w0 w : World} {g o : Nat} {l : Lm} (h : One P F w0 w) (hl : LmAt w0 g o l) (hF : F g) : LmAt w g o l := hl.chg h.chg (fun q => q hF)

end Go.Proofs.Ytcloneccfbcclaa
