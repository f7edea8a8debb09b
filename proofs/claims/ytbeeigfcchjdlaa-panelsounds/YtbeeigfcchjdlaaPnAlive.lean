/- The laws' own 'alive' of layer 16. -/
import Derived.Test.YtbeeigfcchjdlaaPnL
import Derived.Test.YtbeeigfcchjdlaaPnEq
import Derived.BigQuiet
namespace Go.Proofs.Ytbeeigfcchjdlaa
open Go.RowKit
open Pn

def pa1 : List Al := [⟨1, 2, 5, true, false⟩]
def pa2 : List Al := [⟨1, 2, 5, false, false⟩]

theorem pn1 : raiseB [] 1 2 = true ∧ raiseL [] 1 2 5 = pa1 := by decide
theorem pn2 : soundA pa1 0 5 = true := by decide
theorem pn3 : clearB pa1 1 2 = true ∧ clearL pa1 1 2 = pa2 := by decide
theorem pn4 : ackB pa2 1 2 = true ∧ ackL pa2 1 2 = [] := by decide
theorem pn5 : soundA [] 9 8 = false := by decide

set_option maxRecDepth 100000 in
set_option maxHeartbeats 2000000 in
theorem alive16_any (w : World) :
    Calls Try.prog 9 #[] w fun e w' => e = .returned (.bool true) ∧ Below w.heap.size w w' := by
  have se : ∀ W, (Op.equalIn 10000 42 (.agg #[.int .i64 1, .int .i64 2, .int .i64 5, .bool false, .bool false]) (.agg #[.int .i64 1, .int .i64 2, .int .i64 5, .bool false, .bool false])).run Try.prog W = .ok true W := fun W => by
    rw [al_eq]
    rfl
  go_enter Try.func9, Try.ntmps9
  go_wp2_with fail
  refine (pnew_any w).mono ?_
  rintro e w1 ⟨b, T, rfl, hS, hF, B1⟩
  have P1 := traise 1 2 5 (one_new (P := PK b [] 0) hS hF B1)
  rw [pn1.1, pn1.2] at P1
  have PH := Hid.intro P1
  clear hS hF B1 P1
  go_wp2_with fail
  refine PH.out.mono ?_
  rintro e w2 ⟨rfl, L2⟩
  have P2 := tsound 5 L2
  rw [pn2] at P2
  have P2H := Hid.intro P2
  clear PH P2 L2
  go_wp2_with fail
  refine P2H.out.mono ?_
  rintro e w3 ⟨rfl, L3⟩
  have P3H := Hid.intro (tsil 9 L3)
  clear P2H L3
  go_wp2_with fail
  refine P3H.out.mono ?_
  rintro e w4 ⟨rfl, L4⟩
  have P4 := tclear 1 2 L4
  rw [pn3.1, pn3.2] at P4
  have P4H := Hid.intro P4
  clear P3H P4 L4
  go_wp2_with fail
  refine P4H.out.mono ?_
  rintro e w5 ⟨rfl, L5⟩
  have P5H := Hid.intro (tlist L5)
  have O5 := Hid.intro L5
  clear P4H L5
  go_wp2_with fail
  refine P5H.out.mono ?_
  rintro e w6 ⟨ao, c, rfl, N6, L6⟩
  have O6 := Hid.intro (L6.out (Nat.le_refl _))
  have G6 := One.grow (pk_owned b pa2 9) O5.out N6.below
  have nn := N6.own
  obtain ⟨oa, oc, e6, z6⟩ := ownsRow_form nn
  obtain ⟨g, hg⟩ := z6.resolve_left (by decide)
  simp only [Value.slice.injEq] at e6
  obtain ⟨rfl, _, rfl⟩ := e6
  subst hg
  have k6 := al_at nn (t := 0) (by decide)
  have gl := (World.ownsRow.lt nn g rfl).2
  have ge := N6.ge g rfl
  have P6 := tack 1 2 G6
  rw [pn4.1, pn4.2] at P6
  have P6H := Hid.intro P6
  have K6 := Hid.intro k6
  have R6 : Hid (w5.heap.size ≤ g ∧ g < w6.heap.size) := ⟨ge, gl⟩
  clear P5H P6 O5 G6 N6 L6 nn k6 gl ge z6
  go_wp2_with fail
  refine P6H.out.mono ?_
  rintro e w7 ⟨rfl, L7⟩
  have P7 := tsound 8 L7
  rw [pn5] at P7
  have P7H := Hid.intro P7
  clear P6H P7 L7
  go_wp2_with fail
  refine P7H.out.mono ?_
  rintro e w8 ⟨rfl, L8⟩
  obtain ⟨d0, d1, d2, d3, d4⟩ := K6.out
  have q0 := L8.cell d0 (.inr R6.out)
  have q1 := L8.cell d1 (.inr R6.out)
  have q2 := L8.cell d2 (.inr R6.out)
  have q3 := L8.cell d3 (.inr R6.out)
  have q4 := L8.cell d4 (.inr R6.out)
  change w8.cell? ⟨g, 0, none⟩ = some (.int .i64 1) at q0
  change w8.cell? ⟨g, 1, none⟩ = some (.int .i64 2) at q1
  change w8.cell? ⟨g, 2, none⟩ = some (.int .i64 5) at q2
  change w8.cell? ⟨g, 3, none⟩ = some (.bool false) at q3
  change w8.cell? ⟨g, 4, none⟩ = some (.bool false) at q4
  have P8H := Hid.intro (tlist L8)
  clear P7H L8 d0 d1 d2 d3 d4
  have pl : pa2.length = 1 := rfl
  simp only [pl, List.length_nil] at P8H ⊢
  go_wp2_with fail
  refine P8H.out.mono ?_
  rintro e w9 ⟨ad, cd, rfl, _, L9⟩
  have P9 := tdrop 1 L9
  have e9 : (([] : List Al).length : Int) - ((dropA [] 1).length : Int) = 0 := by decide
  rw [e9, show dropA [] 1 = [] from rfl] at P9
  have P9H := Hid.intro P9
  clear P8H L9 P9 q0 q1 q2 q3 q4
  go_wp2_with fail
  refine P9H.out.mono ?_
  rintro e w10 ⟨rfl, L10⟩
  have FI := Hid.intro (L10.less (G := fun k => k < w.heap.size) (fun _ q => .inl q))
  clear L10
  go_wp2
  go_ret
  exact ⟨rfl, O6.out.trans ((FI.out.chg.below (B := w.heap.size) O6.out.size (fun k hk => by omega)))⟩

end Go.Proofs.Ytbeeigfcchjdlaa
