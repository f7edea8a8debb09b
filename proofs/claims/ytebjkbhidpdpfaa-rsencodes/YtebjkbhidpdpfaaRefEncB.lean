/- The contract of the document's own Encode of layer 5, whole. -/
import Derived.Test.YtebjkbhidpdpfaaRefEnc
import Derived.Test.YtebjkbhidpdpfaaRsLst
namespace Go.Proofs.Ytebjkbhidpdpfaa
open Go.RowKit
open Bt

set_option maxRecDepth 100000 in
set_option maxHeartbeats 1000000 in
theorem refEncode_any (k n s : Int) (ao : Option Addr) (cap : Nat) (text : List Nat) (ht : Byt text) (w : World) (hr : Reads w ao text) :
    Calls Try.prog 11 #[Cd k n s, .slice ao text.length cap] w fun e w' => ∃ v, e = .returned (.tuple #[v, .int .i64 (encE k n s text.length)]) ∧ Shs w.heap.size w' v (encA k n s text) ∧ Below w.heap.size w w' := by
  rcases hmay : mayC k n s with _ | _
  · have e1 : encE k n s text.length = 1 := by unfold encE; rw [hmay]; rfl
    have eA : encA k n s text = [] := by unfold encA; rw [e1, if_neg (by decide)]
    rw [e1, eA]
    have HM := Hid.intro (fun w => refMay_any k n s w)
    rw [hmay] at HM
    clear e1 eA hr ht
    go_enter Try.func11, Try.ntmps11
    go_wp2_with fail
    refine (HM.out _).mono ?_
    rintro e1 w1 ⟨rfl, B1⟩
    go_wp2
    go_ret2
    exact ⟨_, rfl, .inl ⟨rfl, _, _, rfl, fun _ => rfl⟩, ((Below.refl _ _).alloc (Nat.le_refl _) _).trans ((below_chg B1).below (by simp) (fun _ f => f.elim))⟩
  · obtain ⟨h1, h2, h3, h4, h5, h6⟩ := mayC_true hmay
    obtain ⟨K, rfl⟩ := Int.eq_ofNat_of_zero_le (show 0 ≤ k by omega)
    obtain ⟨N, rfl⟩ := Int.eq_ofNat_of_zero_le (show 0 ≤ n by omega)
    obtain ⟨S, rfl⟩ := Int.eq_ofNat_of_zero_le (show 0 ≤ s by omega)
    by_cases hl : text.length = K * S
    · have e0 : encE K N S text.length = 0 := by unfold encE; rw [if_pos hmay, hl, if_pos (by rw [Int.natCast_mul])]
      have eA : encA K N S text = encL K N S text := by unfold encA; rw [e0, if_pos rfl]; rfl
      rw [e0, eA]
      refine (refEncode_ok K N S hmay ao cap text ht hl w hr).mono ?_
      rintro e w' ⟨mb, mc, vs, rfl, hR, hb⟩
      obtain ⟨A, C, h, _⟩ := hR.shs
      exact ⟨_, rfl, .inr ⟨mb, 0, mc, A, C, by rw [encL_length], h⟩, hb⟩
    · have e4 : encE K N S text.length = 4 := by unfold encE; rw [if_pos hmay, if_neg (by rw [← Int.natCast_mul]; omega)]
      have eA : encA K N S text = [] := by unfold encA; rw [e4, if_neg (by decide)]
      rw [e4, eA]
      have HM := Hid.intro (fun w => refMay_any K N S w)
      rw [hmay] at HM
      have hKS : K * S ≤ 144 := by
        calc K * S ≤ 6 * S := Nat.mul_le_mul_right _ (by omega)
          _ ≤ 6 * 24 := Nat.mul_le_mul_left _ (by omega)
      have hw : IntKind.i64.wrap ((K : Int) * (S : Int)) = ((K * S : Nat) : Int) := by rw [← Int.natCast_mul]; exact IntWalk.i64_in _ (by omega)
      have nn : ((text.length : Int) != ((K * S : Nat) : Int)) = true := by rw [bne_iff_ne]; omega
      generalize K * S = Y at hw nn
      clear e4 eA hr ht
      go_enter Try.func11, Try.ntmps11
      go_wp2_with fail
      refine (HM.out _).mono ?_
      rintro e1 w1 ⟨rfl, B1⟩
      have b1 : w1.heap[w.heap.size]? = some (.cells #[.int .i64 (K : Int), .int .i64 (N : Int), .int .i64 (S : Int)] 23 (0, 0)) := by
        rw [B1.block _ (by simp)]; exact heap_alloc_new w _
      have c0 : w1.cell? ⟨w.heap.size, 0, none⟩ = some (.int .i64 (K : Int)) := by rw [cell_of_row w1 _ 0 _ _ _ b1]; rfl
      have c2 : w1.cell? ⟨w.heap.size, 2, none⟩ = some (.int .i64 (S : Int)) := by rw [cell_of_row w1 _ 2 _ _ _ b1]; rfl
      clear b1
      go_wp2
      go_ret2
      exact ⟨_, rfl, .inl ⟨rfl, _, _, rfl, fun _ => rfl⟩, ((Below.refl _ _).alloc (Nat.le_refl _) _).trans ((below_chg B1).below (by simp) (fun _ f => f.elim))⟩

end Go.Proofs.Ytebjkbhidpdpfaa
