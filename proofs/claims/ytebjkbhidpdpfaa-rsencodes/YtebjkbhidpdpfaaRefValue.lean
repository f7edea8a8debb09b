/- The contract of the document's own Value of layer 5: what a polynomial is at a byte. -/
import Derived.Test.YtebjkbhidpdpfaaRefFourA
import Derived.Test.YtebjkbhidpdpfaaAppB
import Derived.Test.YtebjkbhidpdpfaaRsSolve
namespace Go.Proofs.Ytebjkbhidpdpfaa
open Go.RowKit
open Bt

/-- So far. -/
def vsum (l : List Nat) (x k : Nat) : Nat := fs k (fun i => gmul (l.getD i 0) (gpow x i))

theorem vsum_lt {l : List Nat} (hl : Byt l) (x k : Nat) : vsum l x k < 256 := fs_lt (fun i _ => gmul_lt (getD_byt hl i) _)

theorem vsum_all {l : List Nat} (hl : Byt l) {x : Nat} (hx : x < 256) : vsum l x l.length = pev l x := by
  have e : vsum l x l.length = fs l.length (fun i => gmul (gpow x i) (l.getD i 0)) :=
    fs_congr (fun i _ => gmul_comm (getD_byt hl i) (gpow_lt hx i))
  rw [e, fs_pev hx _ (getD_byt hl)]
  congr 1
  apply List.ext_getElem
  · simp
  · intro k h1 h2
    rw [List.getElem_map, List.getElem_range, ← List.getElem_eq_getD (h := h2) 0]

set_option maxRecDepth 100000 in
set_option maxHeartbeats 1000000 in
theorem refValue_any (ao : Option Addr) (cap : Nat) (l : List Nat) (hl : Byt l) (hn : l.length ≤ 300) (x : Nat) (hx : x < 256) (w : World) (hr : Reads w ao l) :
    Calls Try.prog 23 #[.slice ao l.length cap, .int .u8 (x : Int)] w fun e w' => e = .returned (.int .u8 ((pev l x : Nat) : Int)) ∧ ∃ q, w' = w.drewN q := by
  obtain ⟨R, hR⟩ : ∃ R, R = pev l x := ⟨_, rfl⟩
  rw [← hR]
  have HRR := Hid.intro hR
  have HR := Hid.intro hr
  have HL := Hid.intro hl
  clear hR hr hl
  go_enter Try.func23, Try.ntmps23
  go_wp2_with fail
  go_loopw [5, 6] (fun p i wr => ∃ k : Nat, k ≤ l.length ∧ i = .int .i64 k ∧ p = .int .u8 ((vsum l x k : Nat) : Int) ∧ ∃ q, wr = w.drewN q) (fun _ i _ => l.length - (intOf i).toNat)
  case atStart => exact ⟨0, by omega, rfl, rfl, 0, rfl⟩
  case round =>
    obtain ⟨k, hk, rfl, rfl, q, rfl⟩ := hrel
    have hv := vsum_lt HL.out x k
    by_cases hlt : k < l.length
    · obtain ⟨bb, off, e, hc⟩ := reads_at HR.out (by omega)
      subst e
      have c1 : w.cell? ⟨bb, off + k, none⟩ = some (U (l.getD k 0)) := by
        rw [← List.getElem_eq_getD (h := hlt) 0]; exact hc k hlt
      have hb := getD_byt HL.out k
      have hs : vsum l x (k + 1) = vsum l x k ^^^ gmul (l.getD k 0) (gpow x k) := rfl
      have hp := gpow_lt hx k
      have HP := Hid.intro (fun w => (refPow_nat x k hx (by omega) w).mono (fun _ _ h => ⟨h.1, h.2.symm⟩ : ∀ e w', _ → e = Ending.returned (.int .u8 ((gpow x k : Nat) : Int)) ∧ w' = w))
      generalize gpow x k = P at hs hp HP
      generalize l.getD k 0 = b at c1 hb hs
      have HM := Hid.intro (fun w => (refMul_any b P hb hp w).mono (fun _ _ h => ⟨h.1, h.2.symm⟩ : ∀ e w', _ → e = Ending.returned (.int .u8 ((gmul b P : Nat) : Int)) ∧ w' = w))
      have hm := gmul_lt hb P
      generalize gmul b P = G at HM hm hs
      have hx8 := u8_xor_nat _ G hv hm
      rw [← hs] at hx8
      obtain ⟨V1, hV1⟩ : ∃ V1, V1 = vsum l x (k + 1) := ⟨_, rfl⟩
      rw [← hV1] at hx8
      have HV1 := Hid.intro hV1
      generalize vsum l x k = V at hv hx8 ⊢
      have i0 : (0 : Int) ≤ (k : Int) := by omega
      have i1 : (k : Int) < (l.length : Int) := by omega
      clear hs hV1 hc
      go_wp2_with fail
      refine wp_region_still_tail 10 (by kernel_rfl) (by kernel_rfl) ?_
      simp only [List.take_succ_cons, List.take_zero, List.drop_succ_cons, List.drop_zero]
      change wpStill _ _ (w.drewN q).drew _ _ _
      iterate 7 still_step
      still_call (HP.out _)
      still_call (HM.out _)
      still_step
      refine wpStill_nil ?_
      go_wp2
      go_roundw
      case rel => exact ⟨k + 1, by omega, by go_num, by rw [← HV1.out], q + 1, rfl⟩
      case measure => simp [intOf]; omega
    · have hke : k = l.length := by omega
      subst hke
      have e := vsum_all HL.out hx
      rw [← HRR.out] at e
      rw [e]
      clear HRR hv e
      go_wp2
      go_ret
      exact ⟨rfl, q, rfl⟩

end Go.Proofs.Ytebjkbhidpdpfaa
