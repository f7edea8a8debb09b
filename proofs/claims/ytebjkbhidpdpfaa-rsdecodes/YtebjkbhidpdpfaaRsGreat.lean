/- Layer 5's great: are shards more than are looked at? -/
import Derived.Test.YtebjkbhidpdpfaaRsLst
namespace Go.Proofs.Ytebjkbhidpdpfaa
open Go.RowKit
open Bt

/-- More rows than 20, or a row of more bytes than 50. -/
def greatL (L : List (List Nat)) : Bool := decide (20 < L.length) || L.any (fun r => decide (50 < r.length))

theorem greatL_false {L : List (List Nat)} (h : greatL L = false) : L.length ≤ 20 ∧ ∀ r, (L.getD r []).length ≤ 50 := by
  unfold greatL at h
  simp only [Bool.or_eq_false_iff, decide_eq_false_iff_not, List.any_eq_false, decide_eq_true_eq] at h
  refine ⟨by omega, fun r => ?_⟩
  by_cases hr : r < L.length
  · rw [← List.getElem_eq_getD (h := hr) []]
    have := h.2 _ (List.getElem_mem hr)
    omega
  · rw [List.getD_eq_getElem?_getD, List.getElem?_eq_none (by omega)]; exact Nat.zero_le _

theorem greatL_row {L : List (List Nat)} {t : Nat} (ht : t < L.length) (h : 50 < (L.getD t []).length) : greatL L = true := by
  unfold greatL
  rw [← List.getElem_eq_getD (h := ht) []] at h
  have : L.any (fun r => decide (50 < r.length)) = true := List.any_eq_true.2 ⟨_, List.getElem_mem ht, by simpa using h⟩
  rw [this, Bool.or_true]

theorem greatL_no {L : List (List Nat)} (hl : ¬ 20 < L.length) (h : ∀ r, r < L.length → (L.getD r []).length ≤ 50) : greatL L = false := by
  unfold greatL
  simp only [Bool.or_eq_false_iff, decide_eq_false_iff_not, List.any_eq_false, decide_eq_true_eq]
  refine ⟨hl, fun x hx => ?_⟩
  obtain ⟨j, hj, rfl⟩ := List.mem_iff_getElem.1 hx
  have := h j hj
  rw [← List.getElem_eq_getD (h := hj) []] at this
  omega

set_option maxRecDepth 100000 in
set_option maxHeartbeats 1000000 in
theorem great_any (a : Option Addr) (cap : Nat) (L : List (List Nat)) (w : World) (hr : ReadsL w a L) :
    Calls Try.prog 18 #[.slice a L.length cap] w fun e w' => e = .returned (.bool (greatL L)) ∧ Below w.heap.size w w' := by
  obtain ⟨R, hR⟩ : ∃ R, R = greatL L := ⟨_, rfl⟩
  rw [← hR]
  have HR := Hid.intro hr
  have HG := Hid.intro hR
  clear hr hR
  by_cases hl : 20 < L.length
  · obtain rfl : R = true := by rw [HG.out]; unfold greatL; simp [hl]
    have l1 : decide ((20 : Int) < (L.length : Int)) = true := by simp; omega
    go_enter Try.func18, Try.ntmps18
    go_wp2
    go_ret
    exact ⟨rfl, Below.refl _ _⟩
  · have l1 : decide ((20 : Int) < (L.length : Int)) = false := by simp; omega
    go_enter Try.func18, Try.ntmps18
    go_wp2_with fail
    go_loopw [3] (fun i wr => ∃ k : Nat, k ≤ L.length ∧ i = .int .i64 k ∧ (∀ r, r < k → (L.getD r []).length ≤ 50) ∧ Below w.heap.size w wr) (fun i _ => L.length - (intOf i).toNat)
    case atStart => exact ⟨0, by omega, rfl, fun r h => absurd h (by omega), Below.refl _ _⟩
    case round =>
      obtain ⟨k, hk, rfl, OK, BW⟩ := hrel
      have OKH := Hid.intro OK
      by_cases hlt : k < L.length
      · obtain ⟨ba, oa, ea, ra⟩ := HR.out (by omega)
        subst ea
        obtain ⟨xa, ya, h1, _, _⟩ := ra k hlt
        have c1 : wr.cell? ⟨ba, oa + k, none⟩ = some (.slice xa (L.getD k []).length ya) := (BW.cell (cell_lt h1)).trans h1
        have i0 : (0 : Int) ≤ (k : Int) := by omega
        have i1 : (k : Int) < (L.length : Int) := by omega
        obtain ⟨m, hm⟩ : ∃ m, m = (L.getD k []).length := ⟨_, rfl⟩
        rw [← hm] at c1
        have HMM := Hid.intro hm
        clear h1 ra hm OK
        by_cases h50 : 50 < m
        · obtain rfl : R = true := by rw [HG.out]; exact greatL_row hlt (by rw [← HMM.out]; exact h50)
          have j1 : decide ((50 : Int) < (m : Int)) = true := by simp; omega
          go_wp2
          go_ret
          exact ⟨rfl, BW⟩
        · have j1 : decide ((50 : Int) < (m : Int)) = false := by simp; omega
          go_wp2
          go_roundw
          case rel => exact ⟨k + 1, by omega, by go_num, fun r hr => by
            by_cases e : r = k
            · subst e; rw [← HMM.out]; omega
            · exact OKH.out r (by omega), BW⟩
          case measure => simp [intOf]; omega
      · obtain rfl : R = false := by rw [HG.out]; exact greatL_no hl (fun r hr => OK r (by omega))
        have k1 : ¬ (k : Int) < (L.length : Int) := by omega
        go_wp2
        go_ret
        exact ⟨rfl, BW⟩

end Go.Proofs.Ytebjkbhidpdpfaa
