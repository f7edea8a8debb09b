/- The laws' own 'few' of layer 15. -/
import Derived.Test.YtngfgahdiobcmaaWtArg
import Derived.Test.YtngfgahdiobcmaaWtPure
import Derived.BigQuiet
namespace Go.Proofs.Ytngfgahdiobcmaa
open Go.RowKit
open Bt

def few15A (x : Act15) : Bool := decide (0 ≤ x.now) && decide (x.now ≤ 1099511627776)

def few15B (l : List Act15) : Bool := decide (l.length ≤ 100) && l.all few15A

theorem few15_true {l : List Act15} (h : few15B l = true) : l.length ≤ 100 ∧ ∀ x ∈ l, timeWb x.now := by
  simp only [few15B, Bool.and_eq_true, decide_eq_true_eq, List.all_eq_true] at h
  refine ⟨h.1, fun x hx => ?_⟩
  have := h.2 x hx
  simp only [few15A, Bool.and_eq_true, decide_eq_true_eq] at this
  exact this

set_option maxRecDepth 100000 in
set_option maxHeartbeats 1000000 in
theorem few15_any (a : Option Addr) (cap : Nat) (l : List Act15) (w : World) (hr : ActsAt15 w a l) :
    Calls Try.prog 10 #[.slice a l.length cap] w fun e w' => e = .returned (.bool (few15B l)) ∧ w = w' := by
  have HR := Hid.intro hr
  obtain ⟨fb, hfb⟩ : ∃ fb, fb = few15B l := ⟨_, rfl⟩
  have HF := Hid.intro hfb
  rw [← hfb]
  obtain ⟨n, hn⟩ : ∃ n, n = l.length := ⟨_, rfl⟩
  have HN := Hid.intro hn
  rw [← hn]
  clear hr hfb hn
  by_cases h90 : 100 < n
  · have e : fb = false := by rw [HF.out]; unfold few15B; rw [decide_eq_false (by have := HN.out; omega)]; rfl
    subst e
    have z : (100 : Int) < (n : Int) := by omega
    go_enter Try.func10, Try.ntmps10
    go_wp2
    go_ret
    exact ⟨rfl, rfl⟩
  · have z : ¬ (100 : Int) < (n : Int) := by omega
    go_enter Try.func10, Try.ntmps10
    go_wp2_with fail
    go_loop [3] (fun iv => ∃ t : Nat, t ≤ n ∧ iv = .int .i64 t ∧ ∀ j, (hj : j < l.length) → j < t → few15A l[j] = true) (fun iv => n - (intOf iv).toNat)
    case atStart => exact ⟨0, by omega, rfl, fun j _ hj => absurd hj (Nat.not_lt_zero _)⟩
    case round =>
      obtain ⟨t, ht, rfl, hA⟩ := hrel
      have HA := Hid.intro hA
      clear hA
      by_cases hlt : t < n
      · have hlt' : t < l.length := by rw [← HN.out]; exact hlt
        have t0 : (0 : Int) ≤ (t : Int) := by omega
        have t1 : (t : Int) < (n : Int) := by omega
        obtain ⟨b, off, rfl, hc⟩ := HR.out (by omega)
        obtain ⟨_, _, _, c3⟩ := hc t hlt'
        have NO : Hid (few15A l[t] = false → fb = false) := fun e => by
          rw [HF.out]
          unfold few15B
          have : l.all few15A = false := by rw [List.all_eq_false]; exact ⟨l[t], List.getElem_mem hlt', by rw [e]; simp⟩
          rw [this, Bool.and_false]
        have YES : Hid (few15A l[t] = true → ∀ j, (hj : j < l.length) → j < t + 1 → few15A l[j] = true) := fun e j hj h => by
          by_cases q : j < t
          · exact HA.out j hj q
          · obtain rfl : j = t := by omega
            exact e
        generalize l[t] = ac at *
        obtain ⟨x0, x1, x2, x3⟩ := ac
        simp only at c3
        clear hc HA
        by_cases k1 : x3 < 0
        · have e := NO.out (by unfold few15A; simp; omega)
          subst e
          clear NO YES
          go_wp2
          go_ret
          exact ⟨rfl, rfl⟩
        · by_cases k2 : 1099511627776 < x3
          · have e := NO.out (by unfold few15A; simp; omega)
            subst e
            clear NO YES
            go_wp2
            go_ret
            exact ⟨rfl, rfl⟩
          · have NX := Hid.intro (YES.out (by unfold few15A; simp; omega))
            clear NO YES
            go_wp2
            go_round
            case rel => exact ⟨t + 1, by omega, by go_num, NX.out⟩
            case measure => simp [intOf]; omega
      · obtain rfl : t = n := by omega
        have t1 : ¬ (t : Int) < (t : Int) := by omega
        have e : fb = true := by
          rw [HF.out]
          unfold few15B
          rw [decide_eq_true (by have := HN.out; omega), Bool.true_and, List.all_eq_true]
          intro x hx
          obtain ⟨j, hj, rfl⟩ := List.getElem_of_mem hx
          exact HA.out j hj (by have := HN.out; omega)
        subst e
        go_wp2
        go_ret
        exact ⟨rfl, rfl⟩

end Go.Proofs.Ytngfgahdiobcmaa
