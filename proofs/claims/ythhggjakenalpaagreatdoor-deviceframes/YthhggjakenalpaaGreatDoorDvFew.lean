/- The laws' own 'few': may acts be looked at? -/
import Derived.Test.YthhggjakenalpaaGreatDoorDvArg
namespace Go.Proofs.YthhggjakenalpaaGreatDoor
set_option maxRecDepth 100000
open Go.RowKit
open Bt

def fewB18 (l : List Act18) : Prop := l.length ≤ 80 ∧ ∀ a ∈ l, a.bs.length ≤ 200

open Classical in
set_option maxRecDepth 100000 in
set_option maxHeartbeats 1000000 in
theorem few18_any (a : Option Addr) (cap : Nat) (l : List Act18) (w : World) (hr : ActsAt18 w a l) :
    Calls Tryz.prog 10 #[.slice a l.length cap] w fun e w' => e = .returned (.bool (decide (fewB18 l))) ∧ Below w.heap.size w w' := by
  by_cases h60 : l.length ≤ 80
  · have j0 : ¬ (80 : Int) < (l.length : Int) := by omega
    have HR := Hid.intro hr
    obtain ⟨n, hn⟩ : ∃ n, n = l.length := ⟨_, rfl⟩
    have HN := Hid.intro hn
    have HB : Hid (∀ b : Bool, (b = true ↔ ∀ a ∈ l, a.bs.length ≤ 200) → decide (fewB18 l) = b) := fun b hb => by
      by_cases q : ∀ a ∈ l, a.bs.length ≤ 200
      · rw [hb.2 q, decide_eq_true]; exact ⟨h60, q⟩
      · have : b = false := by
          cases b
          · rfl
          · exact absurd (hb.1 rfl) q
        rw [this, decide_eq_false]; exact fun h => q h.2
    rw [← hn] at j0 h60 ⊢
    generalize decide (fewB18 l) = R at HB ⊢
    clear hr hn
    go_enter Tryz.func10, Tryz.ntmps10
    go_wp2_with fail
    go_loopw [3] (fun i wr => ∃ t : Nat, t ≤ n ∧ i = .int .i64 t ∧ (∀ j, (hj : j < l.length) → j < t → l[j].bs.length ≤ 200) ∧ Below w.heap.size w wr) (fun i _ => n - (intOf i).toNat)
    case atStart => exact ⟨0, by omega, rfl, fun j _ hj => by omega, Below.refl _ _⟩
    case round =>
      obtain ⟨t, ht, rfl, hF, hB⟩ := hrel
      have HF := Hid.intro hF
      have HBW := Hid.intro hB
      by_cases hlt : t < n
      · have hlt' : t < l.length := by rw [← HN.out]; exact hlt
        have t0 : (0 : Int) ≤ (t : Int) := by omega
        have t1 : (t : Int) < (n : Int) := by omega
        obtain ⟨b, off, rfl, hc⟩ := HR.out (by omega)
        obtain ⟨v, x⟩ := hc t hlt'
        have NO : Hid (¬ l[t].bs.length ≤ 200 → R = false) := fun q => HB.out false ⟨(fun h => by cases h), fun h => absurd (h _ (List.getElem_mem hlt')) q⟩
        have YES : Hid (l[t].bs.length ≤ 200 → ∀ j, (hj : j < l.length) → j < t + 1 → l[j].bs.length ≤ 200) := fun q j hj hj2 => by
          by_cases e : j < t
          · exact HF.out j hj e
          · obtain rfl : j = t := by omega
            exact q
        generalize l[t] = A at x NO YES
        obtain ⟨_, _, _, _, x4, ao, ac, rfl, _⟩ := x
        have y4 := (hB.cell (cell_lt x4)).trans x4
        generalize A.bs.length = L at y4 NO YES
        clear x4 hF hB hc
        by_cases c3 : 200 < L
        · obtain rfl := NO.out (by omega)
          have c3' : (200 : Int) < (L : Int) := by omega
          go_wp2
          go_ret
          exact ⟨rfl, HBW.out⟩
        · have c3' : ¬ (200 : Int) < (L : Int) := by omega
          have Y2 := Hid.intro (YES.out (by omega))
          clear YES NO
          go_wp2
          go_roundw
          case rel => exact ⟨t + 1, by omega, by go_num, Y2.out, HBW.out⟩
          case measure => simp [intOf]; omega
      · have t1 : ¬ (t : Int) < (n : Int) := by omega
        have hR : R = true := HB.out true ⟨fun _ a ha => by
          obtain ⟨j, hj, rfl⟩ := List.getElem_of_mem ha
          exact HF.out j hj (by have := HN.out; omega), fun _ => rfl⟩
        subst hR
        clear hF hB
        go_wp2
        go_ret
        exact ⟨rfl, HBW.out⟩
  · have j0 : (80 : Int) < (l.length : Int) := by omega
    have e : decide (fewB18 l) = false := decide_eq_false (fun h => h60 h.1)
    rw [e]
    clear hr e
    generalize l.length = n at j0
    go_enter Tryz.func10, Tryz.ntmps10
    go_wp2
    go_ret
    exact ⟨rfl, Below.refl _ _⟩

end Go.Proofs.YthhggjakenalpaaGreatDoor
