/- The laws' own 'few' of layer 9: may acts be looked at? -/
import Derived.Test.YtohedeeajcdjcaaDoorRoActs9
namespace Go.Proofs.YtohedeeajcdjcaaDoor
open Go.RowKit
open Bt

def few9P (a : Act9) : Prop := 0 ≤ a.s.last ∧ a.s.last ≤ 1099511627776

def few9B (l : List Act9) : Prop := l.length ≤ 80 ∧ ∀ a ∈ l, few9P a

theorem cell9 {w w' : World} {a : Addr} {v : Value} (h : Below w.heap.size w w') (hc : w.cell? a = some v) : w'.cell? a = some v := (h.cell (cell_lt hc)).trans hc

open Classical in
set_option maxRecDepth 100000 in
set_option maxHeartbeats 1000000 in
theorem few9_any (a : Option Addr) (cap : Nat) (l : List Act9) (w : World) (hr : ActsAt9 w a l) :
    Calls Tryd.prog 10 #[.slice a l.length cap] w fun e w' => e = .returned (.bool (decide (few9B l))) ∧ Below w.heap.size w w' := by
  by_cases h60 : l.length ≤ 80
  · have j0 : ¬ (80 : Int) < (l.length : Int) := by omega
    have HR := Hid.intro hr
    obtain ⟨n, hn⟩ : ∃ n, n = l.length := ⟨_, rfl⟩
    have HN := Hid.intro hn
    have HB : Hid (∀ b : Bool, (b = true ↔ ∀ a ∈ l, few9P a) → decide (few9B l) = b) := fun b hb => by
      by_cases q : ∀ a ∈ l, few9P a
      · rw [hb.2 q, decide_eq_true]; exact ⟨h60, q⟩
      · have : b = false := by
          cases b
          · rfl
          · exact absurd (hb.1 rfl) q
        rw [this, decide_eq_false]; exact fun h => q h.2
    rw [← hn] at j0 h60 ⊢
    generalize decide (few9B l) = R at HB ⊢
    clear hr hn
    go_enter Tryd.func10, Tryd.ntmps10
    go_wp2_with fail
    go_loopw [3] (fun i wr => ∃ t : Nat, t ≤ n ∧ i = .int .i64 t ∧ (∀ j, (hj : j < l.length) → j < t → few9P l[j]) ∧ Below w.heap.size w wr) (fun i _ => n - (intOf i).toNat)
    case atStart => exact ⟨0, by omega, rfl, fun j _ hj => by omega, Below.refl _ _⟩
    case round =>
      obtain ⟨t, ht, rfl, hF, hB⟩ := hrel
      have HF := Hid.intro hF
      have HBW := Hid.intro hB
      by_cases hlt : t < n
      · have hlt' : t < l.length := by rw [← HN.out]; exact hlt
        have t0 : (0 : Int) ≤ (t : Int) := by omega
        have t1 : (t : Int) < (n : Int) := by omega
        obtain ⟨b, off, rfl, hc⟩ := HR.out (by omega)
        have x := hc t hlt'
        have NO : Hid (¬ few9P l[t] → R = false) := fun q => HB.out false ⟨(fun h => by cases h), fun h => absurd (h _ (List.getElem_mem hlt')) q⟩
        have YES : Hid (few9P l[t] → ∀ j, (hj : j < l.length) → j < t + 1 → few9P l[j]) := fun q j hj hj2 => by
          by_cases e : j < t
          · exact HF.out j hj e
          · obtain rfl : j = t := by omega
            exact q
        generalize l[t] = A at x NO YES
        obtain ⟨kd, ⟨tx, an, rs, la⟩⟩ := A
        obtain ⟨x0, x1, x2, x3, x4⟩ := x
        dsimp only at x0 x1 x2 x3 x4
        have y4 := cell9 hB x4
        have NOH : Hid (¬ (0 ≤ la ∧ la ≤ 1099511627776) → R = false) := NO.out
        have YESH : Hid ((0 ≤ la ∧ la ≤ 1099511627776) → ∀ j, (hj : j < l.length) → j < t + 1 → few9P l[j]) := YES.out
        clear x0 x1 x2 x3 x4 NO YES hF hB hc
        by_cases c1 : la < 0
        · obtain rfl := NOH.out (by omega)
          go_wp2
          go_ret
          exact ⟨rfl, HBW.out⟩
        · by_cases c2 : 1099511627776 < la
          · obtain rfl := NOH.out (by omega)
            go_wp2
            go_ret
            exact ⟨rfl, HBW.out⟩
          · have Y2 := Hid.intro (YESH.out (by omega))
            go_wp2
            go_roundw
            case rel => exact ⟨t + 1, by omega, by go_num, Y2.out, HBW.out⟩
            case measure => simp [intOf]; omega
      · have t1 : ¬ (t : Int) < (n : Int) := by omega
        have hR : R = true := HB.out true ⟨fun _ a ha => by
          obtain ⟨j, hj, rfl⟩ := List.getElem_of_mem ha
          exact HF.out j hj (by have := HN.out; omega), fun _ => rfl⟩
        subst hR
        clear hF hB
        go_wp2
        go_ret
        exact ⟨rfl, HBW.out⟩
  · have j0 : (80 : Int) < (l.length : Int) := by omega
    have hR : decide (few9B l) = false := by rw [decide_eq_false]; exact fun h => h60 h.1
    rw [hR]
    generalize l.length = n at *
    clear hr hR h60
    go_enter Tryd.func10, Tryd.ntmps10
    go_wp2
    go_ret
    exact ⟨rfl, Below.refl _ _⟩

end Go.Proofs.YtohedeeajcdjcaaDoor
