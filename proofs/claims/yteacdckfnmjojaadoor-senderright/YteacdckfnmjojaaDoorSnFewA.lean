/- The laws' own 'few': may acts be looked at? -/
import Derived.Test.YteacdckfnmjojaaDoorSnArg
namespace Go.Proofs.YteacdckfnmjojaaDoor
open Go.RowKit
open Bt

def fewP (a : Act8) : Prop := -1000000 ≤ a.n ∧ a.n ≤ 1000000 ∧ a.bs.length ≤ 200 ∧ a.f.data.length ≤ 100

def fewB (l : List Act8) : Prop := l.length ≤ 60 ∧ ∀ a ∈ l, fewP a

theorem cellF {w w' : World} {a : Addr} {v : Value} (h : Below w.heap.size w w') (hc : w.cell? a = some v) : w'.cell? a = some v := (h.cell (cell_lt hc)).trans hc

open Classical in
set_option maxRecDepth 100000 in
set_option maxHeartbeats 1000000 in
theorem few_any (a : Option Addr) (cap : Nat) (l : List Act8) (w : World) (hr : ActsAt8 w a l) :
    Calls Tryd.prog 10 #[.slice a l.length cap] w fun e w' => e = .returned (.bool (decide (fewB l))) ∧ Below w.heap.size w w' := by
  by_cases h60 : l.length ≤ 60
  · have j0 : ¬ (60 : Int) < (l.length : Int) := by omega
    have HR := Hid.intro hr
    obtain ⟨n, hn⟩ : ∃ n, n = l.length := ⟨_, rfl⟩
    have HN := Hid.intro hn
    have HB : Hid (∀ b : Bool, (b = true ↔ ∀ a ∈ l, fewP a) → decide (fewB l) = b) := fun b hb => by
      by_cases q : ∀ a ∈ l, fewP a
      · rw [hb.2 q, decide_eq_true]; exact ⟨h60, q⟩
      · have : b = false := by
          cases b
          · rfl
          · exact absurd (hb.1 rfl) q
        rw [this, decide_eq_false]; exact fun h => q h.2
    rw [← hn] at j0 h60 ⊢
    generalize decide (fewB l) = R at HB ⊢
    clear hr hn
    go_enter Tryd.func10, Tryd.ntmps10
    go_wp2_with fail
    go_loopw [3] (fun i wr => ∃ t : Nat, t ≤ n ∧ i = .int .i64 t ∧ (∀ j, (hj : j < l.length) → j < t → fewP l[j]) ∧ Below w.heap.size w wr) (fun i _ => n - (intOf i).toNat)
    case atStart => exact ⟨0, by omega, rfl, fun j _ hj => by omega, Below.refl _ _⟩
    case round =>
      obtain ⟨t, ht, rfl, hF, hB⟩ := hrel
      have HF := Hid.intro hF
      have HBW := Hid.intro hB
      by_cases hlt : t < n
      · have hlt' : t < l.length := by rw [← HN.out]; exact hlt
        have t0 : (0 : Int) ≤ (t : Int) := by omega
        have t1 : (t : Int) < (n : Int) := by omega
        obtain ⟨b, off, rfl, hc⟩ := HR.out (by omega)
        obtain ⟨⟨aa, ac⟩, ⟨ca, cc⟩, x⟩ := hc t hlt'
        have NO : Hid (¬ fewP l[t] → R = false) := fun q => HB.out false ⟨(fun h => by cases h), fun h => absurd (h _ (List.getElem_mem hlt')) q⟩
        have YES : Hid (fewP l[t] → ∀ j, (hj : j < l.length) → j < t + 1 → fewP l[j]) := fun q j hj hj2 => by
          by_cases e : j < t
          · exact HF.out j hj e
          · obtain rfl : j = t := by omega
            exact q
        generalize l[t] = A at x NO YES
        obtain ⟨kd, nn, bs, ⟨tx, sq, an, rs, fk, ds⟩⟩ := A
        obtain ⟨x0, x1, x2, x3, x4, x5, x6, x7, x8, _⟩ := x
        dsimp only at x0 x1 x2 x3 x4 x5 x6 x7 x8
        have y1 := cellF hB x1
        have y2 := cellF hB x2
        have y8 := cellF hB x8
        have NOH : Hid (¬ (-1000000 ≤ nn ∧ nn ≤ 1000000 ∧ bs.length ≤ 200 ∧ ds.length ≤ 100) → R = false) := NO.out
        have YESH : Hid ((-1000000 ≤ nn ∧ nn ≤ 1000000 ∧ bs.length ≤ 200 ∧ ds.length ≤ 100) → ∀ j, (hj : j < l.length) → j < t + 1 → fewP l[j]) := YES.out
        generalize bs.length = L at y2 NOH YESH
        generalize ds.length = D at y8 NOH YESH
        clear x0 x1 x2 x3 x4 x5 x6 x7 x8 NO YES hF hB hc
        by_cases c1 : nn < -1000000
        · obtain rfl := NOH.out (by omega)
          go_wp2
          go_ret
          exact ⟨rfl, HBW.out⟩
        · by_cases c2 : 1000000 < nn
          · obtain rfl := NOH.out (by omega)
            go_wp2
            go_ret
            exact ⟨rfl, HBW.out⟩
          · by_cases c3 : 200 < L
            · obtain rfl := NOH.out (by omega)
              have c3' : (200 : Int) < (L : Int) := by omega
              go_wp2
              go_ret
              exact ⟨rfl, HBW.out⟩
            · have c3' : ¬ (200 : Int) < (L : Int) := by omega
              by_cases c4 : 100 < D
              · obtain rfl := NOH.out (by omega)
                have c4' : (100 : Int) < (D : Int) := by omega
                go_wp2
                go_ret
                exact ⟨rfl, HBW.out⟩
              · have c4' : ¬ (100 : Int) < (D : Int) := by omega
                have Y2 := Hid.intro (YESH.out (by omega))
                go_wp2
                go_roundw
                case rel => exact ⟨t + 1, by omega, by go_num, Y2.out, HBW.out⟩
                case measure => simp [intOf]; omega
      · have t1 : ¬ (t : Int) < (n : Int) := by omega
        have hR : R = true := HB.out true ⟨fun _ a ha => by
          obtain ⟨j, hj, rfl⟩ := List.getElem_of_mem ha
          exact HF.out j hj (by have := HN.out; omega), fun _ => rfl⟩
        subst hR
        clear hF hB
        go_wp2
        go_ret
        exact ⟨rfl, HBW.out⟩
  · have j0 : (60 : Int) < (l.length : Int) := by omega
    have e : decide (fewB l) = false := decide_eq_false (fun h => h60 h.1)
    rw [e]
    clear hr e
    generalize l.length = n at j0
    go_enter Tryd.func10, Tryd.ntmps10
    go_wp2
    go_ret
    exact ⟨rfl, Below.refl _ _⟩

end Go.Proofs.YteacdckfnmjojaaDoor
