/- The document's own answer of layer 11: Sum, the work of 60 ticks. -/
import Derived.Test.YthofgajchejdfaaLdRefM
namespace Go.Proofs.Ythofgajchejdfaa
open Go.RowKit
open Bt

set_option maxRecDepth 100000 in
set_option maxHeartbeats 4000000 in
theorem refSum_any (R : Nat → Prop) (v : Value) (l : List Bdd) (hl : l.length ≤ 100) (w : World) (h : BdsAt R w v l) :
    Calls Try.prog 14 #[v] w fun e w' => e = .returned (.int .i64 (sumB l)) ∧ Below w.heap.size w w' := by
  obtain ⟨ao, c, rfl, hs⟩ := h
  have HS := Hid.intro hs
  clear hs
  obtain ⟨L, hL⟩ : ∃ L, L = l.length := ⟨_, rfl⟩
  have HL := Hid.intro hL
  obtain ⟨S, hS⟩ : ∃ S, S = sumB l := ⟨_, rfl⟩
  have HSU := Hid.intro hS
  rw [← hL] at hl ⊢
  rw [← hS]
  clear hL hS
  go_enter Try.func14, Try.ntmps14
  go_wp2_with fail
  go_loopw [3, 4] (fun nv iv ws => ∃ (k : Nat) (N : Nat), k ≤ L ∧ iv = .int .i64 k ∧ nv = .int .i64 N ∧ (N : Int) = sumB (l.take k) ∧ Below w.heap.size w ws) (fun _ iv _ => L - (intOf iv).toNat)
  case atStart => exact ⟨0, 0, by omega, rfl, rfl, by simp [sumB], Below.refl _ _⟩
  case round =>
    obtain ⟨k, N, hk, rfl, rfl, hN, hB⟩ := hrel
    have hNb : N ≤ 6000 * 100 := by
      have := (sumB_bounds (l.take k)).2
      have hle : (l.take k).length ≤ l.length := List.length_take_le' _ _
      rw [← HL.out] at hle
      omega
    have HN := Hid.intro hN
    have BH := Hid.intro hB
    clear hN
    by_cases hlt : k < L
    · have hlt' : k < l.length := by rw [← HL.out]; exact hlt
      have k0 : (0 : Int) ≤ (k : Int) := by omega
      have k1 : (k : Int) < (L : Int) := by omega
      obtain ⟨pb, off, rfl, _, hc⟩ := HS.out (by omega)
      obtain ⟨q0, q1, q2, q3, q4, q5⟩ := hc k hlt'
      have c0 := cellU hB q0
      have c1 := cellU hB q1
      have c2 := cellU hB q2
      have c3 := cellU hB q3
      have c4 := cellU hB q4
      have c5 := cellU hB q5
      have MY := refMay11_in l[k].bid l[k].tx l[k].period l[k].cost l[k].watch l[k].prio wr
      have ST := Hid.intro (sumB_take l hlt')
      have OF : Hid (mayB l[k] = true → ∃ (P Q C : Nat), l[k].period = (P : Int) ∧ l[k].cost = (C : Int) ∧ 1 ≤ P ∧ P ≤ 60 ∧ P * Q = 60 ∧ C ≤ 100 ∧ ofB l[k] = (C : Int) * (Q : Int) ∧ Q ≤ 60) := ofB_steps
      have ONE : Hid (mayB l[k] = false → ofB l[k] = 0) := fun q => by unfold ofB; rw [if_neg (by rw [q]; simp)]
      have EB : mayB ⟨l[k].bid, l[k].tx, l[k].period, l[k].cost, l[k].watch, l[k].prio⟩ = mayB l[k] := rfl
      rw [EB] at MY
      generalize ofB l[k] = o at ST OF ONE
      generalize mayB l[k] = my at MY OF ONE
      generalize l[k].bid = b0 at c0 MY
      generalize l[k].tx = b1 at c1 MY
      generalize l[k].period = b2 at c2 MY OF
      generalize l[k].cost = b3 at c3 MY OF
      generalize l[k].watch = b4 at c4 MY
      generalize l[k].prio = b5 at c5 MY
      have MYH := Hid.intro MY
      clear q0 q1 q2 q3 q4 q5 hc hB MY EB
      cases my with
      | false =>
        have ho := ONE.out rfl
        subst ho
        clear OF ONE
        go_wp2_with fail
        refine MYH.out.mono ?_
        rintro e w2 ⟨rfl, B2⟩
        have B2H := Hid.intro (BH.out.trans (B2.mono BH.out.size))
        clear MYH B2 c0 c1 c2 c3 c4 c5
        go_wp2
        go_roundw
        case rel => exact ⟨k + 1, N, by omega, by go_num, rfl, by rw [ST.out, ← HN.out]; omega, B2H.out⟩
        case measure => simp [intOf]; omega
      | true =>
        obtain ⟨P, Q, C, rfl, rfl, p1, p2, hPQ, hC, hoe, hQ⟩ := OF.out rfl
        have HO := Hid.intro hoe
        have HPQ := Hid.intro hPQ
        clear OF ONE hoe hPQ
        go_wp2_with fail
        refine MYH.out.mono ?_
        rintro e w2 ⟨rfl, B2⟩
        have d2 := cellU B2 c2
        have d3 := cellU B2 c3
        have B2H := Hid.intro (BH.out.trans (B2.mono BH.out.size))
        clear MYH B2 c0 c1 c2 c3 c4 c5
        go_wp2_with fail
        go_loop [3, 5] (fun nv tv => ∃ (q T X : Nat), q ≤ Q ∧ T = P * q ∧ X = N + C * q ∧ nv = .int .i64 X ∧ tv = .int .i64 T) (fun _ tv => 60 - (intOf tv).toNat)
        case atStart => exact ⟨0, 0, N, by omega, by simp, by simp, rfl, rfl⟩
        case round =>
          obtain ⟨q, T, X, hq, hT, hX, rfl, rfl⟩ := hrel
          have hTb : T ≤ 60 := by
            have := HPQ.out
            have h2 : P * q ≤ P * Q := Nat.mul_le_mul_left _ hq
            omega
          have hXb : X ≤ 600000 + 6000 := by
            have h2 : C * q ≤ 100 * 60 := Nat.mul_le_mul hC (by omega)
            omega
          by_cases hqq : q < Q
          · have hT60 : T < 60 := by
              have h2 : P * q < P * Q := (Nat.mul_lt_mul_left (by omega)).2 hqq
              have := HPQ.out
              omega
            have t1 : (T : Int) < 60 := by omega
            have NT : Hid (T + P = P * (q + 1) ∧ X + C = N + C * (q + 1)) := ⟨by rw [Nat.mul_add]; omega, by rw [Nat.mul_add]; omega⟩
            clear hT hX
            go_wp2
            go_round
            case rel => exact ⟨q + 1, T + P, X + C, by omega, NT.out.1, NT.out.2, by go_num, by go_num⟩
            case measure => simp [intOf]; omega
          · obtain rfl : q = Q := by omega
            have hT60 : T = 60 := by rw [hT]; exact HPQ.out
            subst hT60
            have FN : Hid ((X : Int) = sumB (l.take (k + 1))) := by
              rw [Hid, ST.out, ← HN.out, HO.out, hX]
              push_cast
              rfl
            clear hT hX
            go_wp2
            go_roundw
            case rel => exact ⟨k + 1, X, by omega, by go_num, rfl, FN.out, B2H.out⟩
            case measure => simp [intOf]; omega
    · obtain rfl : k = L := by omega
      have k1 : ¬ (k : Int) < (k : Int) := by omega
      have FN : Hid ((N : Int) = S) := by
        rw [Hid, HN.out, HSU.out, List.take_of_length_le (by rw [← HL.out]; exact Nat.le_refl _)]
      clear hB
      go_wp2
      go_ret
      exact ⟨by rw [← FN.out]; rfl, BH.out⟩

end Go.Proofs.Ythofgajchejdfaa
