/- The document's own answer of layer 11: Find, Owner. -/
import Derived.Test.YthofgajchejdfaaLdVal
namespace Go.Proofs.Ythofgajchejdfaa
open Go.RowKit
open Bt

set_option maxRecDepth 100000 in
set_option maxHeartbeats 1000000 in
theorem refFind_any (R : Nat → Prop) (v : Value) (l : List Bdd) (hl : l.length ≤ 100) (x : Int) (w : World) (h : BdsAt R w v l) :
    Calls Try.prog 19 #[v, .int .i64 x] w fun e w' => e = .returned (.int .i64 (placeB (·.bid) l x)) ∧ Below w.heap.size w w' := by
  obtain ⟨ao, c, rfl, hs⟩ := h
  have HS := Hid.intro hs
  clear hs
  obtain ⟨L, hL⟩ : ∃ L, L = l.length := ⟨_, rfl⟩
  have HL := Hid.intro hL
  obtain ⟨P, hP⟩ : ∃ P, P = placeB (·.bid) l x := ⟨_, rfl⟩
  have HP := Hid.intro hP
  rw [← hL] at hl ⊢
  rw [← hP]
  clear hL hP
  go_enter Try.func19, Try.ntmps19
  go_wp2_with fail
  go_loopw [5] (fun i ws => ∃ t : Nat, t ≤ L ∧ i = .int .i64 t ∧ Below w.heap.size w ws ∧ ∀ j, (hj : j < l.length) → j < t → l[j].bid ≠ x) (fun i _ => L - (intOf i).toNat)
  case atStart => exact ⟨0, by omega, rfl, Below.refl _ w, fun j _ hj => absurd hj (Nat.not_lt_zero _)⟩
  case round =>
    obtain ⟨t, ht, rfl, hB, hno⟩ := hrel
    have HNO := Hid.intro hno
    have BH := Hid.intro hB
    clear hno
    by_cases hlt : t < L
    · have hlt' : t < l.length := by rw [← HL.out]; exact hlt
      obtain ⟨pb, off, rfl, _, hc⟩ := HS.out (by omega)
      obtain ⟨q0, q1, q2, q3, q4, q5⟩ := hc t hlt'
      have c1 := cell_chg (below_chg hB) q0 id
      have t1 : (t : Int) < (L : Int) := by omega
      have t0 : (0 : Int) ≤ (t : Int) := by omega
      have HIT := Hid.intro (fun (e : l[t].bid = x) => placeB_hit (f := (·.bid)) hlt' e (fun j hj => HNO.out j (by omega) hj))
      have NX : Hid (l[t].bid ≠ x → ∀ j, (hj : j < l.length) → j < t + 1 → l[j].bid ≠ x) := fun e j hj h => by
        by_cases q : j < t
        · exact HNO.out j hj q
        · obtain rfl : j = t := by omega
          exact e
      generalize l[t].bid = y at c1 HIT NX
      clear q0 q1 q2 q3 q4 q5 hc hB HNO hlt'
      by_cases e : y = x
      · have HPE : Hid (P = (t : Int)) := by rw [Hid, HP.out]; exact HIT.out e
        clear HIT NX
        go_wp2
        go_ret
        exact ⟨by rw [HPE.out]; rfl, BH.out⟩
      · have NXT := Hid.intro (NX.out e)
        clear HIT NX
        go_wp2
        go_roundw
        case rel => exact ⟨t + 1, by omega, by go_num, BH.out, NXT.out⟩
        case measure => simp [intOf]; omega
    · obtain rfl : t = L := by omega
      have k1 : ¬ (t : Int) < (t : Int) := by omega
      have HPE : Hid (P = -1) := by
        rw [Hid, HP.out]
        exact placeB_miss (fun j hj => HNO.out j hj (by rw [HL.out]; exact hj))
      clear HNO hB
      go_wp2
      go_ret
      exact ⟨by rw [HPE.out]; rfl, BH.out⟩

set_option maxRecDepth 100000 in
set_option maxHeartbeats 1000000 in
theorem refOwner_any (R : Nat → Prop) (v : Value) (l : List Bdd) (hl : l.length ≤ 100) (x : Int) (w : World) (h : BdsAt R w v l) :
    Calls Try.prog 21 #[v, .int .i64 x] w fun e w' => e = .returned (.int .i64 (placeB (·.tx) l x)) ∧ Below w.heap.size w w' := by
  obtain ⟨ao, c, rfl, hs⟩ := h
  have HS := Hid.intro hs
  clear hs
  obtain ⟨L, hL⟩ : ∃ L, L = l.length := ⟨_, rfl⟩
  have HL := Hid.intro hL
  obtain ⟨P, hP⟩ : ∃ P, P = placeB (·.tx) l x := ⟨_, rfl⟩
  have HP := Hid.intro hP
  rw [← hL] at hl ⊢
  rw [← hP]
  clear hL hP
  go_enter Try.func21, Try.ntmps21
  go_wp2_with fail
  go_loopw [5] (fun i ws => ∃ t : Nat, t ≤ L ∧ i = .int .i64 t ∧ Below w.heap.size w ws ∧ ∀ j, (hj : j < l.length) → j < t → l[j].tx ≠ x) (fun i _ => L - (intOf i).toNat)
  case atStart => exact ⟨0, by omega, rfl, Below.refl _ w, fun j _ hj => absurd hj (Nat.not_lt_zero _)⟩
  case round =>
    obtain ⟨t, ht, rfl, hB, hno⟩ := hrel
    have HNO := Hid.intro hno
    have BH := Hid.intro hB
    clear hno
    by_cases hlt : t < L
    · have hlt' : t < l.length := by rw [← HL.out]; exact hlt
      obtain ⟨pb, off, rfl, _, hc⟩ := HS.out (by omega)
      obtain ⟨q0, q1, q2, q3, q4, q5⟩ := hc t hlt'
      have c1 := cell_chg (below_chg hB) q1 id
      have t1 : (t : Int) < (L : Int) := by omega
      have t0 : (0 : Int) ≤ (t : Int) := by omega
      have HIT := Hid.intro (fun (e : l[t].tx = x) => placeB_hit (f := (·.tx)) hlt' e (fun j hj => HNO.out j (by omega) hj))
      have NX : Hid (l[t].tx ≠ x → ∀ j, (hj : j < l.length) → j < t + 1 → l[j].tx ≠ x) := fun e j hj h => by
        by_cases q : j < t
        · exact HNO.out j hj q
        · obtain rfl : j = t := by omega
          exact e
      generalize l[t].tx = y at c1 HIT NX
      clear q0 q1 q2 q3 q4 q5 hc hB HNO hlt'
      by_cases e : y = x
      · have HPE : Hid (P = (t : Int)) := by rw [Hid, HP.out]; exact HIT.out e
        clear HIT NX
        go_wp2
        go_ret
        exact ⟨by rw [HPE.out]; rfl, BH.out⟩
      · have NXT := Hid.intro (NX.out e)
        clear HIT NX
        go_wp2
        go_roundw
        case rel => exact ⟨t + 1, by omega, by go_num, BH.out, NXT.out⟩
        case measure => simp [intOf]; omega
    · obtain rfl : t = L := by omega
      have k1 : ¬ (t : Int) < (t : Int) := by omega
      have HPE : Hid (P = -1) := by
        rw [Hid, HP.out]
        exact placeB_miss (fun j hj => HNO.out j hj (by rw [HL.out]; exact hj))
      clear HNO hB
      go_wp2
      go_ret
      exact ⟨by rw [HPE.out]; rfl, BH.out⟩

end Go.Proofs.Ythofgajchejdfaa
