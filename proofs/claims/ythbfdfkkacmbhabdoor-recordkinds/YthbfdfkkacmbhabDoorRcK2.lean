/- Package record: slices.IndexFunc and ContainsFunc of what is wrong; slices.Equal, Same. -/
import Derived.Test.YthbfdfkkacmbhabDoorRcK1
import Derived.Test.YthbfdfkkacmbhabDoorRcEq
namespace Go.Proofs.YthbfdfkkacmbhabDoor
open Go.RowKit
open Bt

/-- isWrong, as a value. -/
abbrev wrongF : Value := .func (.func 15) #[] #[]

/-- Where the first is that is wrong; -1: none is. -/
def wrongP (l : List Smp) : Int := match l.findIdx? (fun s => !rightM s) with
  | some i => (i : Int)
  | none => -1

theorem wrongP_hit {l : List Smp} {i : Nat} (hi : i < l.length) (h : rightM l[i] = false) (hn : ∀ j, (hj : j < i) → rightM (l[j]'(Nat.lt_trans hj hi)) = true) : wrongP l = (i : Int) := by
  have e : l.findIdx? (fun s => !rightM s) = some i := by
    rw [List.findIdx?_eq_some_iff_getElem]
    exact ⟨hi, by simp [h], fun j hj => by simp [hn j hj]⟩
  unfold wrongP
  rw [e]

theorem wrongP_miss {l : List Smp} (hn : ∀ j, (hj : j < l.length) → rightM l[j] = true) : wrongP l = -1 := by
  have e : l.findIdx? (fun s => !rightM s) = none := by
    rw [List.findIdx?_eq_none_iff]
    intro s hs
    obtain ⟨j, hj, rfl⟩ := List.getElem_of_mem hs
    simp [hn j hj]
  unfold wrongP
  rw [e]

theorem wrongP_all (l : List Smp) : decide (0 ≤ wrongP l) = !allR l := by
  unfold wrongP
  cases e : l.findIdx? (fun s => !rightM s) with
  | some i =>
    have h := List.findIdx?_eq_some_iff_getElem.1 e
    obtain ⟨hi, h1, _⟩ := h
    have : allR l = false := by
      unfold allR
      rw [List.all_eq_false]
      exact ⟨l[i], List.getElem_mem hi, by simpa using h1⟩
    rw [this]
    simp
  | none =>
    have h := List.findIdx?_eq_none_iff.1 e
    have : allR l = true := by
      unfold allR
      rw [List.all_eq_true]
      intro s hs
      simpa using h s hs
    rw [this]
    simp

set_option maxRecDepth 100000 in
set_option maxHeartbeats 1000000 in
theorem mindex_any (R : Nat → Prop) (ao : Option Addr) (c : Nat) (l : List Smp) (hl : l.length ≤ 1000) (w : World) (h : SmsAt R w (.slice ao l.length c) l) :
    Calls Tryd.prog 26 #[.slice ao l.length c, wrongF] w fun e w' => e = .returned (.int .i64 (wrongP l)) ∧ Below w.heap.size w w' := by
  obtain ⟨ao', c', e0, hs⟩ := h
  simp only [Value.slice.injEq] at e0
  obtain ⟨rfl, _, rfl⟩ := e0
  have HS := Hid.intro hs
  clear hs
  obtain ⟨L, hL⟩ : ∃ L, L = l.length := ⟨_, rfl⟩
  have HL := Hid.intro hL
  obtain ⟨P, hP⟩ : ∃ P, P = wrongP l := ⟨_, rfl⟩
  have HP := Hid.intro hP
  rw [← hL] at hl ⊢
  rw [← hP]
  clear hL hP
  go_enter Tryd.func26, Tryd.ntmps26
  go_wp2_with fail
  go_loopw [8] (fun i ws => ∃ t : Nat, t ≤ L ∧ i = .int .i64 t ∧ Below w.heap.size w ws ∧ ∀ j, (hj : j < l.length) → j < t → rightM l[j] = true) (fun i _ => L - (intOf i).toNat)
  case atStart => exact ⟨0, by omega, rfl, Below.refl _ w, fun j _ hj => absurd hj (Nat.not_lt_zero _)⟩
  case round =>
    obtain ⟨t, ht, rfl, hB, hno⟩ := hrel
    have HNO := Hid.intro hno
    have BH := Hid.intro hB
    clear hno
    by_cases hlt : t < L
    · have hlt' : t < l.length := by rw [← HL.out]; exact hlt
      obtain ⟨pb, off, rfl, _, hc⟩ := HS.out (by omega)
      obtain ⟨q0, q1, q2⟩ := hc t hlt'
      have c0 := cell_chg (below_chg hB) q0 id
      have c1 := cell_chg (below_chg hB) q1 id
      have c2 := cell_chg (below_chg hB) q2 id
      have CL := Hid.intro (isWrong_any l[t] wr)
      have HIT := Hid.intro (fun (e : rightM l[t] = false) => wrongP_hit hlt' e (fun j hj => HNO.out j (by omega) hj))
      have t1 : (t : Int) < (L : Int) := by omega
      have t0 : (0 : Int) ≤ (t : Int) := by omega
      have NX : Hid (rightM l[t] = true → ∀ j, (hj : j < l.length) → j < t + 1 → rightM l[j] = true) := fun e j hj h => by
        by_cases q : j < t
        · exact HNO.out j hj q
        · obtain rfl : j = t := by omega
          exact e
      generalize l[t] = s at CL HIT NX c0 c1 c2
      clear q0 q1 q2 hc hB HNO hlt'
      cases e : rightM s with
      | false =>
        rw [e] at CL
        have HPE : Hid (P = (t : Int)) := by rw [Hid, HP.out]; exact HIT.out e
        clear HIT e NX
        go_wp2_with fail
        refine CL.out.mono ?_
        rintro e w3 ⟨rfl, B3⟩
        have B3w := Hid.intro (BH.out.trans (B3.mono BH.out.size))
        clear CL B3 BH c0 c1 c2
        go_wp2
        go_ret
        exact ⟨by rw [HPE.out]; rfl, B3w.out⟩
      | true =>
        rw [e] at CL
        have NXT := Hid.intro (NX.out e)
        clear HIT e NX
        go_wp2_with fail
        refine CL.out.mono ?_
        rintro e w3 ⟨rfl, B3⟩
        have B3w := Hid.intro (BH.out.trans (B3.mono BH.out.size))
        clear CL B3 BH c0 c1 c2
        go_wp2
        go_roundw
        case rel => exact ⟨t + 1, by omega, by go_num, B3w.out, NXT.out⟩
        case measure => simp [intOf]; omega
    · obtain rfl : t = L := by omega
      have k1 : ¬ (t : Int) < (t : Int) := by omega
      have HPE : Hid (P = -1) := by
        rw [Hid, HP.out]
        exact wrongP_miss (fun j hj => HNO.out j hj (by rw [HL.out]; exact hj))
      clear HNO hB
      go_wp2
      go_ret
      exact ⟨by rw [HPE.out]; rfl, BH.out⟩

theorem mcontains_any (R : Nat → Prop) (ao : Option Addr) (c : Nat) (l : List Smp) (hl : l.length ≤ 1000) (w : World) (h : SmsAt R w (.slice ao l.length c) l) :
    Calls Tryd.prog 14 #[.slice ao l.length c, wrongF] w fun e w' => e = .returned (.bool (!allR l)) ∧ Below w.heap.size w w' := by
  have A := Hid.intro (mindex_any R ao c l hl w h)
  rw [← wrongP_all]
  obtain ⟨P, hP⟩ : ∃ P, P = wrongP l := ⟨_, rfl⟩
  rw [← hP] at A ⊢
  clear hP h
  generalize l.length = L at *
  go_enter Tryd.func14, Tryd.ntmps14
  go_wp2_with fail
  refine A.out.mono ?_
  rintro e w1 ⟨rfl, B1⟩
  clear A
  go_wp2
  go_ret
  exact ⟨rfl, B1⟩

set_option maxRecDepth 100000 in
set_option maxHeartbeats 1000000 in
theorem mequal_any (R R' : Nat → Prop) (u v : Value) (l m : List Smp) (hl : l.length ≤ 1000) (hm : m.length ≤ 1000) (w : World) (h1 : SmsAt R w u l) (h2 : SmsAt R' w v m) :
    Calls Tryd.prog 24 #[u, v] w fun e w' => e = .returned (.bool (decide (l = m))) ∧ Below w.heap.size w w' := by
  obtain ⟨ao, ca, rfl, c1⟩ := h1
  obtain ⟨bo, cb, rfl, c2⟩ := h2
  have C1 := Hid.intro c1
  have C2 := Hid.intro c2
  obtain ⟨rs, hrs⟩ : ∃ rs : Bool, rs = decide (l = m) := ⟨_, rfl⟩
  rw [← hrs]
  have HR := Hid.intro hrs
  have EQ := Hid.intro smp_eq
  clear c1 c2 hrs
  by_cases hlen : l.length = m.length
  · have hle : ((l.length : Int) != (m.length : Int)) = false := by simp; omega
    obtain ⟨L, hL⟩ : ∃ L, L = l.length := ⟨_, rfl⟩
    have HL := Hid.intro hL
    have HM : Hid (m.length = L) := by show m.length = L; omega
    rw [← hL] at hle hl ⊢
    rw [HM.out] at hle hm ⊢
    clear hlen hL
    go_enter Tryd.func24, Tryd.ntmps24
    go_wp2_with fail
    go_loopw [13] (fun i wr => ∃ (k q : Nat), k ≤ L ∧ i = .int .i64 k ∧ l.take k = m.take k ∧ wr = w.drewN q) (fun i _ => L - (intOf i).toNat)
    case atStart => exact ⟨0, 0, by omega, rfl, rfl, rfl⟩
    case round =>
      obtain ⟨k, q, hk, rfl, ht, hwr⟩ := hrel
      have HT := Hid.intro ht
      have HWR := Hid.intro hwr
      clear ht hwr
      by_cases hlt : k < L
      · have k0 : (0 : Int) ≤ (k : Int) := by omega
        have k1 : (k : Int) < (L : Int) := by omega
        have hk1 : k < l.length := by rw [← HL.out]; exact hlt
        have hk2 : k < m.length := by rw [HM.out]; exact hlt
        obtain ⟨pa, oa, rfl, _, d1⟩ := C1.out (by omega)
        obtain ⟨pb, ob, rfl, _, d2⟩ := C2.out (by omega)
        obtain ⟨a0, a1, a2⟩ := d1 k hk1
        obtain ⟨b0, b1, b2⟩ := d2 k hk2
        have x0 : wr.cell? ⟨pa, oa + k * 3, none⟩ = some (.int .i64 l[k].kind) := by rw [HWR.out]; exact a0
        have x1 : wr.cell? ⟨pa, oa + k * 3 + 1, none⟩ = some (.int .i64 l[k].tick) := by rw [HWR.out]; exact a1
        have x2 : wr.cell? ⟨pa, oa + k * 3 + 2, none⟩ = some (.int .i64 l[k].value) := by rw [HWR.out]; exact a2
        have y0 : wr.cell? ⟨pb, ob + k * 3, none⟩ = some (.int .i64 m[k].kind) := by rw [HWR.out]; exact b0
        have y1 : wr.cell? ⟨pb, ob + k * 3 + 1, none⟩ = some (.int .i64 m[k].tick) := by rw [HWR.out]; exact b1
        have y2 : wr.cell? ⟨pb, ob + k * 3 + 2, none⟩ = some (.int .i64 m[k].value) := by rw [HWR.out]; exact b2
        have se := fun (W : World) => EQ.out l[k].kind l[k].tick l[k].value m[k].kind m[k].tick m[k].value W
        rw [smp_beq] at se
        have TK := Hid.intro (fun (e : l[k] = m[k]) => take_extM HT.out hk1 hk2 e)
        have NE : Hid (l[k] ≠ m[k] → rs = false) := fun e => by
          rw [HR.out, decide_eq_false]
          intro q2
          subst q2
          exact e rfl
        have DD : Hid ((decide (l[k] = m[k]) = true → l[k] = m[k]) ∧ (decide (l[k] = m[k]) = false → l[k] ≠ m[k])) := ⟨of_decide_eq_true, of_decide_eq_false⟩
        clear d1 d2 a0 a1 a2 b0 b1 b2
        generalize hdd : decide (l[k] = m[k]) = dd at se DD
        generalize l[k].kind = t1 at x0 se
        generalize l[k].tick = t2 at x1 se
        generalize l[k].value = t3 at x2 se
        generalize m[k].kind = t5 at y0 se
        generalize m[k].tick = t6 at y1 se
        generalize m[k].value = t7 at y2 se
        clear hdd
        cases dd with
        | true =>
          go_wp2_with fail
          go_quiet (fail)
          go_wp2
          go_roundw
          case rel => exact ⟨k + 1, q + nq, by omega, by go_num, TK.out (DD.out.1 trivial), by rw [HWR.out]; simp [World.drewN, Nat.add_assoc]⟩
          case measure => simp [intOf]; omega
        | false =>
          have hrf := NE.out (DD.out.2 rfl)
          subst hrf
          go_wp2_with fail
          go_quiet (fail)
          go_wp2
          go_ret
          exact ⟨rfl, by rw [HWR.out]; exact below_drewN (below_drewN (Below.refl _ w) q) _⟩
      · obtain rfl : k = L := by omega
        have k1 : ¬ (k : Int) < (k : Int) := by omega
        have hrt : rs = true := by
          rw [HR.out, decide_eq_true]
          have := HT.out
          rw [List.take_of_length_le (by rw [← HL.out]; exact Nat.le_refl _), List.take_of_length_le (by rw [HM.out]; exact Nat.le_refl _)] at this
          exact this
        subst hrt
        go_wp2
        go_ret
        exact ⟨rfl, by rw [HWR.out]; exact below_drewN (Below.refl _ w) q⟩
  · have hle : ((l.length : Int) != (m.length : Int)) = true := by simp; omega
    have hrf : rs = false := by
      rw [HR.out, decide_eq_false]
      intro q2
      exact hlen (by rw [q2])
    subst hrf
    clear C1 C2 HR EQ hlen
    generalize l.length = L1 at *
    generalize m.length = L2 at *
    go_enter Tryd.func24, Tryd.ntmps24
    go_wp2
    go_ret
    exact ⟨rfl, Below.refl _ _⟩

theorem csame_any (R R' : Nat → Prop) (u v : Value) (l m : List Smp) (hl : l.length ≤ 1000) (hm : m.length ≤ 1000) (w : World) (h1 : SmsAt R w u l) (h2 : SmsAt R' w v m) :
    Calls Tryd.prog 10 #[u, v] w fun e w' => e = .returned (.bool (decide (l = m))) ∧ Below w.heap.size w w' := by
  have A := Hid.intro (mequal_any R R' u v l m hl hm w h1 h2)
  obtain ⟨ao, ca, rfl, z1⟩ := h1
  obtain ⟨bo, cb, rfl, z2⟩ := h2
  clear z1 z2
  generalize decide (l = m) = D at A ⊢
  generalize l.length = L at *
  generalize m.length = M at *
  go_enter Tryd.func10, Tryd.ntmps10
  go_wp2_with fail
  refine A.out.mono ?_
  rintro e w1 ⟨rfl, B1⟩
  clear A
  go_wp2
  go_ret
  exact ⟨rfl, B1⟩

end Go.Proofs.YthbfdfkkacmbhabDoor
