/- The document's own answer of layer 10: the same lists. -/
import Derived.Test.YthhggjakenalpaaGreatDoorMRc
namespace Go.Proofs.YthhggjakenalpaaGreatDoor
set_option maxRecDepth 100000
open Go.RowKit
open Bt

set_option maxRecDepth 100000 in
set_option maxHeartbeats 1000000 in
theorem refSame10_any (R R' : Nat → Prop) (u v : Value) (l m : List Smp) (hl : l.length ≤ 1000) (hm : m.length ≤ 1000) (w : World) (h1 : SmsAt R w u l) (h2 : SmsAt R' w v m) :
    Calls Tryz.prog 35 #[u, v] w fun e w' => e = .returned (.bool (decide (l = m))) ∧ Below w.heap.size w w' := by
  obtain ⟨ao, ca, rfl, c1⟩ := h1
  obtain ⟨bo, cb, rfl, c2⟩ := h2
  have C1 := Hid.intro c1
  have C2 := Hid.intro c2
  obtain ⟨rs, hrs⟩ : ∃ rs : Bool, rs = decide (l = m) := ⟨_, rfl⟩
  rw [← hrs]
  have HR := Hid.intro hrs
  have EQ := Hid.intro smp_eq
  clear c1 c2 hrs
  by_cases hlen : l.length = m.length
  · have hle : ((l.length : Int) != (m.length : Int)) = false := by simp; omega
    obtain ⟨L, hL⟩ : ∃ L, L = l.length := ⟨_, rfl⟩
    have HL := Hid.intro hL
    have HM : Hid (m.length = L) := by show m.length = L; omega
    rw [← hL] at hle hl ⊢
    rw [HM.out] at hle hm ⊢
    clear hlen hL
    go_enter Tryz.func35, Tryz.ntmps35
    go_wp2_with fail
    go_loopw [5] (fun i wr => ∃ (k q : Nat), k ≤ L ∧ i = .int .i64 k ∧ l.take k = m.take k ∧ wr = w.drewN q) (fun i _ => L - (intOf i).toNat)
    case atStart => exact ⟨0, 0, by omega, rfl, rfl, rfl⟩
    case round =>
      obtain ⟨k, q, hk, rfl, ht, hwr⟩ := hrel
      have HT := Hid.intro ht
      have HWR := Hid.intro hwr
      clear ht hwr
      by_cases hlt : k < L
      · have k0 : (0 : Int) ≤ (k : Int) := by omega
        have k1 : (k : Int) < (L : Int) := by omega
        have hk1 : k < l.length := by rw [← HL.out]; exact hlt
        have hk2 : k < m.length := by rw [HM.out]; exact hlt
        obtain ⟨pa, oa, rfl, _, d1⟩ := C1.out (by omega)
        obtain ⟨pb, ob, rfl, _, d2⟩ := C2.out (by omega)
        obtain ⟨a0, a1, a2⟩ := d1 k hk1
        obtain ⟨b0, b1, b2⟩ := d2 k hk2
        have x0 : wr.cell? ⟨pa, oa + k * 3, none⟩ = some (.int .i64 l[k].kind) := by rw [HWR.out]; exact a0
        have x1 : wr.cell? ⟨pa, oa + k * 3 + 1, none⟩ = some (.int .i64 l[k].tick) := by rw [HWR.out]; exact a1
        have x2 : wr.cell? ⟨pa, oa + k * 3 + 2, none⟩ = some (.int .i64 l[k].value) := by rw [HWR.out]; exact a2
        have y0 : wr.cell? ⟨pb, ob + k * 3, none⟩ = some (.int .i64 m[k].kind) := by rw [HWR.out]; exact b0
        have y1 : wr.cell? ⟨pb, ob + k * 3 + 1, none⟩ = some (.int .i64 m[k].tick) := by rw [HWR.out]; exact b1
        have y2 : wr.cell? ⟨pb, ob + k * 3 + 2, none⟩ = some (.int .i64 m[k].value) := by rw [HWR.out]; exact b2
        have se := fun (W : World) => EQ.out l[k].kind l[k].tick l[k].value m[k].kind m[k].tick m[k].value W
        rw [smp_beq] at se
        have TK := Hid.intro (fun (e : l[k] = m[k]) => take_extM HT.out hk1 hk2 e)
        have NE : Hid (l[k] ≠ m[k] → rs = false) := fun e => by
          rw [HR.out, decide_eq_false]
          intro q2
          subst q2
          exact e rfl
        have DD : Hid ((decide (l[k] = m[k]) = true → l[k] = m[k]) ∧ (decide (l[k] = m[k]) = false → l[k] ≠ m[k])) := ⟨of_decide_eq_true, of_decide_eq_false⟩
        clear d1 d2 a0 a1 a2 b0 b1 b2
        generalize hdd : decide (l[k] = m[k]) = dd at se DD
        generalize l[k].kind = t1 at x0 se
        generalize l[k].tick = t2 at x1 se
        generalize l[k].value = t3 at x2 se
        generalize m[k].kind = t5 at y0 se
        generalize m[k].tick = t6 at y1 se
        generalize m[k].value = t7 at y2 se
        clear hdd
        cases dd with
        | true =>
          go_wp2_with fail
          go_quiet (fail)
          go_wp2
          go_roundw
          case rel => exact ⟨k + 1, q + nq, by omega, by go_num, TK.out (DD.out.1 trivial), by rw [HWR.out]; simp [World.drewN, Nat.add_assoc]⟩
          case measure => simp [intOf]; omega
        | false =>
          have hrf := NE.out (DD.out.2 rfl)
          subst hrf
          go_wp2_with fail
          go_quiet (fail)
          go_wp2
          go_ret
          exact ⟨rfl, by rw [HWR.out]; exact below_drewN (below_drewN (Below.refl _ w) q) _⟩
      · obtain rfl : k = L := by omega
        have k1 : ¬ (k : Int) < (k : Int) := by omega
        have hrt : rs = true := by
          rw [HR.out, decide_eq_true]
          have := HT.out
          rw [List.take_of_length_le (by rw [← HL.out]; exact Nat.le_refl _), List.take_of_length_le (by rw [HM.out]; exact Nat.le_refl _)] at this
          exact this
        subst hrt
        go_wp2
        go_ret
        exact ⟨rfl, by rw [HWR.out]; exact below_drewN (Below.refl _ w) q⟩
  · have hle : ((l.length : Int) != (m.length : Int)) = true := by simp; omega
    have hrf : rs = false := by
      rw [HR.out, decide_eq_false]
      intro q2
      exact hlen (by rw [q2])
    subst hrf
    clear C1 C2 HR EQ hlen
    generalize l.length = L1 at *
    generalize m.length = L2 at *
    go_enter Tryz.func35, Tryz.ntmps35
    go_wp2
    go_ret
    exact ⟨rfl, Below.refl _ _⟩

end Go.Proofs.YthhggjakenalpaaGreatDoor
