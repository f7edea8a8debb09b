/- The document's own answer of layer 14: the same lists. -/
import Derived.Test.YtcloneccfbcclaaLmEq
namespace Go.Proofs.Ytcloneccfbcclaa
open Go.RowKit
open Bt

set_option maxRecDepth 100000 in
set_option maxHeartbeats 1000000 in
theorem refSame14_any (R R' : Nat → Prop) (u v : Value) (l m : List Lm) (hl : l.length ≤ 1000) (hm : m.length ≤ 1000) (w : World) (h1 : LmsAt R w u l) (h2 : LmsAt R' w v m) :
    Calls Try.prog 22 #[u, v] w fun e w' => e = .returned (.bool (decide (l = m))) ∧ Below w.heap.size w w' := by
  obtain ⟨ao, ca, rfl, _, c1⟩ := h1
  obtain ⟨bo, cb, rfl, _, c2⟩ := h2
  have C1 := Hid.intro c1
  have C2 := Hid.intro c2
  obtain ⟨rs, hrs⟩ : ∃ rs : Bool, rs = decide (l = m) := ⟨_, rfl⟩
  rw [← hrs]
  have HR := Hid.intro hrs
  have EQ := Hid.intro lim_eq
  clear c1 c2 hrs
  by_cases hlen : l.length = m.length
  · have hle : ((l.length : Int) != (m.length : Int)) = false := by simp; omega
    obtain ⟨L, hL⟩ : ∃ L, L = l.length := ⟨_, rfl⟩
    have HL := Hid.intro hL
    have HM : Hid (m.length = L) := by show m.length = L; omega
    rw [← hL] at hle hl ⊢
    rw [HM.out] at hle hm ⊢
    clear hlen hL
    go_enter Try.func22, Try.ntmps22
    go_wp2_with fail
    go_loopw [5] (fun i wr => ∃ (k q : Nat), k ≤ L ∧ i = .int .i64 k ∧ l.take k = m.take k ∧ wr = w.drewN q) (fun i _ => L - (intOf i).toNat)
    case atStart => exact ⟨0, 0, by omega, rfl, rfl, rfl⟩
    case round =>
      obtain ⟨k, q, hk, rfl, ht, hwr⟩ := hrel
      have HT := Hid.intro ht
      have HWR := Hid.intro hwr
      clear ht hwr
      by_cases hlt : k < L
      · have k0 : (0 : Int) ≤ (k : Int) := by omega
        have k1 : (k : Int) < (L : Int) := by omega
        have hk1 : k < l.length := by rw [← HL.out]; exact hlt
        have hk2 : k < m.length := by rw [HM.out]; exact hlt
        obtain ⟨pa, oa, rfl, _, d1⟩ := C1.out (by omega)
        obtain ⟨pb, ob, rfl, _, d2⟩ := C2.out (by omega)
        obtain ⟨a0, a1, a2, a3, a4⟩ := d1 k hk1
        obtain ⟨b0, b1, b2, b3, b4⟩ := d2 k hk2
        have x0 : wr.cell? ⟨pa, oa + k * 5, none⟩ = some (.int .i64 l[k].bed) := by rw [HWR.out]; exact a0
        have x1 : wr.cell? ⟨pa, oa + k * 5 + 1, none⟩ = some (.int .i64 l[k].kind) := by rw [HWR.out]; exact a1
        have x2 : wr.cell? ⟨pa, oa + k * 5 + 2, none⟩ = some (.int .i64 l[k].lo) := by rw [HWR.out]; exact a2
        have x3 : wr.cell? ⟨pa, oa + k * 5 + 3, none⟩ = some (.int .i64 l[k].hi) := by rw [HWR.out]; exact a3
        have x4 : wr.cell? ⟨pa, oa + k * 5 + 4, none⟩ = some (.int .i64 l[k].cnt) := by rw [HWR.out]; exact a4
        have y0 : wr.cell? ⟨pb, ob + k * 5, none⟩ = some (.int .i64 m[k].bed) := by rw [HWR.out]; exact b0
        have y1 : wr.cell? ⟨pb, ob + k * 5 + 1, none⟩ = some (.int .i64 m[k].kind) := by rw [HWR.out]; exact b1
        have y2 : wr.cell? ⟨pb, ob + k * 5 + 2, none⟩ = some (.int .i64 m[k].lo) := by rw [HWR.out]; exact b2
        have y3 : wr.cell? ⟨pb, ob + k * 5 + 3, none⟩ = some (.int .i64 m[k].hi) := by rw [HWR.out]; exact b3
        have y4 : wr.cell? ⟨pb, ob + k * 5 + 4, none⟩ = some (.int .i64 m[k].cnt) := by rw [HWR.out]; exact b4
        have se := fun (W : World) => EQ.out l[k].bed l[k].kind l[k].lo l[k].hi l[k].cnt  m[k].bed m[k].kind m[k].lo m[k].hi m[k].cnt W
        rw [lim_beq] at se
        have TK := Hid.intro (fun (e : l[k] = m[k]) => take_extL HT.out hk1 hk2 e)
        have NE : Hid (l[k] ≠ m[k] → rs = false) := fun e => by
          rw [HR.out, decide_eq_false]
          intro q2
          subst q2
          exact e rfl
        have DD : Hid ((decide (l[k] = m[k]) = true → l[k] = m[k]) ∧ (decide (l[k] = m[k]) = false → l[k] ≠ m[k])) := ⟨of_decide_eq_true, of_decide_eq_false⟩
        clear d1 d2 a0 a1 a2 a3 a4 b0 b1 b2 b3 b4
        generalize hdd : decide (l[k] = m[k]) = dd at se DD
        generalize l[k].bed = s0 at x0 se
        generalize l[k].kind = s1 at x1 se
        generalize l[k].lo = s2 at x2 se
        generalize l[k].hi = s3 at x3 se
        generalize l[k].cnt = s4 at x4 se
        generalize m[k].bed = t0 at y0 se
        generalize m[k].kind = t1 at y1 se
        generalize m[k].lo = t2 at y2 se
        generalize m[k].hi = t3 at y3 se
        generalize m[k].cnt = t4 at y4 se
        clear hdd
        cases dd with
        | true =>
          go_wp2_with fail
          go_quiet (fail)
          go_wp2
          go_roundw
          case rel => exact ⟨k + 1, q + nq, by omega, by go_num, TK.out (DD.out.1 trivial), by rw [HWR.out]; simp [World.drewN, Nat.add_assoc]⟩
          case measure => simp [intOf]; omega
        | false =>
          have hrf := NE.out (DD.out.2 rfl)
          subst hrf
          go_wp2_with fail
          go_quiet (fail)
          go_wp2
          go_ret
          exact ⟨rfl, by rw [HWR.out]; exact ⟨rfl, rfl, rfl, Nat.le_refl _, fun _ _ => rfl⟩⟩
      · obtain rfl : k = L := by omega
        have k1 : ¬ (k : Int) < (k : Int) := by omega
        have hrt : rs = true := by
          rw [HR.out, decide_eq_true]
          have := HT.out
          rw [List.take_of_length_le (by rw [← HL.out]; exact Nat.le_refl _), List.take_of_length_le (by rw [HM.out]; exact Nat.le_refl _)] at this
          exact this
        subst hrt
        go_wp2
        go_ret
        exact ⟨rfl, by rw [HWR.out]; exact ⟨rfl, rfl, rfl, Nat.le_refl _, fun _ _ => rfl⟩⟩
  · have hle : ((l.length : Int) != (m.length : Int)) = true := by simp; omega
    have hrf : rs = false := by
      rw [HR.out, decide_eq_false]
      intro q2
      exact hlen (by rw [q2])
    subst hrf
    clear C1 C2 HR EQ hlen
    generalize l.length = L1 at *
    generalize m.length = L2 at *
    go_enter Try.func22, Try.ntmps22
    go_wp2
    go_ret
    exact ⟨rfl, Below.refl _ _⟩

end Go.Proofs.Ytcloneccfbcclaa
