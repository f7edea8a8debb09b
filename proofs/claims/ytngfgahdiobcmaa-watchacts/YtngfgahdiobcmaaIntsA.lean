/- Lists of numbers held against one another (the document's Ints). -/
import Derived.Test.YtngfgahdiobcmaaNumL
namespace Go.Proofs.Ytngfgahdiobcmaa
open Go.RowKit
open Bt

theorem take_extI {l m : List Int} {k : Nat} (h : l.take k = m.take k) (h1 : k < l.length) (h2 : k < m.length) (e : l[k] = m[k]) : l.take (k + 1) = m.take (k + 1) := by
  rw [List.take_add_one, List.take_add_one, h, List.getElem?_eq_getElem h1, List.getElem?_eq_getElem h2, e]

set_option maxRecDepth 100000 in
set_option maxHeartbeats 1000000 in
theorem ints_any (R R' : Nat → Prop) (u v : Value) (l m : List Int) (hl : l.length ≤ 1000) (hm : m.length ≤ 1000) (w : World) (h1 : NumsAt R w u l) (h2 : NumsAt R' w v m) :
    Calls Try.prog 21 #[u, v] w fun e w' => e = .returned (.bool (decide (l = m))) ∧ Below w.heap.size w w' := by
  obtain ⟨ao, ca, rfl, c1⟩ := h1
  obtain ⟨bo, cb, rfl, c2⟩ := h2
  have C1 := Hid.intro c1
  have C2 := Hid.intro c2
  obtain ⟨rs, hrs⟩ : ∃ rs : Bool, rs = decide (l = m) := ⟨_, rfl⟩
  rw [← hrs]
  have HR := Hid.intro hrs
  clear c1 c2 hrs
  by_cases hlen : l.length = m.length
  · have hle : ((l.length : Int) != (m.length : Int)) = false := by simp; omega
    obtain ⟨L, hL⟩ : ∃ L, L = l.length := ⟨_, rfl⟩
    have HL := Hid.intro hL
    have HM : Hid (m.length = L) := by show m.length = L; omega
    rw [← hL] at hle hl ⊢
    rw [HM.out] at hle hm ⊢
    clear hlen hL
    go_enter Try.func21, Try.ntmps21
    go_wp2_with fail
    go_loopw [5] (fun i wr => ∃ (k q : Nat), k ≤ L ∧ i = .int .i64 k ∧ l.take k = m.take k ∧ wr = w.drewN q) (fun i _ => L - (intOf i).toNat)
    case atStart => exact ⟨0, 0, by omega, rfl, rfl, rfl⟩
    case round =>
      obtain ⟨k, q, hk, rfl, ht, hwr⟩ := hrel
      have HT := Hid.intro ht
      have HWR := Hid.intro hwr
      clear ht hwr
      by_cases hlt : k < L
      · have k0 : (0 : Int) ≤ (k : Int) := by omega
        have k1 : (k : Int) < (L : Int) := by omega
        have hk1 : k < l.length := by rw [← HL.out]; exact hlt
        have hk2 : k < m.length := by rw [HM.out]; exact hlt
        obtain ⟨pa, oa, rfl, _, d1⟩ := C1.out (by omega)
        obtain ⟨pb, ob, rfl, _, d2⟩ := C2.out (by omega)
        have x0 : wr.cell? ⟨pa, oa + k, none⟩ = some (.int .i64 l[k]) := by rw [HWR.out]; exact d1 k hk1
        have y0 : wr.cell? ⟨pb, ob + k, none⟩ = some (.int .i64 m[k]) := by rw [HWR.out]; exact d2 k hk2
        have TK := Hid.intro (fun (e : l[k] = m[k]) => take_extI HT.out hk1 hk2 e)
        have NE : Hid (l[k] ≠ m[k] → rs = false) := fun e => by
          rw [HR.out, decide_eq_false]
          intro q2
          subst q2
          exact e rfl
        clear d1 d2
        generalize l[k] = t1 at x0 TK NE
        generalize m[k] = t2 at y0 TK NE
        by_cases hdd : t1 = t2
        · subst hdd
          go_wp2_with fail
          go_quiet (fail)
          go_wp2
          go_roundw
          case rel => exact ⟨k + 1, q + nq, by omega, by go_num, TK.out (by trivial), by rw [HWR.out]; simp [World.drewN, Nat.add_assoc]⟩
          case measure => simp [intOf]; omega
        · have hrf := NE.out hdd
          subst hrf
          go_wp2_with fail
          go_quiet (fail)
          go_wp2
          go_ret
          exact ⟨rfl, by rw [HWR.out]; exact below_drewN (below_drewN (Below.refl _ w) q) _⟩
      · obtain rfl : k = L := by omega
        have k1 : ¬ (k : Int) < (k : Int) := by omega
        have hrt : rs = true := by
          rw [HR.out, decide_eq_true]
          have := HT.out
          rw [List.take_of_length_le (by rw [← HL.out]; exact Nat.le_refl _), List.take_of_length_le (by rw [HM.out]; exact Nat.le_refl _)] at this
          exact this
        subst hrt
        go_wp2
        go_ret
        exact ⟨rfl, by rw [HWR.out]; exact below_drewN (Below.refl _ w) q⟩
  · have hle : ((l.length : Int) != (m.length : Int)) = true := by simp; omega
    have hrf : rs = false := by
      rw [HR.out, decide_eq_false]
      intro q2
      exact hlen (by rw [q2])
    subst hrf
    clear C1 C2 HR hlen
    generalize l.length = L1 at *
    generalize m.length = L2 at *
    go_enter Try.func21, Try.ntmps21
    go_wp2
    go_ret
    exact ⟨rfl, Below.refl _ _⟩

end Go.Proofs.Ytngfgahdiobcmaa
