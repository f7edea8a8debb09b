/- The contract of the document's own Same, of whatever two rows of bytes. -/
import Derived.Test.YtaieohnppeapfaaDoorBase
namespace Go.Proofs.YtaieohnppeapfaaDoor
open Go.RowKit

set_option maxHeartbeats 400000 in
theorem same_len (ao bo : Option Addr) (ca cb : Nat) (bs cs : List Nat) (hl : bs.length < 2 ^ 40) (hlen : bs.length = cs.length) (w : World) (ha : Reads w ao bs) (hb : Reads w bo cs) :
    Calls Tryd.prog 12 #[.slice ao bs.length ca, .slice bo bs.length cb] w fun e w' => e = .returned (.bool (decide (bs = cs))) ∧ ∃ n, w' = w.drewN n := by
  have HA := Hid.intro ha
  have HB := Hid.intro hb
  clear ha hb
  have hne : ((bs.length : Int) != (bs.length : Int)) = false := by simp
  go_enter Tryd.func12, Tryd.ntmps12
  go_wp2
  go_loopw [5] (fun i wr => ∃ k : Nat, k ≤ bs.length ∧ i = .int .i64 k ∧ bs.take k = cs.take k ∧ ∃ n, wr = w.drewN n) (fun i _ => bs.length - (intOf i).toNat)
  case atStart => exact ⟨0, by omega, rfl, rfl, 0, rfl⟩
  case round =>
    obtain ⟨k, hk, rfl, htk, n, rfl⟩ := hrel
    have HT := Hid.intro htk
    clear htk
    by_cases hlt : k < bs.length
    · obtain ⟨ba, oa, rfl, hca⟩ := reads_at HA.out (by omega)
      obtain ⟨bb, ob, rfl, hcb⟩ := reads_at HB.out (by omega)
      have c1 := hca k hlt
      have c2 := hcb k (by omega)
      clear hca hcb
      have i0 : (0 : Int) ≤ (k : Int) := by omega
      have i1 : (k : Int) < (bs.length : Int) := by omega
      have e1 := take_snoc bs k hlt
      have e2 := take_snoc cs k (by omega)
      rw [HT.out] at e1
      generalize bs[k] = x at c1 e1
      generalize cs[k] = y at c2 e2
      have E1 := Hid.intro e1
      have E2 := Hid.intro e2
      clear e1 e2 HT
      by_cases hxy : x = y
      · have hbb : ((x : Int) != (y : Int)) = false := by simp [hxy]
        go_wp2_with fail
        go_quiet (fail)
        go_wp2
        go_roundw
        case rel => exact ⟨k + 1, by omega, by go_num, by rw [E1.out, E2.out, hxy], _, rfl⟩
        case measure => simp [intOf]; omega
      · have hbb : ((x : Int) != (y : Int)) = true := by rw [bne_iff_ne]; omega
        have hd : decide (bs = cs) = false := by
          rw [decide_eq_false_iff_not]
          intro e
          have e3 := E1.out
          rw [e, E2.out] at e3
          have := (List.append_cancel_left e3)
          simp at this
          exact hxy this.symm
        have HD := Hid.intro hd
        clear hd
        go_wp2_with fail
        go_quiet (fail)
        go_wp2
        go_ret
        exact ⟨ret_bool HD.out.symm, n + nq, World.drewN_drewN _ _ _⟩
    · have hke : k = bs.length := by omega
      have hd : decide (bs = cs) = true := by
        rw [decide_eq_true_eq]
        have := HT.out
        rw [hke, List.take_length, hlen, List.take_length] at this
        exact this
      have HD := Hid.intro hd
      clear hd
      go_wp2
      go_ret
      exact ⟨ret_bool HD.out.symm, n, rfl⟩

theorem same_any (ao bo : Option Addr) (ca cb : Nat) (bs cs : List Nat) (hl : bs.length < 2 ^ 40) (w : World) (ha : Reads w ao bs) (hb : Reads w bo cs) :
    Calls Tryd.prog 12 #[.slice ao bs.length ca, .slice bo cs.length cb] w fun e w' => e = .returned (.bool (decide (bs = cs))) ∧ ∃ n, w' = w.drewN n := by
  by_cases hlen : bs.length = cs.length
  · rw [← hlen]
    exact same_len ao bo ca cb bs cs hl hlen w ha hb
  · have hd : decide (bs = cs) = false := by
      rw [decide_eq_false_iff_not]
      intro e
      exact hlen (by rw [e])
    rw [hd]
    have hne : ((bs.length : Int) != (cs.length : Int)) = true := by rw [bne_iff_ne]; omega
    clear ha hb
    go_enter Tryd.func12, Tryd.ntmps12
    go_wp2
    go_ret
    exact ⟨rfl, 0, rfl⟩

end Go.Proofs.YtaieohnppeapfaaDoor
