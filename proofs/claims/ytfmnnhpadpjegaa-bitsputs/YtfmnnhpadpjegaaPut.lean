/- The contracts of a pen's Put, Len. -/
import Derived.Test.YtfmnnhpadpjegaaWrite
namespace Go.Proofs.Ytfmnnhpadpjegaa
open Go.RowKit
open Bt

theorem put_nil (n m : Int) (w : World) :
    Calls Try.prog 10 #[.pointer none, .int .i64 n, .int .i64 m] w fun e w' => e = .returned (.bool false) ∧ w = w' := by
  go_enter Try.func10, Try.ntmps10
  go_wp2
  go_ret
  exact ⟨rfl, rfl⟩

theorem put_no (pb : Nat) (n m : Int) (w : World) (h : isF n m = false) :
    Calls Try.prog 10 #[.pointer (some ⟨pb, 0, none⟩), .int .i64 n, .int .i64 m] w fun e w' => e = .returned (.bool false) ∧ w = w' := by
  go_enter Try.func10, Try.ntmps10
  go_wp2_with (go_at_call 21; refine (isField_any _ _ _).mono ?_; rintro e w' ⟨rfl, rfl⟩; rw [h])
  go_ret
  exact ⟨rfl, rfl⟩

set_option maxHeartbeats 400000 in
theorem put_yes (pb n m : Nat) (v : Value) (l : List Nat) (hn : n < 2 ^ 63) (hl : l.length < 2 ^ 39) (w : World) (h : isF n m = true) (hp : PenAt w pb v l) :
    Calls Try.prog 10 #[.pointer (some ⟨pb, 0, none⟩), .int .i64 n, .int .i64 m] w fun e w' => e = .returned (.bool true) ∧
      ∃ v', PenAt w' pb v' (l ++ fld m n) ∧ Chg (penFoot pb v) w w' ∧ ∀ k, v'.ownBlock = some k → v.ownBlock = some k ∨ w.heap.size ≤ k := by
  have hm : 1 ≤ m ∧ m ≤ 32 := by
    have := isW_true (w := m) (by simp [isF] at h; exact h.1)
    omega
  have HP := Hid.intro hp
  clear hp
  have hmf : ∀ (fn : Fn) (first cap : Array Value) (w : World), (Instr.makeFunc fn first cap).run Try.prog w = .ok (.func fn first cap) w := fun _ _ _ _ => rfl
  go_enter Try.func10, Try.ntmps10
  go_wp2_with (go_at_call 21; refine (isField_any _ _ _).mono ?_; rintro e w' ⟨rfl, rfl⟩; rw [h])
  go_loopw [20] (fun i wr => ∃ k : Nat, k ≤ m ∧ i = .int .i64 k ∧ ∃ v', PenAt wr pb v' (l ++ fld k (n / 2 ^ (m - k))) ∧ Chg (penFoot pb v) w wr ∧ ∀ j, v'.ownBlock = some j → v.ownBlock = some j ∨ w.heap.size ≤ j)
    (fun i _ => m - (intOf i).toNat)
  case atStart => exact ⟨0, by omega, rfl, v, by simpa [fld] using HP.out, Chg.refl _ _, fun j hj => .inl hj⟩
  case round =>
    obtain ⟨k, hk, rfl, v', hpk, hck, hok⟩ := hrel
    have HPK := Hid.intro hpk
    have HCK := Hid.intro hck
    have HOK := Hid.intro hok
    clear hpk hck hok
    by_cases hlt : k < m
    · have hbit := and_bit n (m - 1 - k) hn
      have hb2 : n / 2 ^ (m - 1 - k) % 2 < 2 := Nat.mod_lt _ (by decide)
      have hst := fld_step m n k hlt
      have HST := Hid.intro hst
      have HB := Hid.intro hbit
      clear hst hbit
      go_wp2_with fail
      rw [HB.out]
      refine (write_any pb (n / 2 ^ (m - 1 - k) % 2) v' _ hb2 (by simp [fld_length]; omega) wr HPK.out).mono ?_
      rintro e w1 ⟨rfl, v1, hp1, hc1, ho1⟩
      have R : PenAt w1 pb v1 (l ++ fld (k + 1) (n / 2 ^ (m - (k + 1)))) := by rw [HST.out, ← List.append_assoc]; exact hp1
      have C : Chg (penFoot pb v) w w1 := HCK.out.trans hc1 (fun i hi hlt => by
        rcases hi with hi | hi
        · exact .inl hi
        · rcases HOK.out i hi with h1 | h1
          · exact .inr h1
          · omega)
      have O : ∀ j, v1.ownBlock = some j → v.ownBlock = some j ∨ w.heap.size ≤ j := fun j hj => by
        rcases ho1 j hj with h1 | h1
        · exact HOK.out j h1
        · right; have := HCK.out.size; omega
      have R' := Hid.intro R
      have C' := Hid.intro C
      have O' := Hid.intro O
      clear R C O hp1 hc1 ho1
      go_wp2
      go_roundw
      case rel => exact ⟨k + 1, by omega, by go_num, v1, R'.out, C'.out, O'.out⟩
      case measure => simp [intOf]; omega
    · go_wp2
      go_ret
      have e : k = m := by omega
      subst e
      exact ⟨rfl, v', by simpa using HPK.out, HCK.out, HOK.out⟩

/-- The bits that Put writes. -/
def putB (n m : Int) : List Nat := if isF n m = true then fld m.toNat n.toNat else []

theorem isF_bounds {n m : Int} (h : isF n m = true) : 1 ≤ m ∧ m ≤ 32 ∧ 0 ≤ n ∧ n < 2 ^ m.toNat := by
  simp only [isF, Bool.and_eq_true, decide_eq_true_eq] at h
  obtain ⟨h1, h2, h3⟩ := h
  have := isW_true h1
  exact ⟨this.1, this.2, h2, h3⟩

theorem isF_nat {N M : Nat} (h1 : 1 ≤ M) (h2 : M ≤ 32) (h : N < 2 ^ M) : isF (N : Int) (M : Int) = true := by
  have h3 : (N : Int) < 2 ^ M := by exact_mod_cast h
  have h0 : 0 ≤ (N : Int) := Int.natCast_nonneg _
  have a1 : (1 : Int) ≤ M := by omega
  have a2 : (M : Int) ≤ 32 := by omega
  simp only [isF, isW, Int.toNat_natCast, h3, h0, a1, a2, decide_true, Bool.and_true]

theorem putB_length (n m : Int) : (putB n m).length ≤ 32 := by
  unfold putB
  split
  · rename_i h; have := isF_bounds h; rw [fld_length]; omega
  · simp

/-- Put, whatever it is handed. -/
theorem put_any (pb : Nat) (n m : Int) (v : Value) (l : List Nat) (hl : l.length < 2 ^ 39) (w : World) (hp : PenAt w pb v l) :
    Calls Try.prog 10 #[.pointer (some ⟨pb, 0, none⟩), .int .i64 n, .int .i64 m] w fun e w' => e = .returned (.bool (isF n m)) ∧
      ∃ v', PenAt w' pb v' (l ++ putB n m) ∧ Chg (penFoot pb v) w w' ∧ ∀ k, v'.ownBlock = some k → v.ownBlock = some k ∨ w.heap.size ≤ k := by
  cases h : isF n m with
  | false =>
    refine (put_no pb n m w h).mono ?_
    rintro e w' ⟨rfl, rfl⟩
    exact ⟨rfl, v, by simpa [putB, h] using hp, Chg.refl _ _, fun k hk => .inl hk⟩
  | true =>
    obtain ⟨h1, h2, h3, h4⟩ := isF_bounds h
    obtain ⟨N, rfl⟩ := Int.eq_ofNat_of_zero_le h3
    obtain ⟨M, rfl⟩ := Int.eq_ofNat_of_zero_le (show 0 ≤ m by omega)
    have hN : N < 2 ^ 63 := by
      rw [Int.toNat_natCast] at h4
      have h5 : N < 2 ^ M := by exact_mod_cast h4
      exact Nat.lt_of_lt_of_le h5 (Nat.pow_le_pow_right (by decide) (by omega))
    have e : putB N M = fld M N := by simp [putB, h]
    rw [e]
    exact put_yes pb N M v l hN hl w h hp

theorem len_nil (w : World) :
    Calls Try.prog 11 #[.pointer none] w fun e w' => e = .returned (.int .i64 0) ∧ w = w' := by
  go_enter Try.func11, Try.ntmps11
  go_wp2
  go_ret
  exact ⟨rfl, rfl⟩

theorem len_any (pb : Nat) (v : Value) (l : List Nat) (w : World) (hp : PenAt w pb v l) :
    Calls Try.prog 11 #[.pointer (some ⟨pb, 0, none⟩)] w fun e w' => e = .returned (.int .i64 l.length) ∧ w = w' := by
  have c1 : w.cell? ⟨pb, 1, none⟩ = some (.int .i64 l.length) := by rw [cell_of_row w pb 1 _ _ _ hp.here]; rfl
  clear hp
  go_enter Try.func11, Try.ntmps11
  go_wp2
  go_ret
  exact ⟨rfl, rfl⟩

end Go.Proofs.Ytfmnnhpadpjegaa
