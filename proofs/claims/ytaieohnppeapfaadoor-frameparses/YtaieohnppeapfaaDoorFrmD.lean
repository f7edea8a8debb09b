/- Package frame: putHead. -/
import Derived.Test.YtaieohnppeapfaaDoorFrmC
namespace Go.Proofs.YtaieohnppeapfaaDoor
open Go.RowKit
open Bt

theorem putHead_long (tx sq an rs kd : Int) (a : Option Addr) (len cap : Nat) (h60 : 60 < len) (w : World) :
    Calls Tryd.prog 21 #[Fr tx sq an rs kd a len cap] w fun e w' => e = .returned (.tuple #[.slice none 0 0, .bool false]) ∧ Below w.heap.size w w' := by
  have B1 := Hid.intro (fun o1 => (Below.refl _ w).alloc (Nat.le_refl _) o1)
  have j60 : (60 : Int) < (len : Int) := by omega
  go_enter Tryd.func21, Tryd.ntmps21
  go_wp2
  go_ret2
  exact ⟨rfl, B1.out _⟩

set_option maxRecDepth 100000 in
set_option maxHeartbeats 1000000 in
theorem putHead_short (tx sq an rs kd : Int) (a : Option Addr) (len cap : Nat) (h60 : len ≤ 60) (w : World) (hw : Wid w) :
    Calls Tryd.prog 21 #[Fr tx sq an rs kd a len cap] w fun e w' =>
      ((isFrm tx sq an rs kd len = true ∧ ∃ g, e = .returned (.tuple #[.slice (some ⟨g, 0, none⟩) 5 5, .bool true]) ∧ w.heap.size ≤ g ∧ RowIs w' g (numB (headN tx.toNat sq.toNat an.toNat rs.toNat kd.toNat) 4 ++ [len])) ∨
       (isFrm tx sq an rs kd len = false ∧ e = .returned (.tuple #[.slice none 0 0, .bool false]))) ∧ Below w.heap.size w w' := by
  have j60 : decide ((60 : Int) < (len : Int)) = false := by simp; omega
  have HW := Hid.intro hw
  clear hw
  go_enter Tryd.func21, Tryd.ntmps21
  go_wp2_with fail
  have BX := ((Below.refl _ w).alloc (Nat.le_refl _) (.cells #[.int .i64 tx, .int .i64 sq, .int .i64 an, .int .i64 rs, .int .i64 kd, .slice a len cap] 24)).alloc (World.size_alloc w _ ▸ Nat.le_succ _) (.cells #[.slice none 0 0, .int .i64 0] 50)
  have PX := pen_new (w.alloc (.cells #[.int .i64 tx, .int .i64 sq, .int .i64 an, .int .i64 rs, .int .i64 kd, .slice a len cap] 24))
  rw [World.size_alloc] at PX
  generalize (w.alloc (.cells #[.int .i64 tx, .int .i64 sq, .int .i64 an, .int .i64 rs, .int .i64 kd, .slice a len cap] 24)).alloc (.cells #[.slice none 0 0, .int .i64 0] 50) = X at BX PX ⊢
  have hpb : w.heap.size ≤ w.heap.size + 1 := Nat.le_succ _
  generalize w.heap.size + 1 = pb at PX hpb ⊢
  refine (fieldsOf_any tx sq an rs kd a len cap X).mono ?_
  rintro e w5 ⟨rfl, B5⟩
  have P5 := PX.kept (S := fun _ => False) (below_chg B5) (fun _ _ h => h)
  have D5 := BX.trans (B5.mono BX.size)
  have O5 := own_new w.heap.size pb hpb
  clear PX BX B5
  have P5H := Hid.intro P5
  have D5H := Hid.intro D5
  have O5H := Hid.intro O5
  clear P5 D5 O5
  have FI := Hid.intro (fun (k : Nat) (hk : k < 6) => fa_index tx sq an rs kd len k hk)
  go_wp2_with fail
  go_loopw [14] (fun i wr => ∃ k : Nat, k ≤ 6 ∧ i = .int .i64 k ∧ okTo tx sq an rs kd len k ∧ ∃ v, PenAt wr pb v (hAt tx sq an rs kd len k) ∧ Own w.heap.size pb v ∧ Below w.heap.size w wr) (fun i _ => 6 - (intOf i).toNat)
  case atStart => exact ⟨0, by omega, rfl, fun j hj => by omega, _, P5H.out, O5H.out, D5H.out⟩
  case round =>
    obtain ⟨k, hk, rfl, hok, v, hp, ho, hb⟩ := hrel
    have HOK := Hid.intro hok
    have HP := Hid.intro hp
    have HO := Hid.intro ho
    have HB := Hid.intro hb
    clear hok hp ho hb
    by_cases hlt : k < 6
    · have i0 : (0 : Int) ≤ (k : Int) := by omega
      have i1 : (k : Int) < 6 := by omega
      have fi := FI.out k hlt
      have c := (HW.out.below HB.out).cell k hlt
      obtain ⟨N, hN⟩ : ∃ N, N = fAt tx sq an rs kd len k := ⟨_, rfl⟩
      obtain ⟨M, hM⟩ : ∃ M, M = wAt k := ⟨_, rfl⟩
      rw [← hN] at fi
      rw [← hM] at c
      have HN := Hid.intro hN
      have HM := Hid.intro hM
      clear hN hM
      have hl : (hAt tx sq an rs kd len k).length < 2 ^ 39 := by have := hAt_length tx sq an rs kd len k; omega
      have HC := Hid.intro (put_any pb N M v _ hl wr HP.out)
      clear hl
      cases hf : isF N M with
      | true =>
        go_wp2_with fail
        refine HC.out.mono ?_
        rintro e w1 ⟨rfl, v1, P1, C1, K1⟩
        rw [hf]
        have O1 := HO.out.next HB.out.size K1
        have B1 := HB.out.trans ((HO.out.chg C1).below HB.out.size fun _ h => h)
        have P1' : PenAt w1 pb v1 (hAt tx sq an rs kd len (k + 1)) := by
          rw [hAt, ← HN.out, ← HM.out]; exact P1
        have ok1 : okTo tx sq an rs kd len (k + 1) := fun j hj => by
          by_cases e : j = k
          · subst e; rw [← HN.out, ← HM.out]; exact hf
          · exact HOK.out j (by omega)
        have R := Hid.intro P1'
        have O := Hid.intro O1
        have B := Hid.intro B1
        have K := Hid.intro ok1
        clear O1 B1 P1' ok1 P1 C1 K1 HC fi c
        go_wp2
        go_roundw
        case rel => exact ⟨k + 1, by omega, by go_num, K.out, v1, R.out, O.out, B.out⟩
        case measure => simp [intOf]; omega
      | false =>
        go_wp2_with fail
        refine HC.out.mono ?_
        rintro e w1 ⟨rfl, v1, P1, C1, K1⟩
        rw [hf]
        have B1 := HB.out.trans ((HO.out.chg C1).below HB.out.size fun _ h => h)
        have hno : isFrm tx sq an rs kd len = false := by
          cases hq : isFrm tx sq an rs kd len with
          | false => rfl
          | true =>
            have := frm_ok hq k hlt
            rw [← HN.out, ← HM.out, hf] at this
            cases this
        clear P1 C1 K1 HC fi c
        go_wp2
        go_ret2
        exact ⟨.inr ⟨hno, rfl⟩, B1⟩
    · have hke : k = 6 := by omega
      subst hke
      have hyes := okTo_frm h60 HOK.out
      have hl : (hAt tx sq an rs kd len 6).length < 2 ^ 39 := by have := hAt_length tx sq an rs kd len 6; omega
      have HC := Hid.intro (bytes_any pb v _ hl wr HP.out)
      rw [head_pack hyes] at HC
      rw [show (numB (headN tx.toNat sq.toNat an.toNat rs.toNat kd.toNat) 4 ++ [len]).length = 5 from by simp [numB_length]] at HC
      clear hl FI
      go_wp2_with fail
      refine HC.out.mono ?_
      rintro e w1 ⟨g, rfl, hg, R1, C1⟩
      have B1 := HB.out.trans ((C1.below (Nat.le_refl _) (fun _ h => h.elim)).mono HB.out.size)
      have hgw : w.heap.size ≤ g := Nat.le_trans HB.out.size hg
      have R := Hid.intro R1
      clear R1 C1 HC hg
      go_wp2
      go_ret2
      exact ⟨.inl ⟨hyes, g, rfl, hgw, R.out⟩, B1⟩

end Go.Proofs.YtaieohnppeapfaaDoor
