/- Package frame, the half that writes: fieldsOf, putHead, Right; for seats that have no eye. -/
import Derived.Test.YtohedeeajcdjcaaDoorFrmW
import Derived.Test.YtohedeeajcdjcaaDoorBitsPen
import Derived.Laws.BytesArg
import Derived.Laws.StructEq
namespace Go.Proofs.YtohedeeajcdjcaaDoor
open Go.RowKit
open Bt

/-- A head's fields as they stand in the array. -/
abbrev FA (tx sq an rs kd : Int) (len : Nat) : Value := .agg #[.int .i64 tx, .int .i64 sq, .int .i64 an, .int .i64 rs, .int .i64 kd, .int .i64 (len : Int)]

set_option maxHeartbeats 1000000 in
theorem fieldsOf_any (tx sq an rs kd : Int) (a : Option Addr) (len cap : Nat) (w : World) :
    Calls Tryd.prog 35 #[Fr tx sq an rs kd a len cap] w fun e w' => e = .returned (FA tx sq an rs kd len) ∧ Below w.heap.size w w' := by
  go_enter Tryd.func35, Tryd.ntmps35
  go_wp2
  (try simp only [Exit.inBlock, Exit.then])
  refine bodyPost_ret (results_cell_row rfl _ _ (w.heap.size + 1) 72 #[.int .i64 tx, .int .i64 sq, .int .i64 an, .int .i64 rs, .int .i64 kd, .int .i64 (len : Int)] (0, 0) _ rfl (heap_alloc2_new w _ _) Tryd.underlying72 rfl (by kernel_rfl)) rfl ?_
  exact ⟨rfl, ((Below.refl _ w).alloc (Nat.le_refl _) _).alloc (World.size_alloc w _ ▸ Nat.le_succ _) _⟩


/-- The fields, the widths, the bits that were put, by the place. -/
def fAt (tx sq an rs kd : Int) (len : Nat) (k : Nat) : Int := [tx, sq, an, rs, kd, (len : Int)].getD k 0
def hAt (tx sq an rs kd : Int) (len : Nat) : Nat → List Nat
  | 0 => []
  | k + 1 => hAt tx sq an rs kd len k ++ putB (fAt tx sq an rs kd len k) (wAt k)

theorem hAt_length (tx sq an rs kd : Int) (len k : Nat) : (hAt tx sq an rs kd len k).length ≤ 32 * k := by
  induction k with
  | zero => simp [hAt]
  | succ k ih => rw [hAt, List.length_append]; have := putB_length (fAt tx sq an rs kd len k) (wAt k); omega

theorem fa_index (tx sq an rs kd : Int) (len k : Nat) (hk : k < 6) (w : World) :
    (Instr.index 72 (FA tx sq an rs kd len) (.int .i64 (k : Int))).run Tryd.prog w = .ok (.int .i64 (fAt tx sq an rs kd len k)) w := by
  have i0 : (Instr.index 72 (FA tx sq an rs kd len) (.int .i64 0)).run Tryd.prog w = .ok (.int .i64 tx) w := by kernel_rfl
  have i1 : (Instr.index 72 (FA tx sq an rs kd len) (.int .i64 1)).run Tryd.prog w = .ok (.int .i64 sq) w := by kernel_rfl
  have i2 : (Instr.index 72 (FA tx sq an rs kd len) (.int .i64 2)).run Tryd.prog w = .ok (.int .i64 an) w := by kernel_rfl
  have i3 : (Instr.index 72 (FA tx sq an rs kd len) (.int .i64 3)).run Tryd.prog w = .ok (.int .i64 rs) w := by kernel_rfl
  have i4 : (Instr.index 72 (FA tx sq an rs kd len) (.int .i64 4)).run Tryd.prog w = .ok (.int .i64 kd) w := by kernel_rfl
  have i5 : (Instr.index 72 (FA tx sq an rs kd len) (.int .i64 5)).run Tryd.prog w = .ok (.int .i64 (len : Int)) w := by kernel_rfl
  match k, hk with
  | 0, _ => exact i0
  | 1, _ => exact i1
  | 2, _ => exact i2
  | 3, _ => exact i3
  | 4, _ => exact i4
  | 5, _ => exact i5

/-- All fields up to a place fit. -/
def okTo (tx sq an rs kd : Int) (len k : Nat) : Prop := ∀ j, j < k → isF (fAt tx sq an rs kd len j) (wAt j) = true

theorem isF_iff (n : Int) (m : Nat) (h1 : 1 ≤ m) (h2 : m ≤ 32) : isF n m = true ↔ 0 ≤ n ∧ n < 2 ^ m := by
  simp only [isF, isW, Bool.and_eq_true, decide_eq_true_eq, Int.toNat_natCast]
  omega

theorem okTo_frm {tx sq an rs kd : Int} {len : Nat} (h60 : len ≤ 60) (h : okTo tx sq an rs kd len 6) : isFrm tx sq an rs kd len = true := by
  have h0 := (isF_iff _ _ (by decide) (by decide)).1 (h 0 (by decide))
  have h1 := (isF_iff _ _ (by decide) (by decide)).1 (h 1 (by decide))
  have h2 := (isF_iff _ _ (by decide) (by decide)).1 (h 2 (by decide))
  have h3 := (isF_iff _ _ (by decide) (by decide)).1 (h 3 (by decide))
  have h4 := (isF_iff _ _ (by decide) (by decide)).1 (h 4 (by decide))
  simp only [fAt, wAt, List.getD_cons_zero, List.getD_cons_succ] at h0 h1 h2 h3 h4
  rw [isFrm_iff]
  omega

theorem frm_ok {tx sq an rs kd : Int} {len : Nat} (h : isFrm tx sq an rs kd len = true) (k : Nat) (hk : k < 6) : isF (fAt tx sq an rs kd len k) (wAt k) = true := by
  rw [isFrm_iff] at h
  match k, hk with
  | 0, _ => exact (isF_iff _ _ (by decide) (by decide)).2 (by simp only [fAt, wAt, List.getD_cons_zero]; omega)
  | 1, _ => exact (isF_iff _ _ (by decide) (by decide)).2 (by simp only [fAt, wAt, List.getD_cons_zero, List.getD_cons_succ]; omega)
  | 2, _ => exact (isF_iff _ _ (by decide) (by decide)).2 (by simp only [fAt, wAt, List.getD_cons_zero, List.getD_cons_succ]; omega)
  | 3, _ => exact (isF_iff _ _ (by decide) (by decide)).2 (by simp only [fAt, wAt, List.getD_cons_zero, List.getD_cons_succ]; omega)
  | 4, _ => exact (isF_iff _ _ (by decide) (by decide)).2 (by simp only [fAt, wAt, List.getD_cons_zero, List.getD_cons_succ]; omega)
  | 5, _ => exact (isF_iff _ _ (by decide) (by decide)).2 (by simp only [fAt, wAt, List.getD_cons_zero, List.getD_cons_succ]; omega)

theorem putB_fld {n : Int} {m : Nat} (h : isF n m = true) : putB n m = fld m n.toNat := by simp [putB, h]

/-- The six fields one behind the other are the head's bytes. -/
theorem head_pack {tx sq an rs kd : Int} {len : Nat} (h : isFrm tx sq an rs kd len = true) :
    pack (hAt tx sq an rs kd len 6) = numB (headN tx.toNat sq.toNat an.toNat rs.toNat kd.toNat) 4 ++ [len] := by
  have e : hAt tx sq an rs kd len 6 = unpack (numB (headN tx.toNat sq.toNat an.toNat rs.toNat kd.toNat) 4 ++ [len]) := by
    have hb := isFrm_iff.1 h
    have p0 := putB_fld (frm_ok h 0 (by decide))
    have p1 := putB_fld (frm_ok h 1 (by decide))
    have p2 := putB_fld (frm_ok h 2 (by decide))
    have p3 := putB_fld (frm_ok h 3 (by decide))
    have p4 := putB_fld (frm_ok h 4 (by decide))
    have p5 := putB_fld (frm_ok h 5 (by decide))
    simp only [hAt, p0, p1, p2, p3, p4, p5]
    simp only [fAt, wAt, List.getD_cons_zero, List.getD_cons_succ, List.nil_append, Int.toNat_natCast]
    have hb2 := head_bits tx.toNat sq.toNat an.toNat rs.toNat kd.toNat (by omega) (by omega) (by omega) (by omega)
    rw [hb2]
    rw [fld32_unpack, unpack_append]
    simp [unpack]
  rw [e, pack_unpack]
  intro b hb
  have hb3 := isFrm_iff.1 h
  rcases List.mem_append.1 hb with h1 | h1
  · exact numB_byte _ _ b h1
  · simp at h1; omega


theorem putHead_long (tx sq an rs kd : Int) (a : Option Addr) (len cap : Nat) (h60 : 60 < len) (w : World) :
    Calls Tryd.prog 33 #[Fr tx sq an rs kd a len cap] w fun e w' => e = .returned (.tuple #[.slice none 0 0, .bool false]) ∧ Below w.heap.size w w' := by
  have B1 := Hid.intro (fun o1 => (Below.refl _ w).alloc (Nat.le_refl _) o1)
  have j60 : (60 : Int) < (len : Int) := by omega
  go_enter Tryd.func33, Tryd.ntmps33
  go_wp2
  go_ret2
  exact ⟨rfl, B1.out _⟩

set_option maxRecDepth 100000 in
set_option maxHeartbeats 1000000 in
theorem putHead_short (tx sq an rs kd : Int) (a : Option Addr) (len cap : Nat) (h60 : len ≤ 60) (w : World) (hw : Wid w) :
    Calls Tryd.prog 33 #[Fr tx sq an rs kd a len cap] w fun e w' =>
      ((isFrm tx sq an rs kd len = true ∧ ∃ g, e = .returned (.tuple #[.slice (some ⟨g, 0, none⟩) 5 5, .bool true]) ∧ w.heap.size ≤ g ∧ RowIs w' g (numB (headN tx.toNat sq.toNat an.toNat rs.toNat kd.toNat) 4 ++ [len])) ∨
       (isFrm tx sq an rs kd len = false ∧ e = .returned (.tuple #[.slice none 0 0, .bool false]))) ∧ Below w.heap.size w w' := by
  have j60 : decide ((60 : Int) < (len : Int)) = false := by simp; omega
  have HW := Hid.intro hw
  clear hw
  go_enter Tryd.func33, Tryd.ntmps33
  go_wp2_with fail
  have BX := ((Below.refl _ w).alloc (Nat.le_refl _) (.cells #[.int .i64 tx, .int .i64 sq, .int .i64 an, .int .i64 rs, .int .i64 kd, .slice a len cap] 62)).alloc (World.size_alloc w _ ▸ Nat.le_succ _) (.cells #[.slice none 0 0, .int .i64 0] 68)
  have PX := pen_new (w.alloc (.cells #[.int .i64 tx, .int .i64 sq, .int .i64 an, .int .i64 rs, .int .i64 kd, .slice a len cap] 62))
  rw [World.size_alloc] at PX
  generalize (w.alloc (.cells #[.int .i64 tx, .int .i64 sq, .int .i64 an, .int .i64 rs, .int .i64 kd, .slice a len cap] 62)).alloc (.cells #[.slice none 0 0, .int .i64 0] 68) = X at BX PX ⊢
  have hpb : w.heap.size ≤ w.heap.size + 1 := Nat.le_succ _
  generalize w.heap.size + 1 = pb at PX hpb ⊢
  refine (fieldsOf_any tx sq an rs kd a len cap X).mono ?_
  rintro e w5 ⟨rfl, B5⟩
  have P5 := PX.kept (S := fun _ => False) (below_chg B5) (fun _ _ h => h)
  have D5 := BX.trans (B5.mono BX.size)
  have O5 := own_new w.heap.size pb hpb
  clear PX BX B5
  have P5H := Hid.intro P5
  have D5H := Hid.intro D5
  have O5H := Hid.intro O5
  clear P5 D5 O5
  have FI := Hid.intro (fun (k : Nat) (hk : k < 6) => fa_index tx sq an rs kd len k hk)
  go_wp2_with fail
  go_loopw [14] (fun i wr => ∃ k : Nat, k ≤ 6 ∧ i = .int .i64 k ∧ okTo tx sq an rs kd len k ∧ ∃ v, PenAt wr pb v (hAt tx sq an rs kd len k) ∧ Own w.heap.size pb v ∧ Below w.heap.size w wr) (fun i _ => 6 - (intOf i).toNat)
  case atStart => exact ⟨0, by omega, rfl, fun j hj => by omega, _, P5H.out, O5H.out, D5H.out⟩
  case round =>
    obtain ⟨k, hk, rfl, hok, v, hp, ho, hb⟩ := hrel
    have HOK := Hid.intro hok
    have HP := Hid.intro hp
    have HO := Hid.intro ho
    have HB := Hid.intro hb
    clear hok hp ho hb
    by_cases hlt : k < 6
    · have i0 : (0 : Int) ≤ (k : Int) := by omega
      have i1 : (k : Int) < 6 := by omega
      have fi := FI.out k hlt
      have c := (HW.out.below HB.out).cell k hlt
      obtain ⟨N, hN⟩ : ∃ N, N = fAt tx sq an rs kd len k := ⟨_, rfl⟩
      obtain ⟨M, hM⟩ : ∃ M, M = wAt k := ⟨_, rfl⟩
      rw [← hN] at fi
      rw [← hM] at c
      have HN := Hid.intro hN
      have HM := Hid.intro hM
      clear hN hM
      have hl : (hAt tx sq an rs kd len k).length < 2 ^ 39 := by have := hAt_length tx sq an rs kd len k; omega
      have HC := Hid.intro (put_any pb N M v _ hl wr HP.out)
      clear hl
      cases hf : isF N M with
      | true =>
        go_wp2_with fail
        refine HC.out.mono ?_
        rintro e w1 ⟨rfl, v1, P1, C1, K1⟩
        rw [hf]
        have O1 := HO.out.next HB.out.size K1
        have B1 := HB.out.trans ((HO.out.chg C1).below HB.out.size fun _ h => h)
        have P1' : PenAt w1 pb v1 (hAt tx sq an rs kd len (k + 1)) := by
          rw [hAt, ← HN.out, ← HM.out]; exact P1
        have ok1 : okTo tx sq an rs kd len (k + 1) := fun j hj => by
          by_cases e : j = k
          · subst e; rw [← HN.out, ← HM.out]; exact hf
          · exact HOK.out j (by omega)
        have R := Hid.intro P1'
        have O := Hid.intro O1
        have B := Hid.intro B1
        have K := Hid.intro ok1
        clear O1 B1 P1' ok1 P1 C1 K1 HC fi c
        go_wp2
        go_roundw
        case rel => exact ⟨k + 1, by omega, by go_num, K.out, v1, R.out, O.out, B.out⟩
        case measure => simp [intOf]; omega
      | false =>
        go_wp2_with fail
        refine HC.out.mono ?_
        rintro e w1 ⟨rfl, v1, P1, C1, K1⟩
        rw [hf]
        have B1 := HB.out.trans ((HO.out.chg C1).below HB.out.size fun _ h => h)
        have hno : isFrm tx sq an rs kd len = false := by
          cases hq : isFrm tx sq an rs kd len with
          | false => rfl
          | true =>
            have := frm_ok hq k hlt
            rw [← HN.out, ← HM.out, hf] at this
            cases this
        clear P1 C1 K1 HC fi c
        go_wp2
        go_ret2
        exact ⟨.inr ⟨hno, rfl⟩, B1⟩
    · have hke : k = 6 := by omega
      subst hke
      have hyes := okTo_frm h60 HOK.out
      have hl : (hAt tx sq an rs kd len 6).length < 2 ^ 39 := by have := hAt_length tx sq an rs kd len 6; omega
      have HC := Hid.intro (bytes_any pb v _ hl wr HP.out)
      rw [head_pack hyes] at HC
      rw [show (numB (headN tx.toNat sq.toNat an.toNat rs.toNat kd.toNat) 4 ++ [len]).length = 5 from by simp [numB_length]] at HC
      clear hl FI
      go_wp2_with fail
      refine HC.out.mono ?_
      rintro e w1 ⟨g, rfl, hg, R1, C1⟩
      have B1 := HB.out.trans ((C1.below (Nat.le_refl _) (fun _ h => h.elim)).mono HB.out.size)
      have hgw : w.heap.size ≤ g := Nat.le_trans HB.out.size hg
      have R := Hid.intro R1
      clear R1 C1 HC hg
      go_wp2
      go_ret2
      exact ⟨.inl ⟨hyes, g, rfl, hgw, R.out⟩, B1⟩


theorem putHead_any (tx sq an rs kd : Int) (a : Option Addr) (len cap : Nat) (w : World) (hw : Wid w) :
    Calls Tryd.prog 33 #[Fr tx sq an rs kd a len cap] w fun e w' =>
      ((isFrm tx sq an rs kd len = true ∧ ∃ g, e = .returned (.tuple #[.slice (some ⟨g, 0, none⟩) 5 5, .bool true]) ∧ w.heap.size ≤ g ∧ RowIs w' g (numB (headN tx.toNat sq.toNat an.toNat rs.toNat kd.toNat) 4 ++ [len])) ∨
       (isFrm tx sq an rs kd len = false ∧ e = .returned (.tuple #[.slice none 0 0, .bool false]))) ∧ Below w.heap.size w w' := by
  by_cases h : len ≤ 60
  · exact putHead_short tx sq an rs kd a len cap h w hw
  · refine (putHead_long tx sq an rs kd a len cap (by omega) w).mono ?_
    rintro e w' ⟨rfl, B⟩
    refine ⟨.inr ⟨?_, rfl⟩, B⟩
    cases hq : isFrm tx sq an rs kd len with
    | false => rfl
    | true => have := isFrm_iff.1 hq; omega

theorem right_any (tx sq an rs kd : Int) (a : Option Addr) (len cap : Nat) (w : World) (hw : Wid w) :
    Calls Tryd.prog 31 #[Fr tx sq an rs kd a len cap] w fun e w' => e = .returned (.bool (isFrm tx sq an rs kd len)) ∧ Below w.heap.size w w' := by
  have HB1 := Hid.intro ((Below.refl _ w).alloc (Nat.le_refl _) (.cells #[.int .i64 tx, .int .i64 sq, .int .i64 an, .int .i64 rs, .int .i64 kd, .slice a len cap] 62))
  have HW := Hid.intro (hw.below HB1.out)
  clear hw
  go_enter Tryd.func31, Tryd.ntmps31
  go_wp2_with fail
  refine (putHead_any tx sq an rs kd a len cap _ HW.out).mono ?_
  rintro e w2 ⟨h, B2⟩
  have D2 := HB1.out.trans (B2.mono HB1.out.size)
  clear B2 HB1 HW
  rcases h with ⟨hf, g, rfl, _, _⟩ | ⟨hf, rfl⟩
  · have HF := Hid.intro hf
    clear hf
    go_wp2
    go_ret
    exact ⟨by rw [HF.out]; rfl, D2⟩
  · have HF := Hid.intro hf
    clear hf
    go_wp2
    go_ret
    exact ⟨by rw [HF.out]; rfl, D2⟩


end Go.Proofs.YtohedeeajcdjcaaDoor
