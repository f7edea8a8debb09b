/- Several texts, one behind the other: FrmP EqInts FrmA BitsEye FrmC FrmD CrcA CrcB CrcC FrmE. -/
import Derived.Test.YthhggjakenalpaaGreatDoorFrmW
import Derived.Test.YthhggjakenalpaaGreatDoorBitsPen
import Derived.Laws.BytesArg
import Derived.Laws.StructEq
import Derived.Test.YthhggjakenalpaaGreatDoorBase
import Derived.Test.YthhggjakenalpaaGreatDoorFrmBase
import Derived.Test.YthhggjakenalpaaGreatDoorMPlain
import Derived.Laws.EntriesVeiled
import Derived.Laws.Rows
/- Package frame, the half that writes: fieldsOf, putHead, Right; for seats that have no eye. -/
namespace Go.Proofs.YthhggjakenalpaaGreatDoor
set_option maxRecDepth 100000
open Go.RowKit
open Bt

/-- A head's fields as they stand in the array. -/
abbrev FA (tx sq an rs kd : Int) (len : Nat) : Value := .agg #[.int .i64 tx, .int .i64 sq, .int .i64 an, .int .i64 rs, .int .i64 kd, .int .i64 (len : Int)]

set_option maxHeartbeats 1000000 in
theorem fieldsOf_any (tx sq an rs kd : Int) (a : Option Addr) (len cap : Nat) (w : World) :
    Calls Tryz.prog 115 #[Fr tx sq an rs kd a len cap] w fun e w' => e = .returned (FA tx sq an rs kd len) ∧ Below w.heap.size w w' := by
  go_enter Tryz.func115, Tryz.ntmps115
  go_wp2
  (try simp only [Exit.inBlock, Exit.then])
  refine bodyPost_ret (results_cell_row rfl _ _ (w.heap.size + 1) 142 #[.int .i64 tx, .int .i64 sq, .int .i64 an, .int .i64 rs, .int .i64 kd, .int .i64 (len : Int)] (0, 0) _ rfl (heap_alloc2_new w _ _) Tryz.underlying142 rfl (by kernel_rfl)) rfl ?_
  exact ⟨rfl, ((Below.refl _ w).alloc (Nat.le_refl _) _).alloc (World.size_alloc w _ ▸ Nat.le_succ _) _⟩


/-- The fields, the widths, the bits that were put, by the place. -/
def fAt (tx sq an rs kd : Int) (len : Nat) (k : Nat) : Int := [tx, sq, an, rs, kd, (len : Int)].getD k 0
def hAt (tx sq an rs kd : Int) (len : Nat) : Nat → List Nat
  | 0 => []
  | k + 1 => hAt tx sq an rs kd len k ++ putB (fAt tx sq an rs kd len k) (wAt k)

theorem hAt_length (tx sq an rs kd : Int) (len k : Nat) : (hAt tx sq an rs kd len k).length ≤ 32 * k := by
  induction k with
  | zero => simp [hAt]
  | succ k ih => rw [hAt, List.length_append]; have := putB_length (fAt tx sq an rs kd len k) (wAt k); omega

theorem fa_index (tx sq an rs kd : Int) (len k : Nat) (hk : k < 6) (w : World) :
    (Instr.index 142 (FA tx sq an rs kd len) (.int .i64 (k : Int))).run Tryz.prog w = .ok (.int .i64 (fAt tx sq an rs kd len k)) w := by
  have i0 : (Instr.index 142 (FA tx sq an rs kd len) (.int .i64 0)).run Tryz.prog w = .ok (.int .i64 tx) w := by kernel_rfl
  have i1 : (Instr.index 142 (FA tx sq an rs kd len) (.int .i64 1)).run Tryz.prog w = .ok (.int .i64 sq) w := by kernel_rfl
  have i2 : (Instr.index 142 (FA tx sq an rs kd len) (.int .i64 2)).run Tryz.prog w = .ok (.int .i64 an) w := by kernel_rfl
  have i3 : (Instr.index 142 (FA tx sq an rs kd len) (.int .i64 3)).run Tryz.prog w = .ok (.int .i64 rs) w := by kernel_rfl
  have i4 : (Instr.index 142 (FA tx sq an rs kd len) (.int .i64 4)).run Tryz.prog w = .ok (.int .i64 kd) w := by kernel_rfl
  have i5 : (Instr.index 142 (FA tx sq an rs kd len) (.int .i64 5)).run Tryz.prog w = .ok (.int .i64 (len : Int)) w := by kernel_rfl
  match k, hk with
  | 0, _ => exact i0
  | 1, _ => exact i1
  | 2, _ => exact i2
  | 3, _ => exact i3
  | 4, _ => exact i4
  | 5, _ => exact i5

/-- All fields up to a place fit. -/
def okTo (tx sq an rs kd : Int) (len k : Nat) : Prop := ∀ j, j < k → isF (fAt tx sq an rs kd len j) (wAt j) = true

theorem isF_iff (n : Int) (m : Nat) (h1 : 1 ≤ m) (h2 : m ≤ 32) : isF n m = true ↔ 0 ≤ n ∧ n < 2 ^ m := by
  simp only [isF, isW, Bool.and_eq_true, decide_eq_true_eq, Int.toNat_natCast]
  omega

theorem okTo_frm {tx sq an rs kd : Int} {len : Nat} (h60 : len ≤ 60) (h : okTo tx sq an rs kd len 6) : isFrm tx sq an rs kd len = true := by
  have h0 := (isF_iff _ _ (by decide) (by decide)).1 (h 0 (by decide))
  have h1 := (isF_iff _ _ (by decide) (by decide)).1 (h 1 (by decide))
  have h2 := (isF_iff _ _ (by decide) (by decide)).1 (h 2 (by decide))
  have h3 := (isF_iff _ _ (by decide) (by decide)).1 (h 3 (by decide))
  have h4 := (isF_iff _ _ (by decide) (by decide)).1 (h 4 (by decide))
  simp only [fAt, wAt, List.getD_cons_zero, List.getD_cons_succ] at h0 h1 h2 h3 h4
  rw [isFrm_iff]
  omega

theorem frm_ok {tx sq an rs kd : Int} {len : Nat} (h : isFrm tx sq an rs kd len = true) (k : Nat) (hk : k < 6) : isF (fAt tx sq an rs kd len k) (wAt k) = true := by
  rw [isFrm_iff] at h
  match k, hk with
  | 0, _ => exact (isF_iff _ _ (by decide) (by decide)).2 (by simp only [fAt, wAt, List.getD_cons_zero]; omega)
  | 1, _ => exact (isF_iff _ _ (by decide) (by decide)).2 (by simp only [fAt, wAt, List.getD_cons_zero, List.getD_cons_succ]; omega)
  | 2, _ => exact (isF_iff _ _ (by decide) (by decide)).2 (by simp only [fAt, wAt, List.getD_cons_zero, List.getD_cons_succ]; omega)
  | 3, _ => exact (isF_iff _ _ (by decide) (by decide)).2 (by simp only [fAt, wAt, List.getD_cons_zero, List.getD_cons_succ]; omega)
  | 4, _ => exact (isF_iff _ _ (by decide) (by decide)).2 (by simp only [fAt, wAt, List.getD_cons_zero, List.getD_cons_succ]; omega)
  | 5, _ => exact (isF_iff _ _ (by decide) (by decide)).2 (by simp only [fAt, wAt, List.getD_cons_zero, List.getD_cons_succ]; omega)

theorem putB_fld {n : Int} {m : Nat} (h : isF n m = true) : putB n m = fld m n.toNat := by simp [putB, h]

/-- The six fields one behind the other are the head's bytes. -/
theorem head_pack {tx sq an rs kd : Int} {len : Nat} (h : isFrm tx sq an rs kd len = true) :
    pack (hAt tx sq an rs kd len 6) = numB (headN tx.toNat sq.toNat an.toNat rs.toNat kd.toNat) 4 ++ [len] := by
  have e : hAt tx sq an rs kd len 6 = unpack (numB (headN tx.toNat sq.toNat an.toNat rs.toNat kd.toNat) 4 ++ [len]) := by
    have hb := isFrm_iff.1 h
    have p0 := putB_fld (frm_ok h 0 (by decide))
    have p1 := putB_fld (frm_ok h 1 (by decide))
    have p2 := putB_fld (frm_ok h 2 (by decide))
    have p3 := putB_fld (frm_ok h 3 (by decide))
    have p4 := putB_fld (frm_ok h 4 (by decide))
    have p5 := putB_fld (frm_ok h 5 (by decide))
    simp only [hAt, p0, p1, p2, p3, p4, p5]
    simp only [fAt, wAt, List.getD_cons_zero, List.getD_cons_succ, List.nil_append, Int.toNat_natCast]
    have hb2 := head_bits tx.toNat sq.toNat an.toNat rs.toNat kd.toNat (by omega) (by omega) (by omega) (by omega)
    rw [hb2]
    rw [fld32_unpack, unpack_append]
    simp [unpack]
  rw [e, pack_unpack]
  intro b hb
  have hb3 := isFrm_iff.1 h
  rcases List.mem_append.1 hb with h1 | h1
  · exact numB_byte _ _ b h1
  · simp at h1; omega


theorem putHead_long (tx sq an rs kd : Int) (a : Option Addr) (len cap : Nat) (h60 : 60 < len) (w : World) :
    Calls Tryz.prog 74 #[Fr tx sq an rs kd a len cap] w fun e w' => e = .returned (.tuple #[.slice none 0 0, .bool false]) ∧ Below w.heap.size w w' := by
  have B1 := Hid.intro (fun o1 => (Below.refl _ w).alloc (Nat.le_refl _) o1)
  have j60 : (60 : Int) < (len : Int) := by omega
  go_enter Tryz.func74, Tryz.ntmps74
  go_wp2
  go_ret2
  exact ⟨rfl, B1.out _⟩

set_option maxRecDepth 100000 in
set_option maxHeartbeats 1000000 in
theorem putHead_short (tx sq an rs kd : Int) (a : Option Addr) (len cap : Nat) (h60 : len ≤ 60) (w : World) (hw : Wid w) :
    Calls Tryz.prog 74 #[Fr tx sq an rs kd a len cap] w fun e w' =>
      ((isFrm tx sq an rs kd len = true ∧ ∃ g, e = .returned (.tuple #[.slice (some ⟨g, 0, none⟩) 5 5, .bool true]) ∧ w.heap.size ≤ g ∧ RowIs w' g (numB (headN tx.toNat sq.toNat an.toNat rs.toNat kd.toNat) 4 ++ [len])) ∨
       (isFrm tx sq an rs kd len = false ∧ e = .returned (.tuple #[.slice none 0 0, .bool false]))) ∧ Below w.heap.size w w' := by
  have j60 : decide ((60 : Int) < (len : Int)) = false := by simp; omega
  have HW := Hid.intro hw
  clear hw
  go_enter Tryz.func74, Tryz.ntmps74
  go_wp2_with fail
  have BX := ((Below.refl _ w).alloc (Nat.le_refl _) (.cells #[.int .i64 tx, .int .i64 sq, .int .i64 an, .int .i64 rs, .int .i64 kd, .slice a len cap] 55)).alloc (World.size_alloc w _ ▸ Nat.le_succ _) (.cells #[.slice none 0 0, .int .i64 0] 150)
  have PX := pen_new (w.alloc (.cells #[.int .i64 tx, .int .i64 sq, .int .i64 an, .int .i64 rs, .int .i64 kd, .slice a len cap] 55))
  rw [World.size_alloc] at PX
  generalize (w.alloc (.cells #[.int .i64 tx, .int .i64 sq, .int .i64 an, .int .i64 rs, .int .i64 kd, .slice a len cap] 55)).alloc (.cells #[.slice none 0 0, .int .i64 0] 150) = X at BX PX ⊢
  have hpb : w.heap.size ≤ w.heap.size + 1 := Nat.le_succ _
  generalize w.heap.size + 1 = pb at PX hpb ⊢
  refine (fieldsOf_any tx sq an rs kd a len cap X).mono ?_
  rintro e w5 ⟨rfl, B5⟩
  have P5 := PX.kept (S := fun _ => False) (below_chg B5) (fun _ _ h => h)
  have D5 := BX.trans (B5.mono BX.size)
  have O5 := own_new w.heap.size pb hpb
  clear PX BX B5
  have P5H := Hid.intro P5
  have D5H := Hid.intro D5
  have O5H := Hid.intro O5
  clear P5 D5 O5
  have FI := Hid.intro (fun (k : Nat) (hk : k < 6) => fa_index tx sq an rs kd len k hk)
  go_wp2_with fail
  go_loopw [14] (fun i wr => ∃ k : Nat, k ≤ 6 ∧ i = .int .i64 k ∧ okTo tx sq an rs kd len k ∧ ∃ v, PenAt wr pb v (hAt tx sq an rs kd len k) ∧ Own w.heap.size pb v ∧ Below w.heap.size w wr) (fun i _ => 6 - (intOf i).toNat)
  case atStart => exact ⟨0, by omega, rfl, fun j hj => by omega, _, P5H.out, O5H.out, D5H.out⟩
  case round =>
    obtain ⟨k, hk, rfl, hok, v, hp, ho, hb⟩ := hrel
    have HOK := Hid.intro hok
    have HP := Hid.intro hp
    have HO := Hid.intro ho
    have HB := Hid.intro hb
    clear hok hp ho hb
    by_cases hlt : k < 6
    · have i0 : (0 : Int) ≤ (k : Int) := by omega
      have i1 : (k : Int) < 6 := by omega
      have fi := FI.out k hlt
      have c := (HW.out.below HB.out).cell k hlt
      obtain ⟨N, hN⟩ : ∃ N, N = fAt tx sq an rs kd len k := ⟨_, rfl⟩
      obtain ⟨M, hM⟩ : ∃ M, M = wAt k := ⟨_, rfl⟩
      rw [← hN] at fi
      rw [← hM] at c
      have HN := Hid.intro hN
      have HM := Hid.intro hM
      clear hN hM
      have hl : (hAt tx sq an rs kd len k).length < 2 ^ 39 := by have := hAt_length tx sq an rs kd len k; omega
      have HC := Hid.intro (put_any pb N M v _ hl wr HP.out)
      clear hl
      cases hf : isF N M with
      | true =>
        go_wp2_with fail
        refine HC.out.mono ?_
        rintro e w1 ⟨rfl, v1, P1, C1, K1⟩
        rw [hf]
        have O1 := HO.out.next HB.out.size K1
        have B1 := HB.out.trans ((HO.out.chg C1).below HB.out.size fun _ h => h)
        have P1' : PenAt w1 pb v1 (hAt tx sq an rs kd len (k + 1)) := by
          rw [hAt, ← HN.out, ← HM.out]; exact P1
        have ok1 : okTo tx sq an rs kd len (k + 1) := fun j hj => by
          by_cases e : j = k
          · subst e; rw [← HN.out, ← HM.out]; exact hf
          · exact HOK.out j (by omega)
        have R := Hid.intro P1'
        have O := Hid.intro O1
        have B := Hid.intro B1
        have K := Hid.intro ok1
        clear O1 B1 P1' ok1 P1 C1 K1 HC fi c
        go_wp2
        go_roundw
        case rel => exact ⟨k + 1, by omega, by go_num, K.out, v1, R.out, O.out, B.out⟩
        case measure => simp [intOf]; omega
      | false =>
        go_wp2_with fail
        refine HC.out.mono ?_
        rintro e w1 ⟨rfl, v1, P1, C1, K1⟩
        rw [hf]
        have B1 := HB.out.trans ((HO.out.chg C1).below HB.out.size fun _ h => h)
        have hno : isFrm tx sq an rs kd len = false := by
          cases hq : isFrm tx sq an rs kd len with
          | false => rfl
          | true =>
            have := frm_ok hq k hlt
            rw [← HN.out, ← HM.out, hf] at this
            cases this
        clear P1 C1 K1 HC fi c
        go_wp2
        go_ret2
        exact ⟨.inr ⟨hno, rfl⟩, B1⟩
    · have hke : k = 6 := by omega
      subst hke
      have hyes := okTo_frm h60 HOK.out
      have hl : (hAt tx sq an rs kd len 6).length < 2 ^ 39 := by have := hAt_length tx sq an rs kd len 6; omega
      have HC := Hid.intro (bytes_any pb v _ hl wr HP.out)
      rw [head_pack hyes] at HC
      rw [show (numB (headN tx.toNat sq.toNat an.toNat rs.toNat kd.toNat) 4 ++ [len]).length = 5 from by simp [numB_length]] at HC
      clear hl FI
      go_wp2_with fail
      refine HC.out.mono ?_
      rintro e w1 ⟨g, rfl, hg, R1, C1⟩
      have B1 := HB.out.trans ((C1.below (Nat.le_refl _) (fun _ h => h.elim)).mono HB.out.size)
      have hgw : w.heap.size ≤ g := Nat.le_trans HB.out.size hg
      have R := Hid.intro R1
      clear R1 C1 HC hg
      go_wp2
      go_ret2
      exact ⟨.inl ⟨hyes, g, rfl, hgw, R.out⟩, B1⟩


theorem putHead_any (tx sq an rs kd : Int) (a : Option Addr) (len cap : Nat) (w : World) (hw : Wid w) :
    Calls Tryz.prog 74 #[Fr tx sq an rs kd a len cap] w fun e w' =>
      ((isFrm tx sq an rs kd len = true ∧ ∃ g, e = .returned (.tuple #[.slice (some ⟨g, 0, none⟩) 5 5, .bool true]) ∧ w.heap.size ≤ g ∧ RowIs w' g (numB (headN tx.toNat sq.toNat an.toNat rs.toNat kd.toNat) 4 ++ [len])) ∨
       (isFrm tx sq an rs kd len = false ∧ e = .returned (.tuple #[.slice none 0 0, .bool false]))) ∧ Below w.heap.size w w' := by
  by_cases h : len ≤ 60
  · exact putHead_short tx sq an rs kd a len cap h w hw
  · refine (putHead_long tx sq an rs kd a len cap (by omega) w).mono ?_
    rintro e w' ⟨rfl, B⟩
    refine ⟨.inr ⟨?_, rfl⟩, B⟩
    cases hq : isFrm tx sq an rs kd len with
    | false => rfl
    | true => have := isFrm_iff.1 hq; omega

theorem right_any (tx sq an rs kd : Int) (a : Option Addr) (len cap : Nat) (w : World) (hw : Wid w) :
    Calls Tryz.prog 120 #[Fr tx sq an rs kd a len cap] w fun e w' => e = .returned (.bool (isFrm tx sq an rs kd len)) ∧ Below w.heap.size w w' := by
  have HB1 := Hid.intro ((Below.refl _ w).alloc (Nat.le_refl _) (.cells #[.int .i64 tx, .int .i64 sq, .int .i64 an, .int .i64 rs, .int .i64 kd, .slice a len cap] 55))
  have HW := Hid.intro (hw.below HB1.out)
  clear hw
  go_enter Tryz.func120, Tryz.ntmps120
  go_wp2_with fail
  refine (putHead_any tx sq an rs kd a len cap _ HW.out).mono ?_
  rintro e w2 ⟨h, B2⟩
  have D2 := HB1.out.trans (B2.mono HB1.out.size)
  clear B2 HB1 HW
  rcases h with ⟨hf, g, rfl, _, _⟩ | ⟨hf, rfl⟩
  · have HF := Hid.intro hf
    clear hf
    go_wp2
    go_ret
    exact ⟨by rw [HF.out]; rfl, D2⟩
  · have HF := Hid.intro hf
    clear hf
    go_wp2
    go_ret
    exact ⟨by rw [HF.out]; rfl, D2⟩


end Go.Proofs.YthhggjakenalpaaGreatDoor

/- Arrays of numbers held against one another. -/
namespace Go.Proofs.YthhggjakenalpaaGreatDoor
set_option maxRecDepth 100000
open Go.RowKit
open Bt

/-- Arrays of numbers, held against one another. -/
theorem run_equalIn_ints {P : Program} (w : World) (d : Nat) (t e : TypeId) (n : Nat) (ht : P.underlying t = some (.array n e)) (he : P.underlying e = some (.int .i64)) (hsz : ∀ w, (sizeOf e).run P w = .ok 1 w)
    (xs ys : List Int) (hx : xs.length = n) (hy : ys.length = n) :
    (Op.equalIn (d + 2) t (.agg (xs.map (Value.int .i64)).toArray) (.agg (ys.map (Value.int .i64)).toArray)).run P w = .ok ((List.range n).all fun i => xs.getD i 0 == ys.getD i 0) w := by
  rw [List.range_eq_range', Op.equalIn]
  simp only [Sem.run_bind, run_underlying ht, Result.andThen_ok, hsz, Std.Legacy.Range.forIn_eq_forIn_range', Std.Legacy.Range.size, Nat.sub_zero, Nat.add_sub_cancel, Nat.div_one]
  have hl : ∀ i ∈ List.range' 0 n 1, i < n := fun i hi => by simpa using (List.mem_range'_1.1 hi).2
  generalize List.range' 0 n 1 = l at hl ⊢
  induction l with
  | nil => simp
  | cons i l ih =>
    have hi : i < n := hl i (by simp)
    have px : (part e (xs.map (Value.int .i64)).toArray (i * 1)).run P w = .ok (.int .i64 (xs.getD i 0)) w := by
      simp [part, isAgg, run_underlying he, List.getD, List.getElem?_eq_getElem (show i < xs.length by omega)]
    have py : (part e (ys.map (Value.int .i64)).toArray (i * 1)).run P w = .ok (.int .i64 (ys.getD i 0)) w := by
      simp [part, isAgg, run_underlying he, List.getD, List.getElem?_eq_getElem (show i < ys.length by omega)]
    have pe : (Op.equalIn (d + 1) e (.int .i64 (xs.getD i 0)) (.int .i64 (ys.getD i 0))).run P w = .ok (xs.getD i 0 == ys.getD i 0) w := run_equalIn_int w d e .i64 .i64 _ _ he
    simp only [List.forIn_cons, Sem.run_bind, px, py, pe, Result.andThen_ok, List.all_cons]
    cases hb : (xs.getD i 0 == ys.getD i 0)
    · simp
    · simp only [Bool.not_true, Bool.false_eq_true, if_false, Sem.run_pure, Result.andThen_ok, Bool.true_and]
      exact ih fun j hj => hl j (by simp [hj])

end Go.Proofs.YthhggjakenalpaaGreatDoor


/- Contracts of package frame: which frames are the same. -/
namespace Go.Proofs.YthhggjakenalpaaGreatDoor
set_option maxRecDepth 100000
open Go.RowKit
open Bt

/-- Bytes as a text. -/
def strB (bs : List Nat) : ByteArray := ⟨(bs.map fun n => UInt8.ofNat n).toArray⟩

theorem conv_bytes {w : World} {a : Option Addr} {bs : List Nat} (h : Reads w a bs) (c : Nat) :
    (convert 42 9 (.slice a bs.length c)).run Tryz.prog w = .ok (.string (strB bs)) w := by
  rcases Nat.eq_zero_or_pos bs.length with h0 | h0
  · rw [h0]
    obtain rfl : bs = [] := List.eq_nil_of_length_eq_zero h0
    rw [run_convert_bytes_string w _ _ _ _ 0 c Tryz.underlying42 Tryz.underlying5 Tryz.underlying9]
    cases a <;> simp [Conv.bytesToString, loadCells]
    all_goals rfl
  · obtain ⟨b, off, rfl, hc⟩ := reads_at h h0
    have := run_convert_bytes_arg (P := Tryz.prog) w 42 5 Tryz.underlying42 Tryz.underlying5 b off bs.length c (bs.map fun (n : Nat) => (n : Int)) (by simp) (fun i hi => by
      rw [hc i hi]
      simp [List.getD, List.getElem?_eq_getElem hi]) 9 Tryz.underlying9
    rw [this]
    simp [strOfNums, strB]

theorem strB_eq {bs cs : List Nat} (hb : ∀ b ∈ bs, b < 256) (hc : ∀ b ∈ cs, b < 256) : ((strB bs).toList == (strB cs).toList) = decide (bs = cs) := by
  rw [ByteArray.toList_eq, ByteArray.toList_eq]
  have key : ∀ (l : List Nat), (∀ b ∈ l, b < 256) → (l.map fun n => UInt8.ofNat n).map UInt8.toNat = l := by
    intro l hl
    rw [List.map_map]
    conv => rhs; rw [← List.map_id l]
    apply List.map_congr_left
    intro x hx
    have := hl x hx
    simp
    omega
  rw [Bool.eq_iff_iff, beq_iff_eq, decide_eq_true_eq]
  constructor
  · intro h
    have h' : (bs.map fun n => UInt8.ofNat n) = (cs.map fun n => UInt8.ofNat n) := by simpa [strB] using h
    rw [← key bs hb, h', key cs hc]
  · rintro rfl; rfl

theorem eq6 (a0 a1 a2 a3 a4 a5 b0 b1 b2 b3 b4 b5 : Int) (w : World) :
    (Op.equalIn 10000 142 (.agg #[.int .i64 a0, .int .i64 a1, .int .i64 a2, .int .i64 a3, .int .i64 a4, .int .i64 a5]) (.agg #[.int .i64 b0, .int .i64 b1, .int .i64 b2, .int .i64 b3, .int .i64 b4, .int .i64 b5])).run Tryz.prog w
      = .ok (decide (a0 = b0 ∧ a1 = b1 ∧ a2 = b2 ∧ a3 = b3 ∧ a4 = b4 ∧ a5 = b5)) w := by
  have h := run_equalIn_ints (P := Tryz.prog) w 9998 142 3 6 Tryz.underlying142 Tryz.underlying3 (fun _ => by kernel_rfl) [a0, a1, a2, a3, a4, a5] [b0, b1, b2, b3, b4, b5] rfl rfl
  have e : ((List.range 6).all fun i => [a0, a1, a2, a3, a4, a5].getD i 0 == [b0, b1, b2, b3, b4, b5].getD i 0) = decide (a0 = b0 ∧ a1 = b1 ∧ a2 = b2 ∧ a3 = b3 ∧ a4 = b4 ∧ a5 = b5) := by
    rw [Bool.eq_iff_iff, decide_eq_true_eq, show List.range 6 = [0, 1, 2, 3, 4, 5] from rfl]
    simp [List.getD]
  rw [e] at h
  exact h

end Go.Proofs.YthhggjakenalpaaGreatDoor

/- Contracts of package bits: an eye. -/
namespace Go.Proofs.YthhggjakenalpaaGreatDoor
set_option maxRecDepth 100000
open Go.RowKit
open Bt

/-- An eye at block eb, its row at block g, that looks at the bytes bs and has read so many bits. -/
structure EyeAt (w : World) (eb g : Nat) (bs : List Nat) (pos : Nat) : Prop where
  here : w.heap[eb]? = some (.cells #[.slice (some ⟨g, 0, none⟩) bs.length bs.length, .int .i64 pos] 147 (0, 0))
  row : RowIs w g bs
  byte : ∀ b ∈ bs, b < 256
  pos_le : pos ≤ 8 * bs.length
  len : bs.length < 2 ^ 36

theorem EyeAt.apart {w : World} {eb g : Nat} {bs : List Nat} {pos : Nat} (h : EyeAt w eb g bs pos) : ¬ g = eb := by
  intro e
  subst e
  have := h.row
  unfold RowIs at this
  rw [h.here] at this
  simp at this

theorem EyeAt.lt {w : World} {eb g : Nat} {bs : List Nat} {pos : Nat} (h : EyeAt w eb g bs pos) : eb < w.heap.size := lt_of_heap h.here

theorem EyeAt.kept {S : Nat → Prop} {w w' : World} {eb g : Nat} {bs : List Nat} {pos : Nat} (h : EyeAt w eb g bs pos) (hc : Chg S w w') (h1 : ¬ S eb) (h2 : ¬ S g) : EyeAt w' eb g bs pos :=
  ⟨by rw [hc.block eb h.lt h1]; exact h.here, h.row.kept hc h2, h.byte, h.pos_le, h.len⟩

/-- A step's store. -/
theorem EyeAt.step {w : World} {eb g : Nat} {bs : List Nat} {pos : Nat} (h : EyeAt w eb g bs pos) (hlt : pos < 8 * bs.length) :
    EyeAt (w.setCell ⟨eb, 1, none⟩ (.int .i64 (pos + 1))) eb g bs (pos + 1) := by
  refine ⟨?_, ?_, h.byte, by omega, h.len⟩
  · rw [heap_setCell_same _ eb 1 _ _ _ h.here]; simp
  · unfold RowIs; rw [heap_setCell_other _ _ _ _ (by simpa using h.apart)]; exact h.row

theorem look_any (ao : Option Addr) (cap : Nat) (bs : List Nat) (hb : bs.length < 2 ^ 36) (h256 : ∀ b ∈ bs, b < 256) (w : World) (hr : Reads w ao bs) :
    Calls Tryz.prog 70 #[.slice ao bs.length cap] w fun e w' => ∃ eb g, e = .returned (.pointer (some ⟨eb, 0, none⟩)) ∧ w.heap.size ≤ g ∧ w.heap.size ≤ eb ∧ EyeAt w' eb g bs 0 ∧ Chg (fun _ => False) w w' := by
  have HR := Hid.intro hr
  clear hr
  go_enter Tryz.func70, Tryz.ntmps70
  go_wp2_with fail
  refine (copied_any ao cap bs (by omega) w HR.out).mono ?_
  rintro e w1 ⟨g, rfl, hg, hrow, hc⟩
  have H1 := Hid.intro hrow
  have H2 := Hid.intro hc
  clear hrow hc
  go_wp2
  go_ret
  refine ⟨w1.heap.size, g, rfl, hg, H2.out.size, ⟨heap_alloc_new _ _, ?_, h256, Nat.zero_le _, hb⟩, H2.out.alloc _⟩
  unfold RowIs; rw [Below.heap_alloc _ _ _ H1.out.lt]; exact H1.out

theorem left_nil (w : World) :
    Calls Tryz.prog 112 #[.pointer none] w fun e w' => e = .returned (.int .i64 0) ∧ w = w' := by
  go_enter Tryz.func112, Tryz.ntmps112
  go_wp2
  go_ret
  exact ⟨rfl, rfl⟩

theorem left_any (eb g : Nat) (bs : List Nat) (pos : Nat) (w : World) (h : EyeAt w eb g bs pos) :
    Calls Tryz.prog 112 #[.pointer (some ⟨eb, 0, none⟩)] w fun e w' => e = .returned (.int .i64 ((8 * bs.length - pos : Nat) : Int)) ∧ ∃ n, w' = w.drewN n := by
  have c0 : w.cell? ⟨eb, 0, none⟩ = some (.slice (some ⟨g, 0, none⟩) bs.length bs.length) := by rw [cell_of_row w eb 0 _ _ _ h.here]; rfl
  have c1 : w.cell? ⟨eb, 1, none⟩ = some (.int .i64 pos) := by rw [cell_of_row w eb 1 _ _ _ h.here]; rfl
  have hl := h.len
  have hp := h.pos_le
  clear h
  go_enter Tryz.func112, Tryz.ntmps112
  go_wp2_with fail
  go_quiet (fail)
  go_wp2
  go_ret
  exact ⟨ret_int (by omega), nq, rfl⟩

set_option maxRecDepth 100000 in
set_option maxHeartbeats 400000 in
theorem read_any (eb g n len : Nat) (b : Nat) (hb : b < 256) (hn : n < 2 ^ 40) (hm : n / 8 < len) (w : World)
    (c0 : w.cell? ⟨eb, 0, none⟩ = some (.slice (some ⟨g, 0, none⟩) len len)) (c1 : w.cell? ⟨eb, 1, none⟩ = some (.int .i64 n))
    (f1 : w.frozen? ⟨eb, 1, none⟩ = false) (cg : w.cell? ⟨g, ((n : Int) / 8).toNat, none⟩ = some (U b)) :
    Calls Tryz.prog 113 #[.pointer (some ⟨eb, 0, none⟩)] w fun e w' => e = .returned (.int .i64 ((b / 2 ^ (7 - n % 8) % 2 : Nat) : Int)) ∧ ∃ nq, w' = (w.drewN nq).setCell ⟨eb, 1, none⟩ (.int .i64 (n + 1)) := by
  have h8 : n % 8 < 8 := Nat.mod_lt _ (by decide)
  have i0 : (0 : Int) ≤ (n : Int) / 8 := by omega
  have i1 : (n : Int) / 8 < (len : Int) := by omega
  have hq : (n : Int).tdiv 8 = (n : Int) / 8 := Int.tdiv_eq_ediv_of_nonneg (by omega)
  have hq1 : IntKind.i64.wrap ((n : Int).tdiv 8) = (n : Int) / 8 := by rw [hq]; exact IntWalk.i64_in _ (by omega)
  have hq2 : IntKind.i64.wrap ((n : Int) / 8) = (n : Int) / 8 := by rw [← hq]; exact hq1
  go_enter Tryz.func113, Tryz.ntmps113
  go_wp2_with fail
  go_quiet ((go_at_call 150; exact Calls.quiet_of_same (shiftOf_any n (by omega) _)))
  go_wp2
  go_ret
  refine ⟨ret_int ?_, nq, rfl⟩
  rw [IntWalk.i64_in _ (by omega)]
  exact and_bit b _ (by omega)

theorem EyeAt.drewN {w : World} {eb g : Nat} {bs : List Nat} {pos : Nat} (h : EyeAt w eb g bs pos) (n : Nat) : EyeAt (w.drewN n) eb g bs pos :=
  ⟨h.here, h.row, h.byte, h.pos_le, h.len⟩

/-- An eye's step: the bit that it is at, which is behind it then. -/
theorem read_eye (eb g : Nat) (bs : List Nat) (pos : Nat) (hpos : pos < 8 * bs.length) (w : World) (h : EyeAt w eb g bs pos) :
    Calls Tryz.prog 113 #[.pointer (some ⟨eb, 0, none⟩)] w fun e w' => e = .returned (.int .i64 (((unpack bs).getD pos 0 : Nat) : Int)) ∧ EyeAt w' eb g bs (pos + 1) ∧ Chg (fun k => k = eb) w w' := by
  have hl := h.len
  have hx : ((pos : Int) / 8).toNat = pos / 8 := by omega
  have hin : pos / 8 < bs.length := by omega
  have hb := h.byte (bs[pos / 8]'hin) (List.getElem_mem hin)
  refine (read_any eb g pos bs.length (bs[pos / 8]'hin) hb (by omega) hin w ?_ ?_ ?_ ?_).mono ?_
  · rw [cell_of_row w eb 0 _ _ _ h.here]; rfl
  · rw [cell_of_row w eb 1 _ _ _ h.here]; rfl
  · exact frozen_of_row w eb 1 _ _ h.here
  · have := h.row
    unfold RowIs at this
    rw [hx, cell_of_row w g _ _ _ _ this]
    simp [hin]
  · rintro e w' ⟨rfl, nq, rfl⟩
    refine ⟨?_, ?_, ((Chg.refl (fun k => k = eb) w).drewN nq).setCell (fun _ => rfl) _⟩
    · rw [unpack_getD bs pos hpos, List.getD_eq_getElem?_getD, List.getElem?_eq_getElem hin]; rfl
    · exact (h.drewN nq).step hpos

theorem get_nil (w : World) :
    Calls Tryz.prog 71 #[.pointer none, .int .i64 1] w fun e w' => e = .returned (.tuple #[.int .i64 0, .bool false]) ∧ w = w' := by
  go_enter Tryz.func71, Tryz.ntmps71
  go_wp2_with (first | (go_at_call 111; refine (isWidth_any _ _).mono ?_; rintro e w' ⟨rfl, rfl⟩; rw [show isW 1 = true from rfl]) | (go_at_call 112; refine (left_nil _).mono ?_; rintro e w' ⟨rfl, rfl⟩))
  go_ret2
  exact ⟨rfl, rfl⟩

/-- What Get answers where it reads nothing. -/
theorem get_no (eb g : Nat) (bs : List Nat) (pos : Nat) (m : Int) (w : World) (h : EyeAt w eb g bs pos) (hm : isW m = false ∨ ((8 * bs.length - pos : Nat) : Int) < m) :
    Calls Tryz.prog 71 #[.pointer (some ⟨eb, 0, none⟩), .int .i64 m] w fun e w' => e = .returned (.tuple #[.int .i64 0, .bool false]) ∧ ∃ n, w' = w.drewN n := by
  cases hw : isW m with
  | false =>
    clear h hm
    go_enter Tryz.func71, Tryz.ntmps71
    go_wp2_with (go_at_call 111; refine (isWidth_any _ _).mono ?_; rintro e w' ⟨rfl, rfl⟩; rw [hw])
    go_ret2
    exact ⟨rfl, 0, rfl⟩
  | true =>
    have hlt : ((8 * bs.length - pos : Nat) : Int) < m := by
      rcases hm with hm | hm
      · rw [hw] at hm; cases hm
      · exact hm
    obtain ⟨L, hL⟩ : ∃ L : Nat, L = 8 * bs.length - pos := ⟨_, rfl⟩
    have hl := left_any eb g bs pos w h
    rw [← hL] at hlt hl
    have HL := Hid.intro hl
    clear hl h hm hL
    go_enter Tryz.func71, Tryz.ntmps71
    go_wp2_with (first | (go_at_call 111; refine (isWidth_any _ _).mono ?_; rintro e w' ⟨rfl, rfl⟩; rw [hw]) | (go_at_call 112; refine (HL.out).mono ?_; rintro e w' ⟨rfl, n, rfl⟩))
    go_ret2
    exact ⟨rfl, n, rfl⟩

set_option maxHeartbeats 400000 in
/-- What Get answers where it reads. -/
theorem get_yes (eb g : Nat) (bs : List Nat) (pos m : Nat) (w : World) (h : EyeAt w eb g bs pos) (hm1 : 1 ≤ m) (hm2 : m ≤ 32) (hm : m ≤ 8 * bs.length - pos) :
    Calls Tryz.prog 71 #[.pointer (some ⟨eb, 0, none⟩), .int .i64 m] w fun e w' => e = .returned (.tuple #[.int .i64 ((num (((unpack bs).drop pos).take m) : Nat) : Int), .bool true]) ∧
      EyeAt w' eb g bs (pos + m) ∧ Chg (fun k => k = eb) w w' := by
  have hw : isW m = true := by simp [isW]; omega
  have hmf : ∀ (fn : Fn) (first cap : Array Value) (w : World), (Instr.makeFunc fn first cap).run Tryz.prog w = .ok (.func fn first cap) w := fun _ _ _ _ => rfl
  obtain ⟨L, hL⟩ : ∃ L : Nat, L = 8 * bs.length - pos := ⟨_, rfl⟩
  have hl := left_any eb g bs pos w h
  rw [← hL] at hm hl
  have HL := Hid.intro hl
  have HE := Hid.intro h
  have hpl := h.pos_le
  have HLL := Hid.intro hL
  have hdec : decide (L < m) = false := by simp; omega
  clear hl h hL
  go_enter Tryz.func71, Tryz.ntmps71
  go_wp2_with (first | (go_at_call 111; refine (isWidth_any _ _).mono ?_; rintro e w' ⟨rfl, rfl⟩; rw [hw]) | (go_at_call 112; refine (HL.out).mono ?_; rintro e w' ⟨rfl, n, rfl⟩))
  go_loopw [7, 20] (fun a i wr => ∃ k : Nat, k ≤ m ∧ i = .int .i64 k ∧ a = .int .i64 ((num (((unpack bs).drop pos).take k) : Nat) : Int) ∧ EyeAt wr eb g bs (pos + k) ∧ Chg (fun k => k = eb) w wr)
    (fun _ i _ => m - (intOf i).toNat)
  case atStart => exact ⟨0, by omega, rfl, rfl, HE.out.drewN _, (Chg.refl _ _).drewN _⟩
  case round =>
    obtain ⟨k, hk, rfl, rfl, hek, hck⟩ := hrel
    have HEK := Hid.intro hek
    have HCK := Hid.intro hck
    clear hek hck
    by_cases hlt : k < m
    · have hps : pos + k < 8 * bs.length := by have := HLL.out; omega
      have hst := num_take_succ (unpack bs) pos k (by rw [unpack_length]; exact hps)
      have hNlt := num_take_lt (unpack bs) (unpack_bits bs) pos k (by omega)
      have hbl := getD_bit (unpack bs) (unpack_bits bs) (pos + k)
      generalize num (((unpack bs).drop pos).take k) = N at hst hNlt ⊢
      have hrd := read_eye eb g bs (pos + k) hps wr HEK.out
      generalize (unpack bs).getD (pos + k) 0 = b at hst hbl hrd
      have HRD := Hid.intro hrd
      have hor : bits .or .i64 ((N : Int) * 2) (b : Int) = ((2 * N + b : Nat) : Int) := by
        rw [show (N : Int) * 2 = ((2 * N : Nat) : Int) from by omega]; exact or_bit N b (by omega) hbl
      have HOR := Hid.intro hor
      clear hrd hor
      have HST := Hid.intro hst
      clear hst
      go_wp2_with fail
      refine HRD.out.mono ?_
      rintro e w1 ⟨rfl, he1, hc1⟩
      have E1 := Hid.intro he1
      have C1 := Hid.intro hc1
      clear he1 hc1 HRD
      go_wp2
      go_roundw
      case rel => exact ⟨k + 1, by omega, by go_num, by rw [HOR.out, HST.out], E1.out, HCK.out.trans C1.out (fun i hi _ => hi)⟩
      case measure => simp [intOf]; omega
    · go_wp2
      go_ret2
      have e : k = m := by omega
      subst e
      exact ⟨rfl, HEK.out, HCK.out⟩

/-- Does Get read? -/
def getOk (bs : List Nat) (pos : Nat) (m : Int) : Bool := isW m && decide (m ≤ ((8 * bs.length - pos : Nat) : Int))

/-- The number that Get answers. -/
def getN (bs : List Nat) (pos : Nat) (m : Int) : Nat := if getOk bs pos m = true then num (((unpack bs).drop pos).take m.toNat) else 0

/-- Where the eye is behind Get. -/
def getP (bs : List Nat) (pos : Nat) (m : Int) : Nat := if getOk bs pos m = true then pos + m.toNat else pos

/-- Get, whatever it is handed. -/
theorem get_any (eb g : Nat) (bs : List Nat) (pos : Nat) (m : Int) (w : World) (h : EyeAt w eb g bs pos) :
    Calls Tryz.prog 71 #[.pointer (some ⟨eb, 0, none⟩), .int .i64 m] w fun e w' => e = .returned (.tuple #[.int .i64 ((getN bs pos m : Nat) : Int), .bool (getOk bs pos m)]) ∧
      EyeAt w' eb g bs (getP bs pos m) ∧ Chg (fun k => k = eb) w w' := by
  cases hok : getOk bs pos m with
  | false =>
    refine (get_no eb g bs pos m w h ?_).mono ?_
    · simp [getOk] at hok
      cases hw : isW m with
      | false => exact .inl rfl
      | true => right; exact hok hw
    · rintro e w' ⟨rfl, n, rfl⟩
      simp only [getN, getP, hok, Bool.false_eq_true, if_false]
      exact ⟨rfl, h.drewN n, (Chg.refl _ _).drewN n⟩
  | true =>
    have hok' := hok
    simp only [getOk, Bool.and_eq_true, decide_eq_true_eq] at hok'
    have hw := isW_true hok'.1
    obtain ⟨M, rfl⟩ := Int.eq_ofNat_of_zero_le (show 0 ≤ m by omega)
    refine (get_yes eb g bs pos M w h (by omega) (by omega) (by omega)).mono ?_
    rintro e w' ⟨rfl, h1, h2⟩
    simp only [getN, getP, hok, if_true, Int.toNat_natCast]
    exact ⟨trivial, h1, h2⟩

/-- A pen and an eye have no block in common that Get writes. -/
theorem eye_pen {w : World} {eb g : Nat} {bs : List Nat} {pos pb : Nat} {v : Value} {l : List Nat} (E : EyeAt w eb g bs pos) (P : PenAt w pb v l) : ∀ k, penFoot pb v k → ¬ k = eb := by
  intro k hk e
  rcases hk with hk | hk
  · have h1 := P.here
    rw [← hk, e, E.here] at h1
    simp at h1
  · exact row_not_block P.row E.here (by decide) (by rw [hk, e])

end Go.Proofs.YthhggjakenalpaaGreatDoor


/- Package frame: the head of a frame, as a pen writes it. -/
namespace Go.Proofs.YthhggjakenalpaaGreatDoor
set_option maxRecDepth 100000
open Go.RowKit
open Bt

end Go.Proofs.YthhggjakenalpaaGreatDoor


/- Package frame: putHead. -/
namespace Go.Proofs.YthhggjakenalpaaGreatDoor
set_option maxRecDepth 100000
open Go.RowKit
open Bt

end Go.Proofs.YthhggjakenalpaaGreatDoor

/- Contracts of package crc: which bit comes, a step, a number's bytes and the number of bytes. -/
namespace Go.Proofs.YthhggjakenalpaaGreatDoor
set_option maxRecDepth 100000
open Go.RowKit
open Bt

theorem ofInt_u32 (a : Nat) (ha : a < 2 ^ 32) : (BitVec.ofInt 32 (a : Int)).toNat = a := by
  rw [BitVec.ofInt_natCast, BitVec.toNat_ofNat]; exact Nat.mod_eq_of_lt (by omega)

theorem u32_and_nat (a b : Nat) (ha : a < 2 ^ 32) (hb : b < 2 ^ 32) : bits .and .u32 (a : Int) (b : Int) = ((a &&& b : Nat) : Int) := by
  have hx : a &&& b < 2 ^ 32 := Nat.and_lt_two_pow _ hb
  show IntKind.u32.wrap ((BitVec.ofInt 32 (a : Int) &&& BitVec.ofInt 32 (b : Int)).toNat : Int) = _
  rw [BitVec.toNat_and, ofInt_u32 a ha, ofInt_u32 b hb]
  exact IntWalk.u32_in _ (by omega)

theorem u32_or_nat (a b : Nat) (ha : a < 2 ^ 32) (hb : b < 2 ^ 32) : bits .or .u32 (a : Int) (b : Int) = ((a ||| b : Nat) : Int) := by
  have hx : a ||| b < 2 ^ 32 := Nat.or_lt_two_pow ha hb
  show IntKind.u32.wrap ((BitVec.ofInt 32 (a : Int) ||| BitVec.ofInt 32 (b : Int)).toNat : Int) = _
  rw [BitVec.toNat_or, ofInt_u32 a ha, ofInt_u32 b hb]
  exact IntWalk.u32_in _ (by omega)

theorem u32_xor_nat (a b : Nat) (ha : a < 2 ^ 32) (hb : b < 2 ^ 32) : bits .xor .u32 (a : Int) (b : Int) = ((a ^^^ b : Nat) : Int) := by
  have hx : a ^^^ b < 2 ^ 32 := Nat.xor_lt_two_pow ha hb
  show IntKind.u32.wrap ((BitVec.ofInt 32 (a : Int) ^^^ BitVec.ofInt 32 (b : Int)).toNat : Int) = _
  rw [BitVec.toNat_xor, ofInt_u32 a ha, ofInt_u32 b hb]
  exact IntWalk.u32_in _ (by omega)

/-- A shifted number's last bit. -/
theorem u32_bit (n j : Nat) (hn : n < 2 ^ 32) : bits .and .u32 ((n : Int) / 2 ^ j) 1 = ((n / 2 ^ j % 2 : Nat) : Int) := by
  have e : ((n : Int) / 2 ^ j) = ((n / 2 ^ j : Nat) : Int) := by simp
  have hlt : n / 2 ^ j < 2 ^ 32 := Nat.lt_of_le_of_lt (Nat.div_le_self _ _) hn
  have h := u32_and_nat (n / 2 ^ j) 1 hlt (by decide)
  rw [Nat.and_one_is_mod] at h
  rw [e]; exact h

theorem lowest_any (b t : Nat) (hb : b < 256) (ht : t < 8) (w : World) :
    Calls Tryz.prog 162 #[U b, .int .i64 t] w fun e w' => e = .returned (.int .u32 ((b / 2 ^ t % 2 : Nat) : Int)) ∧ w = w' := by
  go_enter Tryz.func162, Tryz.ntmps162
  go_wp2
  go_ret
  exact ⟨ret_int (u32_bit b t (by omega)), rfl⟩

theorem highest_any (b t : Nat) (hb : b < 256) (ht : t < 8) (w : World) :
    Calls Tryz.prog 160 #[U b, .int .i64 t] w fun e w' => e = .returned (.int .u32 ((b / 2 ^ (7 - t) % 2 : Nat) : Int)) ∧ w = w' := by
  have e7 : (7 : Int) - t = ((7 - t : Nat) : Int) := by omega
  go_enter Tryz.func160, Tryz.ntmps160
  go_wp2_with fail
  refine (lowest_any b (7 - t) hb (by omega) w).mono ?_
  rintro e w' ⟨rfl, rfl⟩
  go_wp2
  go_ret
  exact ⟨rfl, rfl⟩

theorem asItIs_any (s : Int) (w : World) :
    Calls Tryz.prog 161 #[.int .u32 s] w fun e w' => e = .returned (.int .u32 s) ∧ w = w' := by
  go_enter Tryz.func161, Tryz.ntmps161
  go_wp2
  go_ret
  exact ⟨rfl, rfl⟩

theorem sw_int (k M s : Nat) (hs : s < 4294967296) (hM : M < 4294967296) : bits .or .u32 (bits .and .u32 ((s : Int) / ((2 ^ k : Nat) : Int)) (M : Int)) (bits .and .u32 (s : Int) (M : Int) * ((2 ^ k : Nat) : Int) % 4294967296) = ((sw k M s : Nat) : Int) := by
  have h1 : s / 2 ^ k < 4294967296 := Nat.lt_of_le_of_lt (Nat.div_le_self _ _) hs
  have h2 : s / 2 ^ k &&& M < 4294967296 := Nat.and_lt_two_pow (n := 32) _ hM
  rw [← Int.natCast_ediv, u32_and_nat _ _ h1 hM, u32_and_nat _ _ hs hM, ← Int.natCast_mul, show (4294967296 : Int) = ((4294967296 : Nat) : Int) from rfl, ← Int.natCast_emod, u32_or_nat _ _ h2 (Nat.mod_lt _ (by decide))]
  rfl

theorem sw1 (s : Nat) (hs : s < 4294967296) : bits .or .u32 (bits .and .u32 ((s : Int) / 2) 1431655765) (bits .and .u32 (s : Int) 1431655765 * 2 % 4294967296) = ((sw 1 1431655765 s : Nat) : Int) := sw_int 1 1431655765 s hs (by decide)
theorem sw2 (s : Nat) (hs : s < 4294967296) : bits .or .u32 (bits .and .u32 ((s : Int) / 4) 858993459) (bits .and .u32 (s : Int) 858993459 * 4 % 4294967296) = ((sw 2 858993459 s : Nat) : Int) := sw_int 2 858993459 s hs (by decide)
theorem sw4 (s : Nat) (hs : s < 4294967296) : bits .or .u32 (bits .and .u32 ((s : Int) / 16) 252645135) (bits .and .u32 (s : Int) 252645135 * 16 % 4294967296) = ((sw 4 252645135 s : Nat) : Int) := sw_int 4 252645135 s hs (by decide)
theorem sw8 (s : Nat) (hs : s < 4294967296) : bits .or .u32 (bits .and .u32 ((s : Int) / 256) 16711935) (bits .and .u32 (s : Int) 16711935 * 256 % 4294967296) = ((sw 8 16711935 s : Nat) : Int) := sw_int 8 16711935 s hs (by decide)

theorem halves_int (s : Nat) (hs : s < 4294967296) : bits .or .u32 ((s : Int) / 65536) ((s : Int) * 65536 % 4294967296) = ((halves s : Nat) : Int) := by
  have h := u32_or_nat (s / 65536) (s * 65536 % 4294967296) (by omega) (Nat.mod_lt _ (by decide))
  exact h

theorem revBytes_any (s : Nat) (hs : s < 4294967296) (w : World) :
    Calls Tryz.prog 173 #[.int .u32 s] w fun e w' => e = .returned (.int .u32 ((halves (sw 8 16711935 s) : Nat) : Int)) ∧ w = w' := by
  go_enter Tryz.func173, Tryz.ntmps173
  go_wp2
  go_ret
  refine ⟨ret_int ?_, rfl⟩
  rw [sw8 s hs]
  exact halves_int _ (sw_lt _ _ _ (by decide))

theorem rev_any (s : Nat) (hs : s < 4294967296) (w : World) :
    Calls Tryz.prog 169 #[.int .u32 s] w fun e w' => e = .returned (.int .u32 ((rev32 s : Nat) : Int)) ∧ w = w' := by
  go_enter Tryz.func169, Tryz.ntmps169
  go_wp2_with fail
  rw [sw1 s hs, sw2 _ (sw_lt _ _ _ (by decide)), sw4 _ (sw_lt _ _ _ (by decide))]
  refine (revBytes_any _ (sw_lt _ _ _ (by decide)) w).mono ?_
  rintro e w' ⟨rfl, rfl⟩
  go_wp2
  go_ret
  exact ⟨rfl, rfl⟩

theorem xor_max (R : Nat) (h : R < 4294967296) : bits .xor .u32 IntKind.u32.max (R : Int) = ((4294967295 - R : Nat) : Int) := by
  have e : (4294967295 : Nat) ^^^ R = 4294967295 - R := by
    have h1 := congrArg BitVec.toNat (BitVec.allOnes_xor (x := BitVec.ofNat 32 R))
    rw [BitVec.toNat_xor, BitVec.toNat_not, BitVec.toNat_ofNat, Nat.mod_eq_of_lt (by omega), BitVec.toNat_allOnes] at h1
    simpa using h1
  rw [← e, show IntKind.u32.max = ((4294967295 : Nat) : Int) from rfl, u32_xor_nat _ _ (by decide) h]

theorem mirrored_any (s : Nat) (hs : s < 4294967296) (w : World) :
    Calls Tryz.prog 163 #[.int .u32 s] w fun e w' => e = .returned (.int .u32 ((turned s : Nat) : Int)) ∧ w = w' := by
  have hr := rev32_lt s
  have ht := turned_rev s
  generalize turned s = T at ht ⊢
  go_enter Tryz.func163, Tryz.ntmps163
  go_wp2_with fail
  refine (rev_any s hs w).mono ?_
  rintro e w' ⟨rfl, rfl⟩
  generalize rev32 s = R at hr ht ⊢
  go_wp2
  go_ret
  exact ⟨ret_int (xor_max R hr), rfl⟩

/-- A function as a value. -/
abbrev Fv (f : Nat) : Value := .func (.func f) #[] #[]

def wayCells : Array Value := #[.int .i64 16, .int .u32 4129, .int .u32 65535, Fv 160, Fv 161, .int .i64 32, .int .u32 79764919, .int .u32 4294967295, Fv 162, Fv 163]

theorem ways_any (w : World) :
    Calls Tryz.prog 138 #[] w fun e w' => e = .returned (.agg wayCells) ∧ Below w.heap.size w w' := by
  go_enter Tryz.func138, Tryz.ntmps138
  go_wp2
  (try simp only [Exit.inBlock, Exit.then])
  refine bodyPost_ret (results_cell_row rfl _ _ w.heap.size 176 wayCells (0, 0) _ rfl (heap_alloc_new _ _) Tryz.underlying176 rfl (by kernel_rfl)) rfl ?_
  exact ⟨rfl, (Below.refl _ w).alloc (Nat.le_refl _) _⟩

theorem step_and (n s : Nat) (hn : n < 32) : bits .and .u32 ((s : Int) * 2 % 4294967296) ((2 ^ (n + 1) - 1) % 4294967296) = ((2 * s % 2 ^ (n + 1) : Nat) : Int) := by
  have hp : 0 < 2 ^ (n + 1) := Nat.pow_pos (by decide)
  have hle : 2 ^ (n + 1) ≤ 2 ^ 32 := Nat.pow_le_pow_right (by decide) (by omega)
  have h := u32_and_nat (2 * s % 4294967296) (2 ^ (n + 1) - 1) (Nat.mod_lt _ (by decide)) (by omega)
  rw [and_low n s hn] at h
  rw [← h]
  congr 1
  · rw [Int.natCast_emod, Int.natCast_mul, Int.mul_comm]; rfl
  · have e : (2 : Int) ^ (n + 1) = ((2 ^ (n + 1) : Nat) : Int) := by simp
    rw [e]
    omega

theorem step_xor (n s b : Nat) (hs : s < 2 ^ (n + 1)) (hb : b < 2) : bits .xor .u32 (b : Int) ((s : Int) / 2 ^ n) = ((b ^^^ s / 2 ^ n : Nat) : Int) := by
  have hp : 0 < 2 ^ n := Nat.pow_pos (by decide)
  have hq : s / 2 ^ n < 2 := by rw [Nat.div_lt_iff_lt_mul hp]; rw [Nat.pow_succ] at hs; omega
  rw [← u32_xor_nat b (s / 2 ^ n) (by omega) (by omega)]
  simp

theorem step_any (pb n P : Nat) (s b : Nat) (F f g : Value) (hn : n < 32) (hs : s < 2 ^ (n + 1)) (hP : P < 2 ^ (n + 1)) (hb : b < 2) (w : World)
    (hw : w.heap[pb]? = some (.cells #[.int .i64 ((n + 1 : Nat) : Int), .int .u32 P, F, f, g] 175 (0, 0))) :
    Calls Tryz.prog 139 #[.pointer (some ⟨pb, 0, none⟩), .int .u32 s, .int .u32 b] w fun e w' => e = .returned (.int .u32 ((stp n P s b : Nat) : Int)) ∧ w = w' := by
  have c0 : w.cell? ⟨pb, 0, none⟩ = some (.int .i64 ((n + 1 : Nat) : Int)) := by rw [cell_of_row _ _ _ _ _ _ hw]; rfl
  have c1 : w.cell? ⟨pb, 1, none⟩ = some (.int .u32 P) := by rw [cell_of_row _ _ _ _ _ _ hw]; rfl
  clear hw
  have E := Hid.intro (stp_eq n P s b hs hb)
  generalize stp n P s b = T at E ⊢
  have X := step_xor n s b hs hb
  have hle : 2 ^ (n + 1) ≤ 2 ^ 32 := Nat.pow_le_pow_right (by decide) (by omega)
  have hm : 2 * s % 2 ^ (n + 1) < 2 ^ (n + 1) := Nat.mod_lt _ (Nat.pow_pos (by decide))
  by_cases h : b ^^^ s / 2 ^ n = 1
  · have hx : (bits .xor .u32 (b : Int) ((s : Int) / 2 ^ n) == 1) = true := by rw [X, h]; rfl
    have E' := E.out
    rw [if_pos h] at E'
    have A := step_and n s hn
    have HM := Hid.intro (And.intro hm hle)
    have HE := Hid.intro E'
    have HA := Hid.intro A
    clear X E E' h hm hle A hs
    go_enter Tryz.func139, Tryz.ntmps139
    go_wp2
    go_ret
    refine ⟨ret_int ?_, rfl⟩
    rw [HA.out, u32_xor_nat _ _ (by have := HM.out; omega) (by have := HM.out; omega), HE.out]
  · have hx : (bits .xor .u32 (b : Int) ((s : Int) / 2 ^ n) == 1) = false := by
      rw [X]
      simp only [beq_eq_false_iff_ne, ne_eq]
      intro e
      exact h (by exact_mod_cast e)
    have E' := E.out
    rw [if_neg h] at E'
    have HE := Hid.intro E'
    have HA := Hid.intro (step_and n s hn)
    clear X E E' h hm hle hs
    go_enter Tryz.func139, Tryz.ntmps139
    go_wp2
    go_ret
    exact ⟨ret_int (by rw [HA.out, HE.out]), rfl⟩

end Go.Proofs.YthhggjakenalpaaGreatDoor

/- Contracts of package crc's sums: Short is the document's CRC-16 as a plain number, Long the CRC-32. -/
namespace Go.Proofs.YthhggjakenalpaaGreatDoor
set_option maxRecDepth 100000
open Go.RowKit
open Bt

theorem run_snoc (n P s : Nat) (l : List Nat) (b : Nat) : run n P s (l ++ [b]) = stp n P (run n P s l) b := by rw [run_append]; rfl

theorem fld8_take (x t : Nat) (h : t < 8) : (fld 8 x).take (t + 1) = (fld 8 x).take t ++ [x / 2 ^ (7 - t) % 2] := by
  have hl : t < (fld 8 x).length := by rw [fld_length]; exact h
  have e := fld_getD 8 x t h
  rw [List.getD_eq_getElem?_getD, List.getElem?_eq_getElem hl, Option.getD_some] at e
  rw [take_snoc _ _ hl, e]

theorem fld8_back (x t : Nat) (h : t < 8) : (fld 8 x).reverse.take (t + 1) = (fld 8 x).reverse.take t ++ [x / 2 ^ t % 2] := by
  have hl : t < (fld 8 x).reverse.length := by rw [List.length_reverse, fld_length]; exact h
  have e := fld_getD 8 x (8 - 1 - t) (by omega)
  rw [List.getD_eq_getElem?_getD, List.getElem?_eq_getElem (by rw [fld_length]; omega), Option.getD_some] at e
  rw [take_snoc _ _ hl, List.getElem_reverse]
  simp only [fld_length]
  rw [e, show 8 - 1 - (8 - 1 - t) = t from by omega]

theorem drew_heap (w : World) (m : Nat) : (w.drewN m).heap = w.heap := rfl

theorem ways_at0 : ∀ w, (Instr.index 176 (.agg wayCells) (.int .i64 0)).run Tryz.prog w = .ok (.agg #[.int .i64 16, .int .u32 4129, .int .u32 65535, Fv 160, Fv 161]) w := by
  intro w
  kernel_rfl

theorem ways_at1 : ∀ w, (Instr.index 176 (.agg wayCells) (.int .i64 1)).run Tryz.prog w = .ok (.agg #[.int .i64 32, .int .u32 79764919, .int .u32 4294967295, Fv 162, Fv 163]) w := by
  intro w
  kernel_rfl

set_option maxHeartbeats 1000000 in
theorem sum_short (a : Option Addr) (cap : Nat) (bs : List Nat) (hl : bs.length < 2 ^ 62) (h256 : ∀ b ∈ bs, b < 256) (w : World) (hr : Reads w a bs) :
    Calls Tryz.prog 102 #[.int .i64 0, .slice a bs.length cap] w fun e w' => e = .returned (.int .i64 ((crc16 bs : Nat) : Int)) ∧ Below w.heap.size w w' := by
  have HR := Hid.intro hr
  have H256 := Hid.intro h256
  clear hr h256
  have i0 := ways_at0
  obtain ⟨R, hR⟩ : ∃ R, R = crc16 bs := ⟨_, rfl⟩
  rw [← hR]
  have HRR := Hid.intro hR
  clear hR
  go_enter Tryz.func102, Tryz.ntmps102
  go_wp2_with fail
  refine (ways_any w).mono ?_
  rintro e w1 ⟨rfl, B1⟩
  go_wp2_with fail
  clear i0
  have WA := heap_alloc_new w1 (.cells #[.int .i64 16, .int .u32 4129, .int .u32 65535, Fv 160, Fv 161] 175)
  have B2 := B1.alloc B1.size (.cells #[.int .i64 16, .int .u32 4129, .int .u32 65535, Fv 160, Fv 161] 175)
  generalize w1.alloc (.cells #[.int .i64 16, .int .u32 4129, .int .u32 65535, Fv 160, Fv 161] 175) = w2 at WA B2 ⊢
  generalize w1.heap.size = pb at WA ⊢
  have c3 : w2.cell? ⟨pb, 3, none⟩ = some (Fv 160) := by rw [cell_of_row _ _ _ _ _ _ WA]; rfl
  have c4 : w2.cell? ⟨pb, 4, none⟩ = some (Fv 161) := by rw [cell_of_row _ _ _ _ _ _ WA]; rfl
  have WAH := Hid.intro WA
  have B2H := Hid.intro B2
  clear WA B2 B1
  go_loop [6, 17] (fun s c => ∃ k : Nat, k ≤ bs.length ∧ c = .int .i64 k ∧ s = .int .u32 ((run 15 4129 65535 (unpack (bs.take k)) : Nat) : Int)) (fun _ c => bs.length - (intOf c).toNat)
  case atStart => exact ⟨0, by omega, rfl, rfl⟩
  case round =>
    obtain ⟨k, hk, rfl, rfl⟩ := hrel
    by_cases hlt : k < bs.length
    · obtain ⟨bb, off, rfl, hc⟩ := reads_at HR.out (by omega)
      have cl := hc k hlt
      have c := (B2H.out.cell (cell_lt cl)).trans cl
      have hb := H256.out bs[k] (List.getElem_mem hlt)
      have ts : unpack (bs.take (k + 1)) = unpack (bs.take k) ++ fld 8 bs[k] := unpack_take_succ bs k hlt
      generalize bs[k] = x at c hb ts
      have hS := run_lt (n := 15) (P := 4129) (by decide) 65535 (by decide) (unpack (bs.take k))
      have hn : run 15 4129 65535 (unpack (bs.take (k + 1))) = run 15 4129 (run 15 4129 65535 (unpack (bs.take k))) (fld 8 x) := by rw [ts, run_append]
      generalize run 15 4129 65535 (unpack (bs.take k)) = S at hS hn ⊢
      have HN := Hid.intro hn
      clear hn ts cl hc
      have j1 : (0 : Int) ≤ (k : Int) := by omega
      have j2 : (k : Int) < (bs.length : Int) := by omega
      go_wp2_with fail
      go_loop [6, 21] (fun s c => ∃ t : Nat, t ≤ 8 ∧ c = .int .i64 t ∧ s = .int .u32 ((run 15 4129 S ((fld 8 x).take t) : Nat) : Int)) (fun _ c => 8 - (intOf c).toNat)
      case atStart => exact ⟨0, by omega, rfl, rfl⟩
      case round =>
        obtain ⟨t, ht, rfl, rfl⟩ := hrel
        by_cases htl : t < 8
        · have hT := run_lt (n := 15) (P := 4129) (by decide) S hS ((fld 8 x).take t)
          have hs2 := run_snoc 15 4129 S ((fld 8 x).take t) (x / 2 ^ (7 - t) % 2)
          rw [← fld8_take x t htl] at hs2
          generalize run 15 4129 S ((fld 8 x).take t) = T at hT hs2 ⊢
          have HS2 := Hid.intro hs2
          clear hs2
          go_wp2_with fail
          refine (highest_any x t hb htl w2).mono ?_
          rintro e w' ⟨rfl, rfl⟩
          have hbit : x / 2 ^ (7 - t) % 2 < 2 := Nat.mod_lt _ (by decide)
          generalize x / 2 ^ (7 - t) % 2 = y at hbit HS2 ⊢
          go_wp2_with fail
          refine (step_any pb 15 4129 T y _ _ _ (by decide) hT (by decide) hbit w2 WAH.out).mono ?_
          rintro e w' ⟨rfl, rfl⟩
          rw [← HS2.out]
          obtain ⟨V, hV⟩ : ∃ V, V = run 15 4129 S ((fld 8 x).take (t + 1)) := ⟨_, rfl⟩
          rw [← hV]
          have HV := Hid.intro hV
          clear hV
          go_wp2
          go_round
          case rel => exact ⟨t + 1, by omega, by go_num, by rw [HV.out]⟩
          case measure => simp [intOf]; omega
        · have hte : t = 8 := by omega
          subst hte
          rw [List.take_of_length_le (by simp [fld_length]), ← HN.out]
          obtain ⟨V, hV⟩ : ∃ V, V = run 15 4129 65535 (unpack (bs.take (k + 1))) := ⟨_, rfl⟩
          rw [← hV]
          have HV := Hid.intro hV
          clear hV
          go_wp2
          go_round
          case rel => exact ⟨k + 1, by omega, by go_num, by rw [HV.out]⟩
          case measure => simp [intOf]; omega
    · have hke : k = bs.length := by omega
      subst hke
      rw [List.take_length]
      have e := HRR.out
      unfold crc16 at e
      rw [← e]
      have hlt := crc16_lt bs
      rw [← HRR.out] at hlt
      clear e HRR
      go_wp2_with fail
      refine (asItIs_any _ w2).mono ?_
      rintro e w' ⟨rfl, rfl⟩
      go_wp2
      go_ret
      exact ⟨rfl, B2H.out⟩

set_option maxHeartbeats 1000000 in
theorem sum_long (a : Option Addr) (cap : Nat) (bs : List Nat) (hl : bs.length < 2 ^ 62) (h256 : ∀ b ∈ bs, b < 256) (w : World) (hr : Reads w a bs) :
    Calls Tryz.prog 102 #[.int .i64 1, .slice a bs.length cap] w fun e w' => e = .returned (.int .i64 ((crc32 bs : Nat) : Int)) ∧ Below w.heap.size w w' := by
  have HR := Hid.intro hr
  have H256 := Hid.intro h256
  clear hr h256
  have i0 := ways_at1
  obtain ⟨R, hR⟩ : ∃ R, R = crc32 bs := ⟨_, rfl⟩
  rw [← hR]
  have HRR := Hid.intro hR
  clear hR
  go_enter Tryz.func102, Tryz.ntmps102
  go_wp2_with fail
  refine (ways_any w).mono ?_
  rintro e w1 ⟨rfl, B1⟩
  go_wp2_with fail
  clear i0
  have WA := heap_alloc_new w1 (.cells #[.int .i64 32, .int .u32 79764919, .int .u32 4294967295, Fv 162, Fv 163] 175)
  have B2 := B1.alloc B1.size (.cells #[.int .i64 32, .int .u32 79764919, .int .u32 4294967295, Fv 162, Fv 163] 175)
  generalize w1.alloc (.cells #[.int .i64 32, .int .u32 79764919, .int .u32 4294967295, Fv 162, Fv 163] 175) = w2 at WA B2 ⊢
  generalize w1.heap.size = pb at WA ⊢
  have c3 : w2.cell? ⟨pb, 3, none⟩ = some (Fv 162) := by rw [cell_of_row _ _ _ _ _ _ WA]; rfl
  have c4 : w2.cell? ⟨pb, 4, none⟩ = some (Fv 163) := by rw [cell_of_row _ _ _ _ _ _ WA]; rfl
  have WAH := Hid.intro WA
  have B2H := Hid.intro B2
  clear WA B2 B1
  go_loop [6, 17] (fun s c => ∃ k : Nat, k ≤ bs.length ∧ c = .int .i64 k ∧ s = .int .u32 ((run 31 79764919 4294967295 (lows (bs.take k)) : Nat) : Int)) (fun _ c => bs.length - (intOf c).toNat)
  case atStart => exact ⟨0, by omega, rfl, rfl⟩
  case round =>
    obtain ⟨k, hk, rfl, rfl⟩ := hrel
    by_cases hlt : k < bs.length
    · obtain ⟨bb, off, rfl, hc⟩ := reads_at HR.out (by omega)
      have cl := hc k hlt
      have c := (B2H.out.cell (cell_lt cl)).trans cl
      have hb := H256.out bs[k] (List.getElem_mem hlt)
      have ts : lows (bs.take (k + 1)) = lows (bs.take k) ++ (fld 8 bs[k]).reverse := by rw [take_snoc bs k hlt, lows_snoc]
      generalize bs[k] = x at c hb ts
      have hS := run_lt (n := 31) (P := 79764919) (by decide) 4294967295 (by decide) (lows (bs.take k))
      have hn : run 31 79764919 4294967295 (lows (bs.take (k + 1))) = run 31 79764919 (run 31 79764919 4294967295 (lows (bs.take k))) ((fld 8 x).reverse) := by rw [ts, run_append]
      generalize run 31 79764919 4294967295 (lows (bs.take k)) = S at hS hn ⊢
      have HN := Hid.intro hn
      clear hn ts cl hc
      have j1 : (0 : Int) ≤ (k : Int) := by omega
      have j2 : (k : Int) < (bs.length : Int) := by omega
      go_wp2_with fail
      go_loop [6, 21] (fun s c => ∃ t : Nat, t ≤ 8 ∧ c = .int .i64 t ∧ s = .int .u32 ((run 31 79764919 S (((fld 8 x).reverse).take t) : Nat) : Int)) (fun _ c => 8 - (intOf c).toNat)
      case atStart => exact ⟨0, by omega, rfl, rfl⟩
      case round =>
        obtain ⟨t, ht, rfl, rfl⟩ := hrel
        by_cases htl : t < 8
        · have hT := run_lt (n := 31) (P := 79764919) (by decide) S hS (((fld 8 x).reverse).take t)
          have hs2 := run_snoc 31 79764919 S (((fld 8 x).reverse).take t) (x / 2 ^ t % 2)
          rw [← fld8_back x t htl] at hs2
          generalize run 31 79764919 S (((fld 8 x).reverse).take t) = T at hT hs2 ⊢
          have HS2 := Hid.intro hs2
          clear hs2
          go_wp2_with fail
          refine (lowest_any x t hb htl w2).mono ?_
          rintro e w' ⟨rfl, rfl⟩
          have hbit : x / 2 ^ t % 2 < 2 := Nat.mod_lt _ (by decide)
          generalize x / 2 ^ t % 2 = y at hbit HS2 ⊢
          go_wp2_with fail
          refine (step_any pb 31 79764919 T y _ _ _ (by decide) hT (by decide) hbit w2 WAH.out).mono ?_
          rintro e w' ⟨rfl, rfl⟩
          rw [← HS2.out]
          obtain ⟨V, hV⟩ : ∃ V, V = run 31 79764919 S (((fld 8 x).reverse).take (t + 1)) := ⟨_, rfl⟩
          rw [← hV]
          have HV := Hid.intro hV
          clear hV
          go_wp2
          go_round
          case rel => exact ⟨t + 1, by omega, by go_num, by rw [HV.out]⟩
          case measure => simp [intOf]; omega
        · have hte : t = 8 := by omega
          subst hte
          rw [List.take_of_length_le (by simp [fld_length]), ← HN.out]
          obtain ⟨V, hV⟩ : ∃ V, V = run 31 79764919 4294967295 (lows (bs.take (k + 1))) := ⟨_, rfl⟩
          rw [← hV]
          have HV := Hid.intro hV
          clear hV
          go_wp2
          go_round
          case rel => exact ⟨k + 1, by omega, by go_num, by rw [HV.out]⟩
          case measure => simp [intOf]; omega
    · have hke : k = bs.length := by omega
      subst hke
      rw [List.take_length]
      have e := HRR.out
      unfold crc32 at e
      have hS := run_lt (n := 31) (P := 79764919) (by decide) 4294967295 (by decide) (lows bs)
      have hlt := crc32_lt bs
      rw [← HRR.out] at hlt
      generalize run 31 79764919 4294967295 (lows bs) = S at e hS ⊢
      have EH := Hid.intro e
      clear e HRR
      go_wp2_with fail
      refine (mirrored_any S (by omega) w2).mono ?_
      rintro e w' ⟨rfl, rfl⟩
      rw [← EH.out]
      clear EH
      go_wp2
      go_ret
      exact ⟨rfl, B2H.out⟩

theorem short_any (a : Option Addr) (cap : Nat) (bs : List Nat) (hl : bs.length < 2 ^ 62) (h256 : ∀ b ∈ bs, b < 256) (w : World) (hr : Reads w a bs) :
    Calls Tryz.prog 57 #[.slice a bs.length cap] w fun e w' => e = .returned (.int .i64 ((crc16 bs : Nat) : Int)) ∧ Below w.heap.size w w' := by
  have HS := Hid.intro (sum_short a cap bs hl h256 w hr)
  generalize crc16 bs = R at HS ⊢
  clear h256 hr
  go_enter Tryz.func57, Tryz.ntmps57
  go_wp2_with fail
  refine HS.out.mono ?_
  rintro e w1 ⟨rfl, B1⟩
  go_wp2
  go_ret
  exact ⟨rfl, B1⟩

theorem long_any (a : Option Addr) (cap : Nat) (bs : List Nat) (hl : bs.length < 2 ^ 62) (h256 : ∀ b ∈ bs, b < 256) (w : World) (hr : Reads w a bs) :
    Calls Tryz.prog 60 #[.slice a bs.length cap] w fun e w' => e = .returned (.int .i64 ((crc32 bs : Nat) : Int)) ∧ Below w.heap.size w w' := by
  have HS := Hid.intro (sum_long a cap bs hl h256 w hr)
  generalize crc32 bs = R at HS ⊢
  clear h256 hr
  go_enter Tryz.func60, Tryz.ntmps60
  go_wp2_with fail
  refine HS.out.mono ?_
  rintro e w1 ⟨rfl, B1⟩
  go_wp2
  go_ret
  exact ⟨rfl, B1⟩

end Go.Proofs.YthhggjakenalpaaGreatDoor

/- Contracts of package crc's Number and Read. -/
namespace Go.Proofs.YthhggjakenalpaaGreatDoor
set_option maxRecDepth 100000
open Go.RowKit
open Bt

/-- A number as 64 bits. -/
def lo64 (n : Int) : Nat := (IntKind.u64.wrap n).toNat
theorem lo64_eq (n : Int) : ((lo64 n : Nat) : Int) = n % 18446744073709551616 := by
  unfold lo64
  rw [IntKind.wrap_u64]
  omega
theorem lo64_nat (n : Nat) (h : n < 18446744073709551616) : lo64 (n : Int) = n := by
  have := lo64_eq n
  omega

theorem lo64_byte (n : Int) (j : Nat) (h : j < 4) : n / 2 ^ (j * 8) % 256 = ((lo64 n / 256 ^ j % 256 : Nat) : Int) := by
  have e := lo64_eq n
  generalize lo64 n = u at e ⊢
  rcases (show j = 0 ∨ j = 1 ∨ j = 2 ∨ j = 3 by omega) with rfl | rfl | rfl | rfl <;> simp <;> omega

theorem number_no (n m : Int) (w : World) (h : m < 0 ∨ 4 < m) :
    Calls Tryz.prog 75 #[.int .i64 n, .int .i64 m] w fun e w' => e = .returned (.slice none 0 0) ∧ w = w' := by
  rcases h with h | h
  · go_enter Tryz.func75, Tryz.ntmps75
    go_wp2
    go_ret
    exact ⟨rfl, rfl⟩
  · have h' : ¬ m < 0 := by omega
    go_enter Tryz.func75, Tryz.ntmps75
    go_wp2
    go_ret
    exact ⟨rfl, rfl⟩

set_option maxHeartbeats 1000000 in
theorem number_yes (n : Int) (M : Nat) (h4 : M ≤ 4) (w : World) :
    Calls Tryz.prog 75 #[.int .i64 n, .int .i64 M] w fun e w' => ∃ g, e = .returned (.slice (some ⟨g, 0, none⟩) M M) ∧ w.heap.size ≤ g ∧
      w'.ownsRow 0 5 1 (.slice (some ⟨g, 0, none⟩) M M) M ((numB (lo64 n) M).map U) ∧ Below w.heap.size w w' := by
  obtain ⟨i, hi, hz0, hz1, hz2⟩ := info_parts info_u8
  have hby := Hid.intro (lo64_byte n)
  generalize lo64 n = u at hby ⊢
  go_enter Tryz.func75, Tryz.ntmps75
  go_wp2_with (at_make; refine wpList_make_full _ rfl _ _ 42 rfl 0 5 i (.int .u8 0) 1 Tryz.underlying42 hi hz0 hz1 _ _ _ _ M rfl rfl (by omega) (by omega) (by rw [hz2]; omega) (by unfold maxLen; omega) (Nat.zero_le _) ?_)
  intro w1 hown hgrow
  have hB : Below w.heap.size w w1 := (Below.refl _ w).grown hgrow (Nat.le_refl _) (fun k hk => by cases hk)
  have hR : w1.ownsRow 0 5 1 (.slice (some ⟨w.heap.size, 0, none⟩) M M) M ((laidB u M 0).map U) := by
    rw [laidB_zero, List.map_replicate]
    rw [toList_madeCells_one] at hown
    exact hown
  clear hown hgrow
  go_wp2_with fail
  go_loopw [17] (fun c wr => ∃ j : Nat, j ≤ M ∧ c = .int .i64 j ∧
      wr.ownsRow 0 5 1 (.slice (some ⟨w.heap.size, 0, none⟩) M M) M ((laidB u M j).map U) ∧ Below w.heap.size w wr)
    (fun c _ => M - (intOf c).toNat)
  case atStart => exact ⟨0, by omega, rfl, hR, hB⟩
  case round =>
    obtain ⟨j, hj, rfl, RJ, BJ⟩ := hrel
    clear hR hB
    by_cases hlt : j < M
    · have hst := laidB_step u M j hlt
      have hb := hby.out j (by omega)
      generalize u / 256 ^ j % 256 = q at hst hb
      have HST := Hid.intro hst
      clear hst
      have fl := laidB_length u M j
      have c1 : ∃ x, wr.cell? ⟨w.heap.size, M - 1 - j, none⟩ = some x := by
        rw [RJ.cellAt _ (by omega)]
        exact ⟨_, List.getElem?_eq_getElem (by simp [fl]; omega)⟩
      obtain ⟨x, c1⟩ := c1
      have f1 : wr.frozen? ⟨w.heap.size, M - 1 - j, none⟩ = false := RJ.frozenAt _
      have RS : (wr.setCell ⟨w.heap.size, M - 1 - j, none⟩ (U q)).ownsRow 0 5 1 (.slice (some ⟨w.heap.size, 0, none⟩) M M) M ((laidB u M (j + 1)).map U) := by
        rw [← HST.out, List.map_set]; exact (RJ.stored _ _).1
      have BS : Below w.heap.size w (wr.setCell ⟨w.heap.size, M - 1 - j, none⟩ (U q)) := BJ.setCell (Nat.le_refl _) _
      have RSH := Hid.intro RS
      have BSH := Hid.intro BS
      have HB := Hid.intro hb
      clear RS BS RJ BJ fl hb
      go_wp2
      rw [HB.out]
      go_roundw
      case rel => exact ⟨j + 1, by omega, by go_num, RSH.out, BSH.out⟩
      case measure => simp [intOf]; omega
    · have hjm : j = M := by omega
      rw [hjm, laidB_all] at RJ
      clear hjm
      go_wp2
      go_ret
      exact ⟨w.heap.size, rfl, Nat.le_refl _, RJ, BJ⟩

/-- A number's bytes, as they read. -/
theorem number_reads (n : Int) (M : Nat) (h4 : M ≤ 4) (w : World) :
    Calls Tryz.prog 75 #[.int .i64 n, .int .i64 M] w fun e w' => ∃ ao, e = .returned (.slice ao M M) ∧ Reads w' ao (numB (lo64 n) M) ∧ Below w.heap.size w w' := by
  refine (number_yes n M h4 w).mono ?_
  rintro e w' ⟨g, rfl, _, R, B⟩
  have hl := numB_length (lo64 n) M
  generalize numB (lo64 n) M = bs at R hl ⊢
  subst hl
  obtain ⟨ao, cap, hv, hr, _⟩ := row_of_owns R
  cases hv
  exact ⟨_, rfl, hr, B⟩

/-- What Number answers, whatever it is asked. -/
def numAll (n m : Int) : List Nat := if 0 ≤ m ∧ m ≤ 4 then numB (lo64 n) m.toNat else []

theorem numAll_len (n m : Int) : (numAll n m).length ≤ 4 := by
  unfold numAll
  split
  · rw [numB_length]; omega
  · simp

theorem number_all (n m : Int) (w : World) :
    Calls Tryz.prog 75 #[.int .i64 n, .int .i64 m] w fun e w' => ∃ ao cap, e = .returned (.slice ao (numAll n m).length cap) ∧ Reads w' ao (numAll n m) ∧ Below w.heap.size w w' := by
  by_cases h : 0 ≤ m ∧ m ≤ 4
  · obtain ⟨M, rfl⟩ := Int.eq_ofNat_of_zero_le h.1
    rw [show numAll n M = numB (lo64 n) M from by unfold numAll; rw [if_pos h]; rfl, numB_length]
    refine (number_reads n M (by omega) w).mono ?_
    rintro e w' ⟨ao, rfl, r, B⟩
    exact ⟨ao, M, rfl, r, B⟩
  · rw [show numAll n m = [] from by unfold numAll; rw [if_neg h]]
    refine (number_no n m w (by omega)).mono ?_
    rintro e w' ⟨rfl, rfl⟩
    exact ⟨none, 0, rfl, fun h => absurd h (by simp), Below.refl _ _⟩

theorem or_byte (n b : Nat) (hn : n < 2 ^ 54) (hb : b < 256) : bits .or .i64 ((n : Int) * 256) (b : Int) = ((n * 256 + b : Nat) : Int) := by
  rw [show (n : Int) * 256 = ((n * 256 : Nat) : Int) from by simp, i64_or_nat _ _ (by omega) (by omega)]
  have := Nat.two_pow_add_eq_or_of_lt (i := 8) (b := b) (by omega) n
  rw [Nat.mul_comm n 256, show 256 = 2 ^ 8 from rfl, this]

set_option maxHeartbeats 1000000 in
theorem cread_any (a : Option Addr) (cap : Nat) (bs : List Nat) (hl : bs.length < 2 ^ 62) (h256 : ∀ b ∈ bs, b < 256) (w : World) (hr : Reads w a bs) :
    Calls Tryz.prog 58 #[.slice a bs.length cap] w fun e w' => e = .returned (.int .i64 (((if 4 < bs.length then 0 else readB bs) : Nat) : Int)) ∧ w = w' := by
  by_cases h4 : 4 < bs.length
  · rw [if_pos h4]
    go_enter Tryz.func58, Tryz.ntmps58
    go_wp2
    go_ret
    exact ⟨rfl, rfl⟩
  · rw [if_neg h4]
    have HR := Hid.intro hr
    have H256 := Hid.intro h256
    clear hr h256
    go_enter Tryz.func58, Tryz.ntmps58
    go_wp2_with fail
    go_loop [3, 11] (fun n c => ∃ k : Nat, k ≤ bs.length ∧ c = .int .i64 k ∧ n = .int .i64 ((readB (bs.take k) : Nat) : Int)) (fun _ c => bs.length - (intOf c).toNat)
    case atStart => exact ⟨0, by omega, rfl, rfl⟩
    case round =>
      obtain ⟨k, hk, rfl, rfl⟩ := hrel
      by_cases hlt : k < bs.length
      · obtain ⟨bb, off, rfl, hc⟩ := reads_at HR.out (by omega)
        have c := hc k hlt
        have hb := H256.out bs[k] (List.getElem_mem hlt)
        have hs := readB_snoc (bs.take k) bs[k]
        rw [← take_snoc bs k hlt] at hs
        have hn := readB_lt (bs.take k) (fun b hb => H256.out b (List.mem_of_mem_take hb))
        have hn2 : readB (bs.take k) < 16777216 := by
          refine Nat.lt_of_lt_of_le hn ?_
          have : (256 : Nat) ^ (bs.take k).length ≤ 256 ^ 3 := Nat.pow_le_pow_right (by decide) (by simp; omega)
          exact this
        generalize bs[k] = b at c hb hs
        generalize readB (bs.take k) = N at hs hn2 ⊢
        have HS := Hid.intro hs
        clear hs hn hc
        have HO := Hid.intro (or_byte N b (by omega) hb)
        have j1 : (0 : Int) ≤ (k : Int) := by omega
        have j2 : (k : Int) < (bs.length : Int) := by omega
        go_wp2
        go_round
        case rel => exact ⟨k + 1, by omega, by go_num, by rw [HS.out, HO.out]⟩
        case measure => simp [intOf]; omega
      · have hke : k = bs.length := by omega
        subst hke
        rw [List.take_length]
        go_wp2
        go_ret
        exact ⟨rfl, rfl⟩

end Go.Proofs.YthhggjakenalpaaGreatDoor


/- Package frame: Right, Put. -/
namespace Go.Proofs.YthhggjakenalpaaGreatDoor
set_option maxRecDepth 100000
open Go.RowKit
open Bt

theorem RowIs.owns {w : World} {g : Nat} {bs : List Nat} (h : RowIs w g bs) (hl : bs.length ≤ maxLen) : w.ownsRow 0 5 1 (.slice (some ⟨g, 0, none⟩) bs.length bs.length) bs.length (bs.map U) :=
  ⟨by simp, .inr ⟨g, bs.length, (bs.map U).toArray, rfl, Nat.zero_le _, h, Nat.le_refl _, hl, by simp, by simp [List.take_of_length_le]⟩⟩

theorem owns_reads {w : World} {g n c : Nat} {bs : List Nat} (h : w.ownsRow 0 5 1 (.slice (some ⟨g, 0, none⟩) n c) n (bs.map U)) (hn : n = bs.length) : Reads w (some ⟨g, 0, none⟩) bs := fun _ =>
  ⟨_, rfl, fun j u hu => by
    have hj := (List.getElem?_eq_some_iff.1 hu).1
    rw [List.length_map] at hj
    rw [WideShapes.add_plain, Nat.zero_add, h.cellAt j (by omega)]; exact hu⟩

set_option maxRecDepth 100000 in
set_option maxHeartbeats 2000000 in
theorem put_frame (tx sq an rs kd : Int) (a : Option Addr) (cap : Nat) (ds : List Nat) (hn : a = none → cap = 0) (h256 : ∀ b ∈ ds, b < 256) (w : World) (hw : Wid w) (hr : Reads w a ds) :
    Calls Tryz.prog 32 #[Fr tx sq an rs kd a ds.length cap] w fun e w' => ∃ ao c, e = .returned (.slice ao (putF tx sq an rs kd ds).length c) ∧ Reads w' ao (putF tx sq an rs kd ds) ∧ (ao = none → c = 0) ∧ ((putF tx sq an rs kd ds).length ≤ c ∧ c ≤ 9223372036854775807) ∧ (∀ ad, ao = some ad → w.heap.size ≤ ad.block) ∧ Below w.heap.size w w' := by
  obtain ⟨FB, hFB⟩ : ∃ F, F = putF tx sq an rs kd ds := ⟨_, rfl⟩
  rw [← hFB]
  have HFB := Hid.intro hFB
  clear hFB
  have HR := Hid.intro hr
  have H256 := Hid.intro h256
  have HNO := Hid.intro hn
  clear hr h256 hn
  have HB1 := Hid.intro ((Below.refl _ w).alloc (Nat.le_refl _) (.cells #[.int .i64 tx, .int .i64 sq, .int .i64 an, .int .i64 rs, .int .i64 kd, .slice a ds.length cap] 55))
  have HW := Hid.intro (hw.below HB1.out)
  have C51 : Hid ((w.alloc (.cells #[.int .i64 tx, .int .i64 sq, .int .i64 an, .int .i64 rs, .int .i64 kd, .slice a ds.length cap] 55)).cell? ⟨w.heap.size, 5, none⟩ = some (.slice a ds.length cap)) := by
    show _ = _
    rw [cell_of_row _ _ _ _ _ _ (heap_alloc_new w _)]; rfl
  clear hw
  go_enter Tryz.func32, Tryz.ntmps32
  go_wp2_with fail
  generalize w.alloc (.cells #[.int .i64 tx, .int .i64 sq, .int .i64 an, .int .i64 rs, .int .i64 kd, .slice a ds.length cap] 55) = W1 at HB1 HW C51 ⊢
  generalize hbe : w.heap.size = b at C51 ⊢
  have HBE := Hid.intro hbe
  clear hbe
  refine (putHead_any tx sq an rs kd a ds.length cap W1 HW.out).mono ?_
  rintro e w2 ⟨h, B2⟩
  have hWs := HB1.out.size
  rw [HBE.out] at hWs
  rcases h with ⟨hf, g, rfl, hg, R2⟩ | ⟨hf, rfl⟩
  · have hl60 : ds.length ≤ 60 := (isFrm_iff.1 hf).2.2.2.2.2
    have hfr : FB = (numB (headN tx.toNat sq.toNat an.toNat rs.toNat kd.toNat) 4 ++ [ds.length]) ++ numB (crc16 (numB (headN tx.toNat sq.toNat an.toNat rs.toNat kd.toNat) 4 ++ [ds.length])) 2 ++ ds ++ numB (crc32 ((numB (headN tx.toNat sq.toNat an.toNat rs.toNat kd.toNat) 4 ++ [ds.length]) ++ numB (crc16 (numB (headN tx.toNat sq.toNat an.toNat rs.toNat kd.toNat) 4 ++ [ds.length])) 2 ++ ds)) 4 := by
      rw [HFB.out]; unfold putF; rw [if_pos hf]; rfl
    have l5 : (numB (headN tx.toNat sq.toNat an.toNat rs.toNat kd.toNat) 4 ++ [ds.length]).length = 5 := by rw [List.length_append, numB_length]; rfl
    have hb5 : ∀ x ∈ numB (headN tx.toNat sq.toNat an.toNat rs.toNat kd.toNat) 4 ++ [ds.length], x < 256 := by
      intro x hx
      rcases List.mem_append.1 hx with h | h
      · exact numB_byte _ _ x h
      · simp at h; omega
    clear HFB
    generalize numB (headN tx.toNat sq.toNat an.toNat rs.toNat kd.toNat) 4 ++ [ds.length] = p5 at R2 l5 hb5 hfr
    have OW2 := R2.owns (by rw [l5]; decide)
    rw [l5] at OW2
    have hC := crc16_lt p5
    have S8 := short_any (some ⟨g, 0, none⟩) 5 p5 (by omega) hb5 w2 R2.reads
    rw [l5] at S8
    have S8H := Hid.intro S8
    have HFR := Hid.intro hfr
    have HB5 := Hid.intro hb5
    have D2 := HB1.out.trans (B2.mono HB1.out.size)
    have OWH := Hid.intro OW2
    have HB2 := Hid.intro B2
    clear S8 hfr hb5 R2 OW2 B2
    generalize crc16 p5 = C at hC S8H HFR
    go_wp2_with fail
    refine S8H.out.mono ?_
    rintro e w8 ⟨rfl, B8⟩
    have D8 := D2.trans (B8.mono D2.size)
    have E8 := HB2.out.trans (B8.mono HB2.out.size)
    have R8H := Hid.intro (ownsRow_keep (w' := w8) OWH.out (fun j hj => B8.block j (World.ownsRow.lt OWH.out j hj).2))
    clear S8H B8 OWH D2 HB2
    go_wp2_with fail
    refine (number_yes C 2 (by decide) w8).mono ?_
    rintro e w9 ⟨g9, rfl, _, R9, B9⟩
    have D9 := D8.trans (B9.mono D8.size)
    have E9 := E8.trans (B9.mono E8.size)
    have RP9 := ownsRow_keep (w' := w9) R8H.out (fun j hj => B9.block j (World.ownsRow.lt R8H.out j hj).2)
    rw [lo64_nat C (by omega)] at R9
    clear B9 D8 E8 R8H
    have lm := numB_length C 2
    have hbm := Hid.intro (numB_byte C 2)
    generalize numB C 2 = ms at R9 lm hbm HFR
    have r9H := Hid.intro (owns_reads R9 lm.symm)
    have RP9H : Hid (w9.ownsRow 0 5 1 (.slice (some ⟨g, 0, none⟩) 5 5) p5.length (p5.map U)) := by
      rw [l5]; exact RP9
    clear R9 RP9
    go_wp2_with (at_builtin; refine append_bytes rfl _ _ rfl _ p5 rfl RP9H.out (some ⟨g9, 0, none⟩) 2 2 ms lm.symm rfl r9H.out (fun e => by cases e) (by omega) ?_)
    intro v10 w10 hown hgrow hat
    obtain ⟨E10, N10⟩ := grown_step hgrow hat E9 (Nat.le_refl _) (fun k hk => by
      have e : g = k := by simpa [Value.ownBlock] using hk
      omega)
    have hown10 : w10.ownsRow 0 5 1 v10 (p5 ++ ms).length ((p5 ++ ms).map U) := by
      rw [List.length_append, l5, lm, List.map_append]; exact hown
    have l7 : (p5 ++ ms).length = 7 := by rw [List.length_append, l5, lm]
    have hb7 : ∀ x ∈ p5 ++ ms, x < 256 := by
      intro x hx
      rcases List.mem_append.1 hx with h | h
      · exact HB5.out x h
      · exact hbm.out x h
    clear hown hgrow hat D9 E9 r9H RP9H
    generalize p5 ++ ms = p7 at hown10 l7 hb7 HFR
    obtain ⟨g10, c10, rfl, _, _⟩ := hown10.form (by omega)
    rw [l7] at hown10
    have c510 : w10.cell? ⟨b, 5, none⟩ = some (.slice a ds.length cap) := (E10.cell (cell_lt C51.out)).trans C51.out
    have DR10 := HB1.out.trans (E10.mono HB1.out.size)
    have hr10 := Hid.intro (HR.out.below DR10)
    have R10H : Hid (w10.ownsRow 0 5 1 (.slice (some ⟨g10, 0, none⟩) 7 c10) p7.length (p7.map U)) := by
      rw [l7]; exact hown10
    have N10H := Hid.intro N10
    have HB7 := Hid.intro hb7
    clear hown10 N10 hb7 HB5 hbm DR10
    rw [l7]
    go_wp2_with (at_builtin; refine append_bytes rfl _ _ rfl _ p7 rfl R10H.out a ds.length cap ds rfl rfl hr10.out HNO.out (by omega) ?_)
    intro v11 w11 hown hgrow hat
    obtain ⟨E11, N11⟩ := grown_step hgrow hat E10 (Nat.le_refl _) (fun k hk => N10H.out k (by rw [← hk]; rfl))
    have hown11 : w11.ownsRow 0 5 1 v11 (p7 ++ ds).length ((p7 ++ ds).map U) := by
      rw [List.length_append, l7, List.map_append]; exact hown
    have lp : (p7 ++ ds).length = 7 + ds.length := by rw [List.length_append, l7]
    have hbp : ∀ x ∈ p7 ++ ds, x < 256 := by
      intro x hx
      rcases List.mem_append.1 hx with h | h
      · exact HB7.out x h
      · exact H256.out x h
    clear hown hgrow hat E10 R10H N10H hr10 c510
    generalize p7 ++ ds = p at hown11 lp hbp HFR
    have lp1 : p.length ≤ 67 := by omega
    have lp0 : 0 < p.length := by omega
    clear lp
    obtain ⟨g11, c11, rfl, _, _⟩ := hown11.form (by omega)
    have hL := crc32_lt p
    have S12 := long_any (some ⟨g11, 0, none⟩) c11 p (by omega) hbp w11 (owns_reads hown11 rfl)
    have S12H := Hid.intro S12
    have N11H := Hid.intro N11
    have R11H := Hid.intro hown11
    clear S12 hbp N11 hown11 HB7
    generalize crc32 p = L at hL S12H HFR
    go_wp2_with fail
    refine S12H.out.mono ?_
    rintro e w12 ⟨rfl, B12⟩
    have E12 := E11.trans (B12.mono E11.size)
    have R12H := Hid.intro (ownsRow_keep (w' := w12) R11H.out (fun j hj => B12.block j (World.ownsRow.lt R11H.out j hj).2))
    clear S12H B12 E11 R11H
    go_wp2_with fail
    refine (number_yes L 4 (by decide) w12).mono ?_
    rintro e w13 ⟨g13, rfl, _, R13, B13⟩
    have E13 := E12.trans (B13.mono E12.size)
    have RP13H := Hid.intro (ownsRow_keep (w' := w13) R12H.out (fun j hj => B13.block j (World.ownsRow.lt R12H.out j hj).2))
    rw [lo64_nat L (by omega)] at R13
    clear B13 E12 R12H
    have lq := numB_length L 4
    generalize numB L 4 = qs at R13 lq HFR
    have r13H := Hid.intro (owns_reads R13 lq.symm)
    clear R13
    go_wp2_with (at_builtin; refine append_bytes rfl _ _ rfl _ p rfl RP13H.out (some ⟨g13, 0, none⟩) 4 4 qs lq.symm rfl r13H.out (fun e => by cases e) (by omega) ?_)
    intro v14 w14 hown hgrow hat
    obtain ⟨E14, N14⟩ := grown_step hgrow hat E13 (Nat.le_refl _) (fun k hk => N11H.out k hk)
    have hown14 : w14.ownsRow 0 5 1 v14 (p ++ qs).length ((p ++ qs).map U) := by
      rw [List.length_append, lq, List.map_append]; exact hown
    have l14 : 0 < (p ++ qs).length := by rw [List.length_append]; omega
    rw [← HFR.out] at hown14 l14
    obtain ⟨g14, c14, rfl, _, _⟩ := hown14.form (by omega)
    have hcap := ownsRow_cap hown14
    have DW := HB1.out.trans (E14.mono HB1.out.size)
    have hr14H := Hid.intro (owns_reads hown14 rfl)
    have hg14 := N14 g14 rfl
    clear hown hgrow hat E13 RP13H r13H hown14 E14 N11H N14
    go_wp2
    go_ret
    refine ⟨_, c14, rfl, hr14H.out, (fun h0 => by cases h0), hcap, ?_, DW⟩
    intro ad e
    cases e
    show w.heap.size ≤ g14
    have := HBE.out
    omega
  · have hno : FB = [] := by rw [HFB.out]; unfold putF; rw [if_neg (by rw [hf]; simp)]
    have D2 := HB1.out.trans (B2.mono HB1.out.size)
    subst hno
    clear B2 HB1 HFB
    go_wp2
    go_ret
    exact ⟨none, 0, rfl, fun h => absurd h (by simp), fun _ => rfl, ⟨Nat.le_refl _, by decide⟩, (fun ad e => by cases e), D2⟩

end Go.Proofs.YthhggjakenalpaaGreatDoor
