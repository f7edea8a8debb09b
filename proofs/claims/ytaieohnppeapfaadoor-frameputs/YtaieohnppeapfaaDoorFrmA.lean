/- Contracts of package frame: which frames are the same. -/
import Derived.Test.YtaieohnppeapfaaDoorFrmBase
import Derived.Laws.BytesArg
import Derived.Laws.StructEq
namespace Go.Proofs.YtaieohnppeapfaaDoor
open Go.RowKit
open Bt

/-- Arrays of numbers, held against one another. -/
theorem run_equalIn_ints {P : Program} (w : World) (d : Nat) (t e : TypeId) (n : Nat) (ht : P.underlying t = some (.array n e)) (he : P.underlying e = some (.int .i64)) (hsz : ∀ w, (sizeOf e).run P w = .ok 1 w)
    (xs ys : List Int) (hx : xs.length = n) (hy : ys.length = n) :
    (Op.equalIn (d + 2) t (.agg (xs.map (Value.int .i64)).toArray) (.agg (ys.map (Value.int .i64)).toArray)).run P w = .ok ((List.range n).all fun i => xs.getD i 0 == ys.getD i 0) w := by
  rw [List.range_eq_range', Op.equalIn]
  simp only [Sem.run_bind, run_underlying ht, Result.andThen_ok, hsz, Std.Legacy.Range.forIn_eq_forIn_range', Std.Legacy.Range.size, Nat.sub_zero, Nat.add_sub_cancel, Nat.div_one]
  have hl : ∀ i ∈ List.range' 0 n 1, i < n := fun i hi => by simpa using (List.mem_range'_1.1 hi).2
  generalize List.range' 0 n 1 = l at hl ⊢
  induction l with
  | nil => simp
  | cons i l ih =>
    have hi : i < n := hl i (by simp)
    have px : (part e (xs.map (Value.int .i64)).toArray (i * 1)).run P w = .ok (.int .i64 (xs.getD i 0)) w := by
      simp [part, isAgg, run_underlying he, List.getD, List.getElem?_eq_getElem (show i < xs.length by omega)]
    have py : (part e (ys.map (Value.int .i64)).toArray (i * 1)).run P w = .ok (.int .i64 (ys.getD i 0)) w := by
      simp [part, isAgg, run_underlying he, List.getD, List.getElem?_eq_getElem (show i < ys.length by omega)]
    have pe : (Op.equalIn (d + 1) e (.int .i64 (xs.getD i 0)) (.int .i64 (ys.getD i 0))).run P w = .ok (xs.getD i 0 == ys.getD i 0) w := run_equalIn_int w d e .i64 .i64 _ _ he
    simp only [List.forIn_cons, Sem.run_bind, px, py, pe, Result.andThen_ok, List.all_cons]
    cases hb : (xs.getD i 0 == ys.getD i 0)
    · simp
    · simp only [Bool.not_true, Bool.false_eq_true, if_false, Sem.run_pure, Result.andThen_ok, Bool.true_and]
      exact ih fun j hj => hl j (by simp [hj])

/-- Bytes as a text. -/
def strB (bs : List Nat) : ByteArray := ⟨(bs.map fun n => UInt8.ofNat n).toArray⟩

theorem conv_bytes {w : World} {a : Option Addr} {bs : List Nat} (h : Reads w a bs) (c : Nat) :
    (convert 22 9 (.slice a bs.length c)).run Tryd.prog w = .ok (.string (strB bs)) w := by
  rcases Nat.eq_zero_or_pos bs.length with h0 | h0
  · rw [h0]
    obtain rfl : bs = [] := List.eq_nil_of_length_eq_zero h0
    rw [run_convert_bytes_string w _ _ _ _ 0 c Tryd.underlying22 Tryd.underlying5 Tryd.underlying9]
    cases a <;> simp [Conv.bytesToString, loadCells]
    all_goals rfl
  · obtain ⟨b, off, rfl, hc⟩ := reads_at h h0
    have := run_convert_bytes_arg (P := Tryd.prog) w 22 5 Tryd.underlying22 Tryd.underlying5 b off bs.length c (bs.map fun (n : Nat) => (n : Int)) (by simp) (fun i hi => by
      rw [hc i hi]
      simp [List.getD, List.getElem?_eq_getElem hi]) 9 Tryd.underlying9
    rw [this]
    simp [strOfNums, strB]

theorem strB_eq {bs cs : List Nat} (hb : ∀ b ∈ bs, b < 256) (hc : ∀ b ∈ cs, b < 256) : ((strB bs).toList == (strB cs).toList) = decide (bs = cs) := by
  rw [ByteArray.toList_eq, ByteArray.toList_eq]
  have key : ∀ (l : List Nat), (∀ b ∈ l, b < 256) → (l.map fun n => UInt8.ofNat n).map UInt8.toNat = l := by
    intro l hl
    rw [List.map_map]
    conv => rhs; rw [← List.map_id l]
    apply List.map_congr_left
    intro x hx
    have := hl x hx
    simp
    omega
  rw [Bool.eq_iff_iff, beq_iff_eq, decide_eq_true_eq]
  constructor
  · intro h
    have h' : (bs.map fun n => UInt8.ofNat n) = (cs.map fun n => UInt8.ofNat n) := by simpa [strB] using h
    rw [← key bs hb, h', key cs hc]
  · rintro rfl; rfl

theorem bytesEqual_any (a b : Option Addr) (ca cb : Nat) (bs cs : List Nat) (hb : ∀ x ∈ bs, x < 256) (hc : ∀ x ∈ cs, x < 256) (w : World) (h1 : Reads w a bs) (h2 : Reads w b cs) :
    Calls Tryd.prog 29 #[.slice a bs.length ca, .slice b cs.length cb] w fun e w' => e = .returned (.bool (decide (bs = cs))) ∧ w = w' := by
  have g1 := conv_bytes h1 ca
  have g2 := conv_bytes h2 cb
  have e := strB_eq hb hc
  clear h1 h2 hb hc
  generalize strB bs = x at g1 e
  generalize strB cs = y at g2 e
  generalize decide (bs = cs) = D at e ⊢
  have HE := Hid.intro e
  clear e
  go_enter Tryd.func29, Tryd.ntmps29
  go_wp2
  go_ret
  exact ⟨ret_bool HE.out, rfl⟩

/-- A head's fields as they stand in the array. -/
abbrev FA (tx sq an rs kd : Int) (len : Nat) : Value := .agg #[.int .i64 tx, .int .i64 sq, .int .i64 an, .int .i64 rs, .int .i64 kd, .int .i64 (len : Int)]

set_option maxHeartbeats 1000000 in
theorem fieldsOf_any (tx sq an rs kd : Int) (a : Option Addr) (len cap : Nat) (w : World) :
    Calls Tryd.prog 28 #[Fr tx sq an rs kd a len cap] w fun e w' => e = .returned (FA tx sq an rs kd len) ∧ Below w.heap.size w w' := by
  go_enter Tryd.func28, Tryd.ntmps28
  go_wp2
  (try simp only [Exit.inBlock, Exit.then])
  refine bodyPost_ret (results_cell_row rfl _ _ (w.heap.size + 1) 46 #[.int .i64 tx, .int .i64 sq, .int .i64 an, .int .i64 rs, .int .i64 kd, .int .i64 (len : Int)] (0, 0) _ rfl (heap_alloc2_new w _ _) Tryd.underlying46 rfl (by kernel_rfl)) rfl ?_
  exact ⟨rfl, ((Below.refl _ w).alloc (Nat.le_refl _) _).alloc (World.size_alloc w _ ▸ Nat.le_succ _) _⟩

theorem eq6 (a0 a1 a2 a3 a4 a5 b0 b1 b2 b3 b4 b5 : Int) (w : World) :
    (Op.equalIn 10000 46 (.agg #[.int .i64 a0, .int .i64 a1, .int .i64 a2, .int .i64 a3, .int .i64 a4, .int .i64 a5]) (.agg #[.int .i64 b0, .int .i64 b1, .int .i64 b2, .int .i64 b3, .int .i64 b4, .int .i64 b5])).run Tryd.prog w
      = .ok (decide (a0 = b0 ∧ a1 = b1 ∧ a2 = b2 ∧ a3 = b3 ∧ a4 = b4 ∧ a5 = b5)) w := by
  have h := run_equalIn_ints (P := Tryd.prog) w 9998 46 3 6 Tryd.underlying46 Tryd.underlying3 (fun _ => by kernel_rfl) [a0, a1, a2, a3, a4, a5] [b0, b1, b2, b3, b4, b5] rfl rfl
  have e : ((List.range 6).all fun i => [a0, a1, a2, a3, a4, a5].getD i 0 == [b0, b1, b2, b3, b4, b5].getD i 0) = decide (a0 = b0 ∧ a1 = b1 ∧ a2 = b2 ∧ a3 = b3 ∧ a4 = b4 ∧ a5 = b5) := by
    rw [Bool.eq_iff_iff, decide_eq_true_eq, show List.range 6 = [0, 1, 2, 3, 4, 5] from rfl]
    simp [List.getD]
  rw [e] at h
  exact h

set_option maxRecDepth 100000 in
set_option maxHeartbeats 1000000 in
theorem same_no (tx sq an rs kd tx' sq' an' rs' kd' : Int) (a b : Option Addr) (ca cb la lb : Nat) (w : World)
    (hne : decide (tx = tx' ∧ sq = sq' ∧ an = an' ∧ rs = rs' ∧ kd = kd' ∧ (la : Int) = (lb : Int)) = false) :
    Calls Tryd.prog 15 #[Fr tx sq an rs kd a la ca, Fr tx' sq' an' rs' kd' b lb cb] w fun e w' => e = .returned (.bool false) ∧ Below w.heap.size w w' := by
  have E6 := fun w => eq6 tx sq an rs kd la tx' sq' an' rs' kd' lb w
  rw [hne] at E6
  clear hne
  go_enter Tryd.func15, Tryd.ntmps15
  go_wp2_with fail
  have BX := ((Below.refl _ w).alloc (Nat.le_refl _) (.cells #[.int .i64 tx, .int .i64 sq, .int .i64 an, .int .i64 rs, .int .i64 kd, .slice a la ca] 24)).alloc (World.size_alloc w _ ▸ Nat.le_succ _) (.cells #[.int .i64 tx', .int .i64 sq', .int .i64 an', .int .i64 rs', .int .i64 kd', .slice b lb cb] 24)
  have hX0 := heap_alloc2_old w (.cells #[.int .i64 tx, .int .i64 sq, .int .i64 an, .int .i64 rs, .int .i64 kd, .slice a la ca] 24) (.cells #[.int .i64 tx', .int .i64 sq', .int .i64 an', .int .i64 rs', .int .i64 kd', .slice b lb cb] 24)
  have hX1 := heap_alloc2_new w (.cells #[.int .i64 tx, .int .i64 sq, .int .i64 an, .int .i64 rs, .int .i64 kd, .slice a la ca] 24) (.cells #[.int .i64 tx', .int .i64 sq', .int .i64 an', .int .i64 rs', .int .i64 kd', .slice b lb cb] 24)
  generalize (w.alloc (.cells #[.int .i64 tx, .int .i64 sq, .int .i64 an, .int .i64 rs, .int .i64 kd, .slice a la ca] 24)).alloc (.cells #[.int .i64 tx', .int .i64 sq', .int .i64 an', .int .i64 rs', .int .i64 kd', .slice b lb cb] 24) = X at BX hX0 hX1 ⊢
  generalize w.heap.size + 1 = b1 at hX1 ⊢
  generalize hb0e : w.heap.size = b0 at hX0 ⊢
  have HB0 := Hid.intro hb0e
  have HX0 := Hid.intro hX0
  have HX1 := Hid.intro hX1
  clear hX0 hX1 hb0e
  have k0 : X.cell? ⟨b0, 0, none⟩ = some (.int .i64 tx) := by rw [cell_of_row _ _ _ _ _ _ HX0.out]; rfl
  have k1 : X.cell? ⟨b0, 1, none⟩ = some (.int .i64 sq) := by rw [cell_of_row _ _ _ _ _ _ HX0.out]; rfl
  have k2 : X.cell? ⟨b0, 2, none⟩ = some (.int .i64 an) := by rw [cell_of_row _ _ _ _ _ _ HX0.out]; rfl
  have k3 : X.cell? ⟨b0, 3, none⟩ = some (.int .i64 rs) := by rw [cell_of_row _ _ _ _ _ _ HX0.out]; rfl
  have k4 : X.cell? ⟨b0, 4, none⟩ = some (.int .i64 kd) := by rw [cell_of_row _ _ _ _ _ _ HX0.out]; rfl
  have k5 : X.cell? ⟨b0, 5, none⟩ = some (.slice a la ca) := by rw [cell_of_row _ _ _ _ _ _ HX0.out]; rfl
  have m0 : X.cell? ⟨b1, 0, none⟩ = some (.int .i64 tx') := by rw [cell_of_row _ _ _ _ _ _ HX1.out]; rfl
  have m1 : X.cell? ⟨b1, 1, none⟩ = some (.int .i64 sq') := by rw [cell_of_row _ _ _ _ _ _ HX1.out]; rfl
  have m2 : X.cell? ⟨b1, 2, none⟩ = some (.int .i64 an') := by rw [cell_of_row _ _ _ _ _ _ HX1.out]; rfl
  have m3 : X.cell? ⟨b1, 3, none⟩ = some (.int .i64 rs') := by rw [cell_of_row _ _ _ _ _ _ HX1.out]; rfl
  have m4 : X.cell? ⟨b1, 4, none⟩ = some (.int .i64 kd') := by rw [cell_of_row _ _ _ _ _ _ HX1.out]; rfl
  have m5 : X.cell? ⟨b1, 5, none⟩ = some (.slice b lb cb) := by rw [cell_of_row _ _ _ _ _ _ HX1.out]; rfl
  clear HX0 HX1
  first
  | (go_region_with (first
      | (go_at_call 28; have _ := B5; refine (fieldsOf_any tx' sq' an' rs' kd' b lb cb _).mono ?_; rintro e w6 ⟨rfl, B6⟩)
      | (go_at_call 28; refine (fieldsOf_any tx sq an rs kd a la ca _).mono ?_; rintro e w5 ⟨rfl, B5⟩; have n0 := below_cell B5 m0; have n1 := below_cell B5 m1; have n2 := below_cell B5 m2; have n3 := below_cell B5 m3; have n4 := below_cell B5 m4; have n5 := below_cell B5 m5)))
  | fail
  all_goals
    have D6 : Below w.heap.size w w6 := BX.trans (((below_undrew B5).trans (B6.mono (below_undrew B5).size)).mono BX.size)
    clear B5 B6 k0 k1 k2 k3 k4 k5 m0 m1 m2 m3 m4 m5
    go_wp2
    go_ret
    exact ⟨rfl, D6⟩

end Go.Proofs.YtaieohnppeapfaaDoor
