/- The laws' own 'alive' of layer 10. -/
import Derived.Test.YthbfdfkkacmbhabDoorRcCon
import Derived.Test.YthbfdfkkacmbhabDoorRcEq
import Derived.Deep.RegionHeld3
namespace Go.Proofs.YthbfdfkkacmbhabDoor
open Go.RowKit
open Bt

/-- The sample of 'alive'. -/
def smA : Smp := ⟨1, 9, 72⟩

theorem al2 : packE 1 1 8 [smA, smA] = 0 := by decide
theorem al3 : packE 1 1 8 [smA, smA, smA] = 4 := by decide
theorem alL : (packT 1 1 8 [smA, smA]).length = 8 := by have := packT_length al2; omega
theorem alT : packT 1 1 8 [smA, smA, smA] = [] := by unfold packT; rw [al3]; rfl
theorem alN : parseE [] = 6 := by unfold parseE parseB; rw [decide_eq_false (fun h => absurd h.1 (by simp))]; rfl
theorem alM : parseL [] = [] := by unfold parseL parseB; rw [decide_eq_false (fun h => absurd h.1 (by simp))]; rfl

theorem alY : Byt (packT 1 1 8 [smA, smA]) := by
  rw [packT_eq al2]
  intro b hb
  rcases List.mem_append.1 hb with q | q
  · have : textM [smA, smA] = [2, 33, 34, 64, 33, 34, 64] := by decide
    rw [this] at q
    simp at q
    omega
  · rw [(List.mem_replicate.1 q).2]; decide

theorem cellM {w w' : World} {a : Addr} {v : Value} (h : Below w.heap.size w w') (hc : w.cell? a = some v) : w'.cell? a = some v := (h.cell (cell_lt hc)).trans hc

theorem undrewM {w w' : World} (h : Below w.drew.heap.size w.drew w') : Below w.heap.size w w' := ⟨h.os, h.tape, h.output, h.size, h.block⟩

/-- A block of samples. -/
theorem sms_block {w : World} {g : Nat} {l : List Smp} {t : TypeId} {fr : Nat × Nat} (h : w.heap[g]? = some (.cells (mcells l).toArray t fr)) (c : Nat) : SmsAt (fun _ => True) w (.slice (some ⟨g, 0, none⟩) l.length c) l := by
  refine ⟨_, c, rfl, fun h0 => ⟨g, 0, rfl, trivial, fun t ht => ?_⟩⟩
  have q : ∀ j, j < 3 → w.cell? ⟨g, 0 + t * 3 + j, none⟩ = (mcell l[t])[j]? := fun j hj => by
    rw [Nat.zero_add, cell_of_row _ _ _ _ _ _ h, ← mcells_at l ht hj]
    simp
  exact ⟨q 0 (by omega), q 1 (by omega), q 2 (by omega)⟩

set_option maxRecDepth 100000 in
set_option maxHeartbeats 2000000 in
theorem alive10_any (w : World) (hw : WidR w) :
    Calls Tryd.prog 4 #[] w fun e w' => e = .returned (.bool true) ∧ Below w.heap.size w w' := by
  obtain ⟨A1, hA1⟩ : ∃ A1, A1 = w.alloc (.cells #[.int .i64 1, .int .i64 1, .int .i64 8] 27) := ⟨_, rfl⟩
  obtain ⟨A2, hA2⟩ : ∃ A2, A2 = A1.alloc (.cells #[.int .i64 1, .int .i64 9, .int .i64 72] 23) := ⟨_, rfl⟩
  obtain ⟨A3, hA3⟩ : ∃ A3, A3 = A2.alloc (.cells #[.int .i64 1, .int .i64 9, .int .i64 72, .int .i64 1, .int .i64 9, .int .i64 72] 23) := ⟨_, rfl⟩
  have B1 : Below w.heap.size w A1 := by rw [hA1]; exact (Below.refl _ w).alloc (Nat.le_refl _) _
  have B2 : Below A1.heap.size A1 A2 := by rw [hA2]; exact (Below.refl _ A1).alloc (Nat.le_refl _) _
  have B3 : Below A2.heap.size A2 A3 := by rw [hA3]; exact (Below.refl _ A2).alloc (Nat.le_refl _) _
  have n1 : A1.heap[w.heap.size]? = some (.cells #[.int .i64 1, .int .i64 1, .int .i64 8] 27 (0, 0)) := by rw [hA1]; exact heap_alloc_new w _
  have n2 : A2.heap[A1.heap.size]? = some (.cells #[.int .i64 1, .int .i64 9, .int .i64 72] 23 (0, 0)) := by rw [hA2]; exact heap_alloc_new A1 _
  have n3 : A3.heap[A2.heap.size]? = some (.cells #[.int .i64 1, .int .i64 9, .int .i64 72, .int .i64 1, .int .i64 9, .int .i64 72] 23 (0, 0)) := by rw [hA3]; exact heap_alloc_new A2 _
  have z1 : A1.heap.size = w.heap.size + 1 := by rw [hA1, World.size_alloc]
  have z2 : A2.heap.size = w.heap.size + 1 + 1 := by rw [hA2, World.size_alloc, z1]
  have m1 := (B3.block _ (Nat.lt_of_lt_of_le (lt_of_heap n1) B2.size)).trans ((B2.block _ (lt_of_heap n1)).trans n1)
  have m2 := (B3.block _ (lt_of_heap n2)).trans n2
  have S3 := sms_block (l := [smA, smA]) n3 2
  have B03 := B1.trans ((B2.mono B1.size).trans (B3.mono (Nat.le_trans B1.size B2.size)))
  have CP := cpack_any 1 1 8 _ _ 2 [smA, smA] (by decide) A3 (hw.below B03) S3
  have HWD := Hid.intro hw
  clear hw
  rw [al2, alL] at CP
  rw [z2] at CP
  rw [z1] at m2
  have CPH := Hid.intro CP
  have M1 := Hid.intro m1
  have M2 := Hid.intro m2
  have BH := Hid.intro B03
  rw [hA3, hA2, hA1] at CPH
  clear n1 n2 n3 B1 B2 B3 z1 z2 m1 m2 S3 B03 CP
  go_enter Tryd.func4, Tryd.ntmps4
  go_wp2_with fail
  refine CPH.out.mono ?_
  rintro e w4 ⟨a4, c4, rfl, r4, m4, _, B4⟩
  rw [← hA1, ← hA2, ← hA3] at B4
  have k1 := Hid.intro ((B4.block _ (lt_of_heap M1.out)).trans M1.out)
  have k2 := Hid.intro ((B4.block _ (lt_of_heap M2.out)).trans M2.out)
  have B4H := Hid.intro (BH.out.trans (B4.mono BH.out.size))
  have PR := cparse_any a4 c4 (packT 1 1 8 [smA, smA]) (by rw [alL]; decide) alY w4 (HWD.out.below B4H.out) r4 (by rw [alL]; exact m4)
  rw [(packT_parse al2).2, parseE_zero.2 (packT_parse al2).1, alL] at PR
  have PRH := Hid.intro PR
  clear CPH M1 M2 BH B4 r4 m4 PR hA1 hA2 hA3 A1 A2 A3
  go_wp2_with fail
  refine PRH.out.mono ?_
  rintro e w5 ⟨a5, c5, rfl, s5, _, _, B5⟩
  have k3 := (B5.block _ (lt_of_heap k1.out)).trans k1.out
  have k4 := (B5.block _ (lt_of_heap k2.out)).trans k2.out
  have B5H := Hid.intro (B4H.out.trans (B5.mono B4H.out.size))
  have S5 := Hid.intro s5
  have x0 : w5.cell? ⟨w.heap.size, 0, none⟩ = some (.int .i64 1) := by rw [cell_of_row _ _ 0 _ _ _ k3]; rfl
  have x1 : w5.cell? ⟨w.heap.size, 1, none⟩ = some (.int .i64 1) := by rw [cell_of_row _ _ 1 _ _ _ k3]; rfl
  have x2 : w5.cell? ⟨w.heap.size, 2, none⟩ = some (.int .i64 8) := by rw [cell_of_row _ _ 2 _ _ _ k3]; rfl
  have y0 : w5.cell? ⟨w.heap.size + 1, 0, none⟩ = some (.int .i64 1) := by rw [cell_of_row _ _ 0 _ _ _ k4]; rfl
  have y1 : w5.cell? ⟨w.heap.size + 1, 1, none⟩ = some (.int .i64 9) := by rw [cell_of_row _ _ 1 _ _ _ k4]; rfl
  have y2 : w5.cell? ⟨w.heap.size + 1, 2, none⟩ = some (.int .i64 72) := by rw [cell_of_row _ _ 2 _ _ _ k4]; rfl
  have BN := (Below.refl _ w5).alloc (Nat.le_refl _) (.cells #[.int .i64 1, .int .i64 9, .int .i64 72, .int .i64 1, .int .i64 9, .int .i64 72, .int .i64 1, .int .i64 9, .int .i64 72] 23)
  have nN := heap_alloc_new w5 (.cells #[.int .i64 1, .int .i64 9, .int .i64 72, .int .i64 1, .int .i64 9, .int .i64 72, .int .i64 1, .int .i64 9, .int .i64 72] 23)
  have CP := cpack_any 1 1 8 _ _ 3 [smA, smA, smA] (by decide) _ (HWD.out.below (B5H.out.trans (BN.mono B5H.out.size))) (sms_block (l := [smA, smA, smA]) nN 3)
  rw [al3, alT] at CP
  have CPH := Hid.intro CP
  have B5N := Hid.intro (B5H.out.trans (BN.mono B5H.out.size))
  have SN := Hid.intro (S5.out.below BN)
  have K3 := Hid.intro ((BN.block _ (lt_of_heap k3)).trans k3)
  have K4 := Hid.intro ((BN.block _ (lt_of_heap k4)).trans k4)
  clear PRH k1 k2 B4H s5 B5 k3 k4 nN CP BN B5H S5
  go_wp2_with fail
  refine CPH.out.mono ?_
  rintro e w6 ⟨a6, c6, rfl, _, _, _, B6⟩
  have S6 := Hid.intro (SN.out.below B6)
  have K5 := Hid.intro ((B6.block _ (lt_of_heap K3.out)).trans K3.out)
  have K6 := Hid.intro ((B6.block _ (lt_of_heap K4.out)).trans K4.out)
  have B6H := Hid.intro (B5N.out.trans (B6.mono B5N.out.size))
  have PN := cparse_any none 0 [] (by decide) (fun _ h => by cases h) w6 (HWD.out.below B6H.out) (fun h => by simp at h) ⟨fun _ => rfl, Nat.le_refl _⟩
  rw [alN, alM] at PN
  have PNH := Hid.intro PN
  clear CPH B5N SN K3 K4 B6 PN x0 x1 x2 y0 y1 y2
  go_wp2_with fail
  refine PNH.out.mono ?_
  rintro e w7 ⟨a7, c7, rfl, _, _, _, B7⟩
  have s7 := S6.out.below B7
  have k3 := (B7.block _ (lt_of_heap K5.out)).trans K5.out
  have k4 := (B7.block _ (lt_of_heap K6.out)).trans K6.out
  have B7H := Hid.intro (B6H.out.trans (B7.mono B6H.out.size))
  have x0 : w7.cell? ⟨w.heap.size, 0, none⟩ = some (.int .i64 1) := by rw [cell_of_row _ _ 0 _ _ _ k3]; rfl
  have x1 : w7.cell? ⟨w.heap.size, 1, none⟩ = some (.int .i64 1) := by rw [cell_of_row _ _ 1 _ _ _ k3]; rfl
  have x2 : w7.cell? ⟨w.heap.size, 2, none⟩ = some (.int .i64 8) := by rw [cell_of_row _ _ 2 _ _ _ k3]; rfl
  have y0 : w7.cell? ⟨w.heap.size + 1, 0, none⟩ = some (.int .i64 1) := by rw [cell_of_row _ _ 0 _ _ _ k4]; rfl
  have y1 : w7.cell? ⟨w.heap.size + 1, 1, none⟩ = some (.int .i64 9) := by rw [cell_of_row _ _ 1 _ _ _ k4]; rfl
  have y2 : w7.cell? ⟨w.heap.size + 1, 2, none⟩ = some (.int .i64 72) := by rw [cell_of_row _ _ 2 _ _ _ k4]; rfl
  obtain ⟨_, _, ea, hc7⟩ := s7
  simp only [Value.slice.injEq] at ea
  obtain ⟨rfl, _, rfl⟩ := ea
  obtain ⟨pb, po, rfl, _, hp⟩ := hc7 (by decide)
  obtain ⟨l0, l1, l2⟩ := hp 1 (by decide)
  have l0' : w7.cell? ⟨pb, po + 3, none⟩ = some (.int .i64 1) := l0
  have l1' : w7.cell? ⟨pb, po + 3 + 1, none⟩ = some (.int .i64 9) := l1
  have l2' : w7.cell? ⟨pb, po + 3 + 2, none⟩ = some (.int .i64 72) := l2
  have S7 := Hid.intro (S6.out.below B7)
  have se : ∀ W, (Op.equalIn 10000 23 (.agg #[.int .i64 1, .int .i64 9, .int .i64 72]) (.agg #[.int .i64 1, .int .i64 9, .int .i64 72])).run Tryd.prog W = .ok true W := fun W => smp_eq 1 9 72 1 9 72 W
  have KEEP : Hid (∀ W, Below w7.heap.size w7 W → W.cell? ⟨w.heap.size, 0, none⟩ = some (.int .i64 1) ∧ W.cell? ⟨w.heap.size, 1, none⟩ = some (.int .i64 1) ∧ W.cell? ⟨w.heap.size, 2, none⟩ = some (.int .i64 8) ∧ W.cell? ⟨w.heap.size + 1, 0, none⟩ = some (.int .i64 1) ∧ W.cell? ⟨w.heap.size + 1, 1, none⟩ = some (.int .i64 9) ∧ W.cell? ⟨w.heap.size + 1, 2, none⟩ = some (.int .i64 72) ∧ W.cell? ⟨pb, po + 3, none⟩ = some (.int .i64 1) ∧ W.cell? ⟨pb, po + 3 + 1, none⟩ = some (.int .i64 9) ∧ W.cell? ⟨pb, po + 3 + 2, none⟩ = some (.int .i64 72)) := fun W hB => ⟨cellM hB x0, cellM hB x1, cellM hB x2, cellM hB y0, cellM hB y1, cellM hB y2, cellM hB l0', cellM hB l1', cellM hB l2'⟩
  have CR : Hid (∀ W, Calls Tryd.prog 5 #[.agg #[.int .i64 1, .int .i64 9, .int .i64 72]] W fun e w' => e = .returned (.bool true) ∧ Below W.heap.size W w') := fun W => cright_any smA W
  have CN : Hid (∀ W, Calls Tryd.prog 6 #[.agg #[.int .i64 1, .int .i64 9, .int .i64 72]] W fun e w' => e = .returned (.bool true) ∧ Below W.heap.size W w') := fun W => cnumeric_any smA W
  have CW : Hid (∀ W, Calls Tryd.prog 6 #[.agg #[.int .i64 5, .int .i64 0, .int .i64 0]] W fun e w' => e = .returned (.bool false) ∧ Below W.heap.size W w') := fun W => cnumeric_any ⟨5, 0, 0⟩ W
  have CF : Hid (∀ W, Calls Tryd.prog 9 #[.agg #[.int .i64 1, .int .i64 1, .int .i64 8]] W fun e w' => e = .returned (.int .i64 2) ∧ Below W.heap.size W w') := fun W => cfits_any 1 1 8 W
  have CS : Hid (∀ W, Below w7.heap.size w7 W → Calls Tryd.prog 10 #[.slice (some ⟨pb, po, none⟩) 2 c5, .slice (some ⟨pb, po, none⟩) 2 c5] W fun e w' => e = .returned (.bool true) ∧ Below W.heap.size W w') := fun W hB => csame_any _ _ _ _ [smA, smA] [smA, smA] (by decide) (by decide) W (S7.out.below hB) (S7.out.below hB)
  have CZ : Hid (∀ W, Below w7.heap.size w7 W → Calls Tryd.prog 10 #[.slice (some ⟨pb, po, none⟩) 2 c5, .slice none 0 0] W fun e w' => e = .returned (.bool false) ∧ Below W.heap.size W w') := fun W hB => csame_any _ (fun _ => True) _ _ [smA, smA] [] (by decide) (by decide) W (S7.out.below hB) ⟨none, 0, rfl, fun q => absurd q (by simp)⟩
  clear PNH B7 B6H S6 K5 K6 hp hc7 l0 l1 l2
  go_wp2_with fail
  go_region_held3 (fun W => W.cell? ⟨w.heap.size, 0, none⟩ = some (.int .i64 1) ∧ W.cell? ⟨w.heap.size, 1, none⟩ = some (.int .i64 1) ∧ W.cell? ⟨w.heap.size, 2, none⟩ = some (.int .i64 8) ∧ W.cell? ⟨w.heap.size + 1, 0, none⟩ = some (.int .i64 1) ∧ W.cell? ⟨w.heap.size + 1, 1, none⟩ = some (.int .i64 9) ∧ W.cell? ⟨w.heap.size + 1, 2, none⟩ = some (.int .i64 72) ∧ W.cell? ⟨pb, po + 3, none⟩ = some (.int .i64 1) ∧ W.cell? ⟨pb, po + 3 + 1, none⟩ = some (.int .i64 9) ∧ W.cell? ⟨pb, po + 3 + 2, none⟩ = some (.int .i64 72))
    (first | exact KEEP.out _ E13 | exact KEEP.out _ E12 | exact KEEP.out _ E11 | exact KEEP.out _ E10 | exact KEEP.out _ E9 | exact KEEP.out _ E8 | go_keep)
    (first
      | (go_at_call 5; refine (CR.out _).mono ?_; rintro e w8 ⟨rfl, B8⟩; have E8 : Below w7.heap.size w7 w8 := undrewM B8; clear B8)
      | (have _ := E9; go_at_call 6; refine (CW.out _).mono ?_; rintro e w10 ⟨rfl, B10⟩; have E10 := E9.trans (B10.mono E9.size); clear B10)
      | (go_at_call 6; refine (CN.out _).mono ?_; rintro e w9 ⟨rfl, B9⟩; have E9 := E8.trans (B9.mono E8.size); clear B9)
      | (go_at_call 9; refine (CF.out _).mono ?_; rintro e w11 ⟨rfl, B11⟩; have E11 := E10.trans (B11.mono E10.size); clear B11)
      | (have _ := E12; go_at_call 10; refine (CZ.out _ E12).mono ?_; rintro e w13 ⟨rfl, B13⟩; have E13 := E12.trans (B13.mono E12.size); clear B13)
      | (go_at_call 10; refine (CS.out _ E11).mono ?_; rintro e w12 ⟨rfl, B12⟩; have E12 := E11.trans (B12.mono E11.size); clear B12))
  all_goals
    go_wp2
    go_ret
    exact ⟨rfl, B7H.out.trans (E13.mono B7H.out.size)⟩

end Go.Proofs.YthbfdfkkacmbhabDoor
