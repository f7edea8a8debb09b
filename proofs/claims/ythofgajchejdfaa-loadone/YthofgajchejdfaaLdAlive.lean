/- The laws' own 'alive' of layer 11. -/
import Derived.Test.YthofgajchejdfaaLdCon
import Derived.Deep.RegionHeld3
namespace Go.Proofs.Ythofgajchejdfaa
open Go.RowKit
open Bt

/-- The beds of 'alive'. -/
def bdA : Bdd := ⟨1, 1, 4, 3, 9, 0⟩
def bdB : Bdd := ⟨2, 2, 4, 1, 9, 0⟩
def bdC : Bdd := ⟨3, 3, 60, 1, 9, 0⟩

theorem ld1 : admitE [bdA] bdB 1 = 0 ∧ admitL [bdA] bdB 1 = [bdA, bdB] := by decide
theorem ld2 : admitE [bdA, bdB] bdC 1 = 10 ∧ admitL [bdA, bdB] bdC 1 = [] := by decide
theorem ld3 : dischE [bdA, bdB] 1 = 0 ∧ dischL [bdA, bdB] 1 = [bdB] := by decide
theorem ld4 : ofB bdA = 45 ∧ sumB [bdA, bdB] = 60 ∧ fitsB [bdA, bdB] 1 = true ∧ fitsB [bdA, bdB] 0 = false ∧ placeB (·.bid) [bdA, bdB] 2 = 1 ∧ placeB (·.tx) [bdA, bdB] 1 = 0 ∧ mayB bdA = true := by decide

theorem cellB {w w' : World} {a : Addr} {v : Value} (h : Below w.heap.size w w') (hc : w.cell? a = some v) : w'.cell? a = some v := (h.cell (cell_lt hc)).trans hc

theorem undrewB {w w' : World} (h : Below w.drew.heap.size w.drew w') : Below w.heap.size w w' := ⟨h.os, h.tape, h.output, h.size, h.block⟩

set_option maxRecDepth 100000 in
set_option maxHeartbeats 2000000 in
theorem alive11_any (w : World) :
    Calls Try.prog 9 #[] w fun e w' => e = .returned (.bool true) ∧ Below w.heap.size w w' := by
  obtain ⟨A1, hA1⟩ : ∃ A1, A1 = w.alloc (.cells #[.int .i64 1, .int .i64 1, .int .i64 4, .int .i64 3, .int .i64 9, .int .i64 0] 27) := ⟨_, rfl⟩
  obtain ⟨A2, hA2⟩ : ∃ A2, A2 = A1.alloc (.cells #[.int .i64 2, .int .i64 2, .int .i64 4, .int .i64 1, .int .i64 9, .int .i64 0] 27) := ⟨_, rfl⟩
  obtain ⟨A3, hA3⟩ : ∃ A3, A3 = A2.alloc (.cells #[.int .i64 1, .int .i64 1, .int .i64 4, .int .i64 3, .int .i64 9, .int .i64 0] 27) := ⟨_, rfl⟩
  have B1 : Below w.heap.size w A1 := by rw [hA1]; exact (Below.refl _ w).alloc (Nat.le_refl _) _
  have B2 : Below A1.heap.size A1 A2 := by rw [hA2]; exact (Below.refl _ A1).alloc (Nat.le_refl _) _
  have B3 : Below A2.heap.size A2 A3 := by rw [hA3]; exact (Below.refl _ A2).alloc (Nat.le_refl _) _
  have n1 : A1.heap[w.heap.size]? = some (.cells #[.int .i64 1, .int .i64 1, .int .i64 4, .int .i64 3, .int .i64 9, .int .i64 0] 27 (0, 0)) := by rw [hA1]; exact heap_alloc_new w _
  have n3 : A3.heap[A2.heap.size]? = some (.cells #[.int .i64 1, .int .i64 1, .int .i64 4, .int .i64 3, .int .i64 9, .int .i64 0] 27 (0, 0)) := by rw [hA3]; exact heap_alloc_new A2 _
  have z1 : A1.heap.size = w.heap.size + 1 := by rw [hA1, World.size_alloc]
  have z2 : A2.heap.size = w.heap.size + 1 + 1 := by rw [hA2, World.size_alloc, z1]
  have m1 := (B3.block _ (Nat.lt_of_lt_of_le (lt_of_heap n1) B2.size)).trans ((B2.block _ (lt_of_heap n1)).trans n1)
  have S3 := bds_block (l := [bdA]) n3 1
  have B03 := B1.trans ((B2.mono B1.size).trans (B3.mono (Nat.le_trans B1.size B2.size)))
  have CP := ladmit_any _ _ 1 [bdA] (by decide) ⟨by decide, fun h => by cases h⟩ bdB 1 (by decide) A3 S3
  rw [ld1.1, ld1.2] at CP
  rw [z2] at CP
  have CPH := Hid.intro CP
  have M1 := Hid.intro m1
  have BH := Hid.intro B03
  rw [hA3, hA2, hA1] at CPH
  clear n1 n3 B1 B2 B3 z1 z2 m1 S3 B03 CP
  go_enter Try.func9, Try.ntmps9
  go_wp2_with fail
  refine CPH.out.mono ?_
  rintro e w4 ⟨a4, d4, rfl, s4, r4, B4⟩
  rw [← hA1, ← hA2, ← hA3] at B4
  have k1 := Hid.intro ((B4.block _ (lt_of_heap M1.out)).trans M1.out)
  have B4H := Hid.intro (BH.out.trans (B4.mono BH.out.size))
  have S4 := Hid.intro s4
  have R4 := Hid.intro r4
  have CP2 := ladmit_any _ a4 d4 [bdA, bdB] (by decide) r4 bdC 1 (by decide) w4 s4
  rw [ld2.1, ld2.2] at CP2
  have CP2H := Hid.intro CP2
  clear CPH M1 BH B4 s4 r4 CP2 hA1 hA2 hA3 A1 A2 A3
  go_wp2_with fail
  refine CP2H.out.mono ?_
  rintro e w5 ⟨a5, d5, rfl, _, _, B5⟩
  have k2 := Hid.intro ((B5.block _ (lt_of_heap k1.out)).trans k1.out)
  have B5H := Hid.intro (B4H.out.trans (B5.mono B4H.out.size))
  have S5 := Hid.intro (S4.out.below B5)
  have DI := ldischarge_any _ a4 d4 [bdA, bdB] (by decide) R4.out 1 w5 S5.out
  rw [ld3.1, ld3.2] at DI
  have DIH := Hid.intro DI
  clear CP2H k1 B4H S4 B5 DI
  go_wp2_with fail
  refine DIH.out.mono ?_
  rintro e w6 ⟨a6, d6, rfl, _, _, B6⟩
  have k3 := (B6.block _ (lt_of_heap k2.out)).trans k2.out
  have B6H := Hid.intro (B5H.out.trans (B6.mono B5H.out.size))
  have S6 := Hid.intro (S5.out.below B6)
  have x0 : w6.cell? ⟨w.heap.size, 0, none⟩ = some (.int .i64 1) := by rw [cell_of_row _ _ 0 _ _ _ k3]; rfl
  have x1 : w6.cell? ⟨w.heap.size, 1, none⟩ = some (.int .i64 1) := by rw [cell_of_row _ _ 1 _ _ _ k3]; rfl
  have x2 : w6.cell? ⟨w.heap.size, 2, none⟩ = some (.int .i64 4) := by rw [cell_of_row _ _ 2 _ _ _ k3]; rfl
  have x3 : w6.cell? ⟨w.heap.size, 3, none⟩ = some (.int .i64 3) := by rw [cell_of_row _ _ 3 _ _ _ k3]; rfl
  have x4 : w6.cell? ⟨w.heap.size, 4, none⟩ = some (.int .i64 9) := by rw [cell_of_row _ _ 4 _ _ _ k3]; rfl
  have x5 : w6.cell? ⟨w.heap.size, 5, none⟩ = some (.int .i64 0) := by rw [cell_of_row _ _ 5 _ _ _ k3]; rfl
  clear DIH k2 B5H S5 B6
  have S := S6
  have B := B6H
  clear S6 B6H k3
  have CX := lof_any bdA w6
  rw [ld4.1] at CX
  have CXH := Hid.intro CX
  clear CX
  go_wp2_with fail
  refine CXH.out.mono ?_
  rintro e w7 ⟨rfl, BN⟩
  have SN := Hid.intro (S.out.below BN)
  have BB := Hid.intro (B.out.trans (BN.mono B.out.size))
  have y0 := cellB BN x0
  have y1 := cellB BN x1
  have y2 := cellB BN x2
  have y3 := cellB BN x3
  have y4 := cellB BN x4
  have y5 := cellB BN x5
  clear CXH BN S B x0 x1 x2 x3 x4 x5
  rename Hid (BdsAt _ w7 _ _) => S
  rename Hid (Below _ _ w7) => B
  rename w7.cell? ⟨w.heap.size, 0, none⟩ = _ => x0
  rename w7.cell? ⟨w.heap.size, 1, none⟩ = _ => x1
  rename w7.cell? ⟨w.heap.size, 2, none⟩ = _ => x2
  rename w7.cell? ⟨w.heap.size, 3, none⟩ = _ => x3
  rename w7.cell? ⟨w.heap.size, 4, none⟩ = _ => x4
  rename w7.cell? ⟨w.heap.size, 5, none⟩ = _ => x5
  have CX := lsum_any _ _ [bdA, bdB] (by decide) w7 S.out
  rw [ld4.2.1] at CX
  have CXH := Hid.intro CX
  clear CX
  go_wp2_with fail
  refine CXH.out.mono ?_
  rintro e w8 ⟨rfl, BN⟩
  have SN := Hid.intro (S.out.below BN)
  have BB := Hid.intro (B.out.trans (BN.mono B.out.size))
  have y0 := cellB BN x0
  have y1 := cellB BN x1
  have y2 := cellB BN x2
  have y3 := cellB BN x3
  have y4 := cellB BN x4
  have y5 := cellB BN x5
  clear CXH BN S B x0 x1 x2 x3 x4 x5
  rename Hid (BdsAt _ w8 _ _) => S
  rename Hid (Below _ _ w8) => B
  rename w8.cell? ⟨w.heap.size, 0, none⟩ = _ => x0
  rename w8.cell? ⟨w.heap.size, 1, none⟩ = _ => x1
  rename w8.cell? ⟨w.heap.size, 2, none⟩ = _ => x2
  rename w8.cell? ⟨w.heap.size, 3, none⟩ = _ => x3
  rename w8.cell? ⟨w.heap.size, 4, none⟩ = _ => x4
  rename w8.cell? ⟨w.heap.size, 5, none⟩ = _ => x5
  have CX := lfits_any _ _ [bdA, bdB] (by decide) 1 (by decide) w8 S.out (roomV R4.out.1)
  rw [ld4.2.2.1] at CX
  have CXH := Hid.intro CX
  clear CX
  go_wp2_with fail
  refine CXH.out.mono ?_
  rintro e w9 ⟨rfl, BN⟩
  have SN := Hid.intro (S.out.below BN)
  have BB := Hid.intro (B.out.trans (BN.mono B.out.size))
  have y0 := cellB BN x0
  have y1 := cellB BN x1
  have y2 := cellB BN x2
  have y3 := cellB BN x3
  have y4 := cellB BN x4
  have y5 := cellB BN x5
  clear CXH BN S B x0 x1 x2 x3 x4 x5
  rename Hid (BdsAt _ w9 _ _) => S
  rename Hid (Below _ _ w9) => B
  rename w9.cell? ⟨w.heap.size, 0, none⟩ = _ => x0
  rename w9.cell? ⟨w.heap.size, 1, none⟩ = _ => x1
  rename w9.cell? ⟨w.heap.size, 2, none⟩ = _ => x2
  rename w9.cell? ⟨w.heap.size, 3, none⟩ = _ => x3
  rename w9.cell? ⟨w.heap.size, 4, none⟩ = _ => x4
  rename w9.cell? ⟨w.heap.size, 5, none⟩ = _ => x5
  have CX := lfits_any _ _ [bdA, bdB] (by decide) 0 (by decide) w9 S.out (roomV R4.out.1)
  rw [ld4.2.2.2.1] at CX
  have CXH := Hid.intro CX
  clear CX
  go_wp2_with fail
  refine CXH.out.mono ?_
  rintro e w10 ⟨rfl, BN⟩
  have SN := Hid.intro (S.out.below BN)
  have BB := Hid.intro (B.out.trans (BN.mono B.out.size))
  have y0 := cellB BN x0
  have y1 := cellB BN x1
  have y2 := cellB BN x2
  have y3 := cellB BN x3
  have y4 := cellB BN x4
  have y5 := cellB BN x5
  clear CXH BN S B x0 x1 x2 x3 x4 x5
  rename Hid (BdsAt _ w10 _ _) => S
  rename Hid (Below _ _ w10) => B
  rename w10.cell? ⟨w.heap.size, 0, none⟩ = _ => x0
  rename w10.cell? ⟨w.heap.size, 1, none⟩ = _ => x1
  rename w10.cell? ⟨w.heap.size, 2, none⟩ = _ => x2
  rename w10.cell? ⟨w.heap.size, 3, none⟩ = _ => x3
  rename w10.cell? ⟨w.heap.size, 4, none⟩ = _ => x4
  rename w10.cell? ⟨w.heap.size, 5, none⟩ = _ => x5
  have CX := lfind_any _ _ [bdA, bdB] (by decide) 2 w10 S.out
  rw [ld4.2.2.2.2.1] at CX
  have CXH := Hid.intro CX
  clear CX
  go_wp2_with fail
  refine CXH.out.mono ?_
  rintro e w11 ⟨rfl, BN⟩
  have SN := Hid.intro (S.out.below BN)
  have BB := Hid.intro (B.out.trans (BN.mono B.out.size))
  have y0 := cellB BN x0
  have y1 := cellB BN x1
  have y2 := cellB BN x2
  have y3 := cellB BN x3
  have y4 := cellB BN x4
  have y5 := cellB BN x5
  clear CXH BN S B x0 x1 x2 x3 x4 x5
  rename Hid (BdsAt _ w11 _ _) => S
  rename Hid (Below _ _ w11) => B
  rename w11.cell? ⟨w.heap.size, 0, none⟩ = _ => x0
  rename w11.cell? ⟨w.heap.size, 1, none⟩ = _ => x1
  rename w11.cell? ⟨w.heap.size, 2, none⟩ = _ => x2
  rename w11.cell? ⟨w.heap.size, 3, none⟩ = _ => x3
  rename w11.cell? ⟨w.heap.size, 4, none⟩ = _ => x4
  rename w11.cell? ⟨w.heap.size, 5, none⟩ = _ => x5
  have CX := lowner_any _ _ [bdA, bdB] (by decide) 1 w11 S.out
  rw [ld4.2.2.2.2.2.1] at CX
  have CXH := Hid.intro CX
  clear CX
  go_wp2_with fail
  refine CXH.out.mono ?_
  rintro e w12 ⟨rfl, BN⟩
  have SN := Hid.intro (S.out.below BN)
  have BB := Hid.intro (B.out.trans (BN.mono B.out.size))
  have y0 := cellB BN x0
  have y1 := cellB BN x1
  have y2 := cellB BN x2
  have y3 := cellB BN x3
  have y4 := cellB BN x4
  have y5 := cellB BN x5
  clear CXH BN S B x0 x1 x2 x3 x4 x5
  rename Hid (BdsAt _ w12 _ _) => S
  rename Hid (Below _ _ w12) => B
  rename w12.cell? ⟨w.heap.size, 0, none⟩ = _ => x0
  rename w12.cell? ⟨w.heap.size, 1, none⟩ = _ => x1
  rename w12.cell? ⟨w.heap.size, 2, none⟩ = _ => x2
  rename w12.cell? ⟨w.heap.size, 3, none⟩ = _ => x3
  rename w12.cell? ⟨w.heap.size, 4, none⟩ = _ => x4
  rename w12.cell? ⟨w.heap.size, 5, none⟩ = _ => x5
  have CX := lmay_any bdA w12
  rw [ld4.2.2.2.2.2.2] at CX
  have CXH := Hid.intro CX
  clear CX
  go_wp2_with fail
  refine CXH.out.mono ?_
  rintro e w13 ⟨rfl, BN⟩
  have SN := Hid.intro (S.out.below BN)
  have BB := Hid.intro (B.out.trans (BN.mono B.out.size))
  have y0 := cellB BN x0
  have y1 := cellB BN x1
  have y2 := cellB BN x2
  have y3 := cellB BN x3
  have y4 := cellB BN x4
  have y5 := cellB BN x5
  clear CXH BN S B x0 x1 x2 x3 x4 x5
  rename Hid (BdsAt _ w13 _ _) => S
  rename Hid (Below _ _ w13) => B
  rename w13.cell? ⟨w.heap.size, 0, none⟩ = _ => x0
  rename w13.cell? ⟨w.heap.size, 1, none⟩ = _ => x1
  rename w13.cell? ⟨w.heap.size, 2, none⟩ = _ => x2
  rename w13.cell? ⟨w.heap.size, 3, none⟩ = _ => x3
  rename w13.cell? ⟨w.heap.size, 4, none⟩ = _ => x4
  rename w13.cell? ⟨w.heap.size, 5, none⟩ = _ => x5
  go_wp2
  go_ret
  exact ⟨rfl, B.out⟩

end Go.Proofs.Ythofgajchejdfaa
