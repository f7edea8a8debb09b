/- Package record: getSample: a sample's fields, by an eye's method value. -/
import Derived.Test.YthhggjakenalpaaGreatDoorRcW
import Derived.Test.YthhggjakenalpaaGreatDoorRcPs
import Derived.Test.YthhggjakenalpaaGreatDoorMFrmA
import Derived.Test.YthhggjakenalpaaGreatDoorRcK1
import Derived.Test.YthhggjakenalpaaGreatDoorRowTmp
import Derived.Deep.RegionHeld3
namespace Go.Proofs.YthhggjakenalpaaGreatDoor
set_option maxRecDepth 100000
open Go.RowKit
open Bt

/-- An eye's Get, as a value. -/
abbrev getV (eb : Nat) : Value := .func (.func 71) #[.pointer (some ⟨eb, 0, none⟩)] #[]

/-- The field of bytes from the i-th on, by its place. -/
def gR (bs : List Nat) (i k : Nat) : Nat := num (((unpack bs).drop (8 * i + sR k)).take (wR k))

/-- What stands in the array when the first k fields were got. -/
def gT (bs : List Nat) (i k j : Nat) : Nat := if j < k then gR bs i j else 0

def gM (bs : List Nat) (i k : Nat) : Array Value := #[.int .i64 (gT bs i k 0 : Int), .int .i64 (gT bs i k 1 : Int), .int .i64 (gT bs i k 2 : Int), .int .i64 (gT bs i k 3 : Int)]

theorem gM_zero (bs : List Nat) (i : Nat) : gM bs i 0 = #[.int .i64 0, .int .i64 0, .int .i64 0, .int .i64 0] := by simp [gM, gT]

theorem gM_succ (bs : List Nat) (i k : Nat) (hk : k < 4) : (gM bs i k).setIfInBounds k (.int .i64 (gR bs i k : Int)) = gM bs i (k + 1) := by
  match k, hk with
  | 0, _ => simp [gM, gT]
  | 1, _ => simp [gM, gT]
  | 2, _ => simp [gM, gT]
  | 3, _ => simp [gM, gT]

theorem gM_cell {w : World} {b i k : Nat} {t : TypeId} {fr : Nat × Nat} {bs : List Nat} (h : w.heap[b]? = some (.cells (gM bs i k) t fr)) (j : Nat) (hj : j < 4) : w.cell? ⟨b, j, none⟩ = some (.int .i64 (gT bs i k j : Int)) := by
  rw [cell_of_row _ _ _ _ _ _ h]
  match j, hj with
  | 0, _ => rfl
  | 1, _ => rfl
  | 2, _ => rfl
  | 3, _ => rfl

theorem part_of (l : List Nat) (a s m : Nat) (h : s + m ≤ 24) : (l.drop (a + s)).take m = (((l.drop a).take 24).drop s).take m := by
  rw [List.drop_take, List.take_take, List.drop_drop, Nat.min_eq_left (by omega)]

/-- The number of three bytes. -/
def nR (bs : List Nat) (i : Nat) : Nat := readB ((bs.drop i).take 3)

theorem gR_parts {bs : List Nat} {i : Nat} (h : i + 3 ≤ bs.length) (hY : ∀ b ∈ bs, b < 256) : gR bs i 0 = nR bs i / 2097152 ∧ gR bs i 1 = nR bs i / 8192 % 256 ∧ gR bs i 2 = nR bs i / 8 % 1024 ∧ gR bs i 3 = nR bs i % 8 := by
  have u := unpack_at h hY
  have q := num_parts (readB3 hY i)
  unfold gR nR
  rw [part_of _ _ (sR 0) (wR 0) (by decide), part_of _ _ (sR 1) (wR 1) (by decide), part_of _ _ (sR 2) (wR 2) (by decide), part_of _ _ (sR 3) (wR 3) (by decide), u]
  exact q

/-- The sample that stands there, and whether there is one, and it is right. -/
def gS (bs : List Nat) (i : Nat) : Smp := if i + 3 ≤ bs.length then smOf (nR bs i) else ⟨0, 0, 0⟩

def gO (bs : List Nat) (i : Nat) : Bool := decide (i + 3 ≤ bs.length) && (decide (nR bs i % 8 = 0) && rightM (smOf (nR bs i)))

theorem set3_heap (w : World) (b : Nat) (t : TypeId) (u0 u1 u2 v0 v1 v2 : Value) (h : w.heap[b]? = some (.cells #[u0, u1, u2] t (0, 0))) :
    (((w.setCell ⟨b, 0, none⟩ v0).setCell ⟨b, 1, none⟩ v1).setCell ⟨b, 2, none⟩ v2).heap[b]? = some (.cells #[v0, v1, v2] t (0, 0)) := by
  have h0 : (w.setCell ⟨b, 0, none⟩ v0).heap[b]? = some (.cells #[v0, u1, u2] t (0, 0)) := by
    have q := heap_setCell_same w b 0 _ _ v0 h
    simpa only [List.setIfInBounds_toArray, List.set_cons_zero, List.set_cons_succ] using q
  have h1 : ((w.setCell ⟨b, 0, none⟩ v0).setCell ⟨b, 1, none⟩ v1).heap[b]? = some (.cells #[v0, v1, u2] t (0, 0)) := by
    have q := heap_setCell_same (w.setCell ⟨b, 0, none⟩ v0) b 1 _ _ v1 h0
    simpa only [List.setIfInBounds_toArray, List.set_cons_zero, List.set_cons_succ] using q
  have q := heap_setCell_same ((w.setCell ⟨b, 0, none⟩ v0).setCell ⟨b, 1, none⟩ v1) b 2 _ _ v2 h1
  simpa only [List.setIfInBounds_toArray, List.set_cons_zero, List.set_cons_succ] using q

theorem set3_chg {S : Nat → Prop} {a w : World} (h : Chg S a w) (b : Nat) (hb : b < a.heap.size → S b) (v0 v1 v2 : Value) : Chg S a (((w.setCell ⟨b, 0, none⟩ v0).setCell ⟨b, 1, none⟩ v1).setCell ⟨b, 2, none⟩ v2) :=
  ((h.setCell (p := ⟨b, 0, none⟩) hb v0).setCell (p := ⟨b, 1, none⟩) hb v1).setCell (p := ⟨b, 2, none⟩) hb v2

theorem undrewG {w w' : World} (h : Below w.drew.heap.size w.drew w') : Below w.heap.size w w' := ⟨h.os, h.tape, h.output, h.size, h.block⟩

set_option maxRecDepth 100000 in
set_option maxHeartbeats 2000000 in
theorem getSample_any (eb g : Nat) (bs : List Nat) (i : Nat) (w : World) (hw : WidR w) (hE : EyeAt w eb g bs (8 * i)) :
    Calls Tryz.prog 72 #[getV eb] w fun e w' => e = .returned (.tuple #[Sm (gS bs i), .bool (gO bs i)]) ∧ (gO bs i = true → EyeAt w' eb g bs (8 * (i + 3))) ∧ Chg (fun k => k = eb) w w' := by
  obtain ⟨S, hS⟩ : ∃ S, S = gS bs i := ⟨_, rfl⟩
  obtain ⟨O, hO⟩ : ∃ O, O = gO bs i := ⟨_, rfl⟩
  rw [← hS, ← hO]
  have HS := Hid.intro hS
  have HO := Hid.intro hO
  have HY := Hid.intro hE.byte
  have HW := Hid.intro hw
  have HE := Hid.intro hE
  clear hS hO hw hE
  have B0 := (Below.refl _ w).alloc (Nat.le_refl _) (.cells #[.int .i64 0, .int .i64 0, .int .i64 0] 35)
  have BX := B0.alloc (World.size_alloc w _ ▸ Nat.le_succ _) (.cells #[.int .i64 0, .int .i64 0, .int .i64 0, .int .i64 0] 148)
  have hX0 := heap_alloc2_old w (.cells #[.int .i64 0, .int .i64 0, .int .i64 0] 35) (.cells #[.int .i64 0, .int .i64 0, .int .i64 0, .int .i64 0] 148)
  have hX1 := heap_alloc2_new w (.cells #[.int .i64 0, .int .i64 0, .int .i64 0] 35) (.cells #[.int .i64 0, .int .i64 0, .int .i64 0, .int .i64 0] 148)
  obtain ⟨tW, frW, hWW⟩ := HW.out.below BX
  obtain ⟨X, hX⟩ : ∃ X, X = (w.alloc (.cells #[.int .i64 0, .int .i64 0, .int .i64 0] 35)).alloc (.cells #[.int .i64 0, .int .i64 0, .int .i64 0, .int .i64 0] 148) := ⟨_, rfl⟩
  have HX := Hid.intro hX
  have HWW := Hid.intro hWW
  rw [← hX] at BX hX0 hX1
  have C5 : Chg (fun k => k = eb) w X := (below_chg BX).mono (fun _ h _ => h.elim)
  have E5 := HE.out.kept (S := fun _ => False) (below_chg BX) id id
  have hb01 : ¬ w.heap.size = w.heap.size + 1 := by omega
  have hne0 : ¬ eb = w.heap.size := by have := HE.out.lt; omega
  have hne1 : ¬ eb = w.heap.size + 1 := by have := HE.out.lt; omega
  have hg1 : ¬ g = w.heap.size + 1 := by have := HE.out.row.lt; omega
  have hg0 : ¬ g = w.heap.size := by have := HE.out.row.lt; omega
  have EH := Hid.intro E5
  have CH := Hid.intro C5
  have X0 := Hid.intro hX0
  have X1 := Hid.intro hX1
  clear B0 BX hX hWW hX0 hX1 C5 E5 HE
  go_enter Tryz.func72, Tryz.ntmps72
  go_wp2_with (refine wpList_load_row rfl 148 (.global 1) rfl 1 rfl tW #[.int .i64 3, .int .i64 8, .int .i64 10, .int .i64 3] frW _ HWW.out Tryz.underlying148 rfl (by kernel_rfl) ?_)
  rw [← HX.out]
  have WI := Hid.intro widR_index
  clear HWW HX HW
  have hb0 := X0.out
  generalize hq0 : w.heap.size = b0 at *
  generalize hq1 : b0 + 1 = b1 at *
  have HQ := Hid.intro (And.intro hq0 hq1)
  clear hq0 hq1 hb0
  go_loopw [11] (fun iv wr => ∃ k : Nat, k ≤ 4 ∧ iv = .int .i64 k ∧ EyeAt wr eb g bs (8 * i + sR k) ∧ wr.heap[b1]? = some (.cells (gM bs i k) 148 (0, 0)) ∧ wr.heap[b0]? = some (.cells #[.int .i64 0, .int .i64 0, .int .i64 0] 35 (0, 0)) ∧ Chg (fun k => k = eb) w wr) (fun iv _ => 4 - (intOf iv).toNat)
  case atStart => exact ⟨0, by omega, rfl, EH.out, by rw [gM_zero]; exact X1.out, X0.out, CH.out⟩
  case round =>
    obtain ⟨k, hk, rfl, he, hh1, hh0, hc⟩ := hrel
    have E := Hid.intro he
    have G1 := Hid.intro hh1
    have G0 := Hid.intro hh0
    have C := Hid.intro hc
    clear he hh1 hh0 hc EH X1 X0 CH
    by_cases hlt : k < 4
    · have i0 : (0 : Int) ≤ (k : Int) := by omega
      have i1 : (k : Int) < 4 := by omega
      have wi := WI.out k hlt
      have hw1 := wR_le k hlt
      have hw2 := sR_le k hlt
      by_cases hok : wR k ≤ 8 * bs.length - (8 * i + sR k)
      · have HC := Hid.intro (get_yes eb g bs (8 * i + sR k) (wR k) wr E.out hw1.1 hw1.2 hok)
        have hS : 8 * i + sR k + wR k = 8 * i + sR (k + 1) := by rw [sR]; omega
        have hG : gR bs i k = num (((unpack bs).drop (8 * i + sR k)).take (wR k)) := rfl
        rw [← hG, hS] at HC
        have HSS := Hid.intro (gM_succ bs i k hlt)
        clear hS hG hw2 hok
        generalize gR bs i k = V at HC HSS
        generalize wR k = M at HC wi hw1
        go_wp2_with fail
        refine HC.out.mono ?_
        rintro e w1 ⟨rfl, E1, C1⟩
        have q1 : w1.heap[b1]? = some (.cells (gM bs i k) 148 (0, 0)) := (C1.block b1 (lt_of_heap G1.out) (fun h => hne1 h.symm)).trans G1.out
        have q0 : w1.heap[b0]? = some (.cells #[.int .i64 0, .int .i64 0, .int .i64 0] 35 (0, 0)) := (C1.block b0 (lt_of_heap G0.out) (fun h => hne0 h.symm)).trans G0.out
        have c := gM_cell q1 k hlt
        have f := frozen_of_row _ _ k _ _ q1
        have n1 : (w1.setCell ⟨b1, k, none⟩ (.int .i64 (V : Int))).heap[b1]? = some (.cells (gM bs i (k + 1)) 148 (0, 0)) := by
          rw [← HSS.out]; exact heap_setCell_same w1 b1 k _ _ _ q1
        have n0 : (w1.setCell ⟨b1, k, none⟩ (.int .i64 (V : Int))).heap[b0]? = some (.cells #[.int .i64 0, .int .i64 0, .int .i64 0] 35 (0, 0)) := (heap_setCell_other w1 ⟨b1, k, none⟩ b0 _ hb01).trans q0
        have nE : EyeAt (w1.setCell ⟨b1, k, none⟩ (.int .i64 (V : Int))) eb g bs (8 * i + sR (k + 1)) := E1.kept ((Chg.refl (fun j => j = b1) w1).setCell (fun _ => rfl) _) hne1 hg1
        have nC : Chg (fun k => k = eb) w (w1.setCell ⟨b1, k, none⟩ (.int .i64 (V : Int))) := (C.out.trans C1 (fun _ h _ => h)).setCell (fun h => by have := HQ.out; simp only at h; omega) _
        have N1 := Hid.intro n1
        have N0 := Hid.intro n0
        have NE := Hid.intro nE
        have NC := Hid.intro nC
        clear n1 n0 nE nC q0 q1 C1 E1 HC E G1 G0 C
        go_wp2
        go_roundw
        case rel => exact ⟨k + 1, by omega, by go_num, NE.out, N1.out, N0.out, NC.out⟩
        case measure => simp [intOf]; omega
      · have hno : ¬ i + 3 ≤ bs.length := by omega
        have HC := Hid.intro (get_no eb g bs (8 * i + sR k) (wR k : Int) wr E.out (.inr (by omega)))
        have hSz : S = ⟨0, 0, 0⟩ := by rw [HS.out]; unfold gS; rw [if_neg hno]
        have hOz : O = false := by rw [HO.out]; unfold gO; rw [decide_eq_false hno]; rfl
        subst hSz hOz
        clear HS HO hno hok hw2
        generalize wR k = M at HC wi hw1
        go_wp2_with fail
        refine HC.out.mono ?_
        rintro e w1 ⟨rfl, nn, rfl⟩
        have q0 : (wr.drewN nn).heap[b0]? = some (.cells #[.int .i64 0, .int .i64 0, .int .i64 0] 35 (0, 0)) := G0.out
        have z0 : (wr.drewN nn).cell? ⟨b0, 0, none⟩ = some (.int .i64 0) := by rw [cell_of_row _ _ 0 _ _ _ q0]; rfl
        have z1 : (wr.drewN nn).cell? ⟨b0, 1, none⟩ = some (.int .i64 0) := by rw [cell_of_row _ _ 1 _ _ _ q0]; rfl
        have z2 : (wr.drewN nn).cell? ⟨b0, 2, none⟩ = some (.int .i64 0) := by rw [cell_of_row _ _ 2 _ _ _ q0]; rfl
        have f0 : (wr.drewN nn).frozen? ⟨b0, 0, none⟩ = false := frozen_of_row _ _ _ _ _ q0
        have f1 : (wr.drewN nn).frozen? ⟨b0, 1, none⟩ = false := frozen_of_row _ _ _ _ _ q0
        have f2 : (wr.drewN nn).frozen? ⟨b0, 2, none⟩ = false := frozen_of_row _ _ _ _ _ q0
        have kk := set3_heap (wr.drewN nn) b0 35 _ _ _ (.int .i64 0) (.int .i64 0) (.int .i64 0) q0
        have cc := set3_chg (C.out.drewN nn) b0 (fun h => by have := HQ.out; omega) (.int .i64 0) (.int .i64 0) (.int .i64 0)
        have KK := Hid.intro kk
        have CC := Hid.intro cc
        clear kk cc q0 HC E G1 G0 C
        go_wp2_with fail
        (try simp only [Exit.inBlock, Exit.then])
        refine bodyPost_ret (results_row_tmp rfl _ _ b0 35 #[.int .i64 0, .int .i64 0, .int .i64 0] (0, 0) _ rfl KK.out Tryz.underlying35 rfl (by kernel_rfl)) rfl ?_
        exact ⟨rfl, (fun h => by cases h), CC.out⟩
    · obtain rfl : k = 4 := by omega
      have h3 : i + 3 ≤ bs.length := by
        have q := E.out.pos_le
        have q4 : sR 4 = 24 := rfl
        omega
      have hE24 : EyeAt wr eb g bs (8 * (i + 3)) := by
        have q := E.out
        rw [show 8 * i + sR 4 = 8 * (i + 3) by rw [show sR 4 = 24 from rfl]; omega] at q
        exact q
      have HP := gR_parts h3 HY.out
      have hSe : S = ⟨((gR bs i 0 : Nat) : Int), ((gR bs i 1 : Nat) : Int), ((gR bs i 2 : Nat) : Int)⟩ := by
        rw [HS.out, HP.1, HP.2.1, HP.2.2.1]; unfold gS; rw [if_pos h3]; rfl
      have hOe : O = (decide (gR bs i 3 = 0) && rightM ⟨((gR bs i 0 : Nat) : Int), ((gR bs i 1 : Nat) : Int), ((gR bs i 2 : Nat) : Int)⟩) := by
        rw [HO.out, HP.1, HP.2.1, HP.2.2.1, HP.2.2.2]; unfold gO; rw [decide_eq_true h3, Bool.true_and]; rfl
      have c0 := gM_cell G1.out 0 (by decide)
      have c1 := gM_cell G1.out 1 (by decide)
      have c2 := gM_cell G1.out 2 (by decide)
      have c3 := gM_cell G1.out 3 (by decide)
      have hg : ∀ j, j < 4 → gT bs i 4 j = gR bs i j := fun j hj => by simp [gT, hj]
      rw [hg 0 (by decide)] at c0
      rw [hg 1 (by decide)] at c1
      rw [hg 2 (by decide)] at c2
      rw [hg 3 (by decide)] at c3
      clear HP hg
      generalize gR bs i 0 = V0 at *
      generalize gR bs i 1 = V1 at *
      generalize gR bs i 2 = V2 at *
      generalize gR bs i 3 = V3 at *
      subst hSe
      have EE := Hid.intro hE24
      clear HS HO WI hE24 E
      have HOE := Hid.intro hOe
      clear hOe
      have BY := (Below.refl _ wr).alloc (Nat.le_refl _) (.cells #[.int .i64 (V0 : Int), .int .i64 (V1 : Int), .int .i64 (V2 : Int)] 35)
      have nY := heap_alloc_new wr (.cells #[.int .i64 (V0 : Int), .int .i64 (V1 : Int), .int .i64 (V2 : Int)] 35)
      have mY1 := (BY.block _ (lt_of_heap G1.out)).trans G1.out
      have mY0 := (BY.block _ (lt_of_heap G0.out)).trans G0.out
      have eY := EE.out.kept (S := fun _ => False) (below_chg BY) id id
      have cY : Chg (fun k => k = eb) w (wr.alloc (.cells #[.int .i64 (V0 : Int), .int .i64 (V1 : Int), .int .i64 (V2 : Int)] 35)) := C.out.alloc _
      have s0 : ¬ wr.heap.size = b0 := by have := lt_of_heap G0.out; omega
      have s1 : ¬ b0 = wr.heap.size := by have := lt_of_heap G0.out; omega
      have d3 := cellZ BY c3
      clear BY
      obtain ⟨Y, hYe⟩ : ∃ Y, Y = wr.alloc (.cells #[.int .i64 (V0 : Int), .int .i64 (V1 : Int), .int .i64 (V2 : Int)] 35) := ⟨_, rfl⟩
      rw [← hYe] at nY mY1 mY0 eY cY d3
      have NY := Hid.intro nY
      have M1 := Hid.intro mY1
      have M0 := Hid.intro mY0
      have EY := Hid.intro eY
      have CY := Hid.intro cY
      have D3 := Hid.intro d3
      have YE := Hid.intro hYe
      clear nY mY1 mY0 eY cY hYe d3 EE C G0 G1
      go_wp2_with fail
      rw [← YE.out]
      generalize wr.heap.size = sb at *
      have y0 : Y.cell? ⟨sb, 0, none⟩ = some (.int .i64 (V0 : Int)) := by rw [cell_of_row _ _ 0 _ _ _ NY.out]; rfl
      have y1 : Y.cell? ⟨sb, 1, none⟩ = some (.int .i64 (V1 : Int)) := by rw [cell_of_row _ _ 1 _ _ _ NY.out]; rfl
      have y2 : Y.cell? ⟨sb, 2, none⟩ = some (.int .i64 (V2 : Int)) := by rw [cell_of_row _ _ 2 _ _ _ NY.out]; rfl
      have d3 := D3.out
      clear c0 c1 c2 c3 D3
      have KEEP : Hid (∀ W, Below Y.heap.size Y W → W.cell? ⟨sb, 0, none⟩ = some (.int .i64 (V0 : Int)) ∧ W.cell? ⟨sb, 1, none⟩ = some (.int .i64 (V1 : Int)) ∧ W.cell? ⟨sb, 2, none⟩ = some (.int .i64 (V2 : Int)) ∧ W.cell? ⟨b1, 3, none⟩ = some (.int .i64 (V3 : Int))) := fun W hB => ⟨cellZ hB y0, cellZ hB y1, cellZ hB y2, cellZ hB d3⟩
      have Z0 : Hid (∀ W, Below Y.heap.size Y W → W.cell? ⟨b0, 0, none⟩ = some (.int .i64 0) ∧ W.cell? ⟨b0, 1, none⟩ = some (.int .i64 0) ∧ W.cell? ⟨b0, 2, none⟩ = some (.int .i64 0) ∧ W.frozen? ⟨b0, 0, none⟩ = false ∧ W.frozen? ⟨b0, 1, none⟩ = false ∧ W.frozen? ⟨b0, 2, none⟩ = false) := fun W hB => by
        have q := (hB.block _ (lt_of_heap M0.out)).trans M0.out
        exact ⟨by rw [cell_of_row _ _ 0 _ _ _ q]; rfl, by rw [cell_of_row _ _ 1 _ _ _ q]; rfl, by rw [cell_of_row _ _ 2 _ _ _ q]; rfl, frozen_of_row _ _ _ _ _ q, frozen_of_row _ _ _ _ _ q, frozen_of_row _ _ _ _ _ q⟩
      have CR := Hid.intro (fun W => cright_in (V0 : Int) (V1 : Int) (V2 : Int) W)
      by_cases h30 : V3 = 0
      · subst h30
        rw [decide_eq_true rfl, Bool.true_and] at HOE
        rw [← HOE.out] at CR
        clear HOE
        go_region_held3 (fun W => W.cell? ⟨sb, 0, none⟩ = some (.int .i64 (V0 : Int)) ∧ W.cell? ⟨sb, 1, none⟩ = some (.int .i64 (V1 : Int)) ∧ W.cell? ⟨sb, 2, none⟩ = some (.int .i64 (V2 : Int)) ∧ W.cell? ⟨b1, 3, none⟩ = some (.int .i64 0))
          (first | exact KEEP.out _ E2 | go_keep)
          (first
            | (go_at_call 36; refine (CR.out _).mono ?_; rintro e w2 ⟨rfl, B2⟩; have E2 : Below Y.heap.size Y w2 := undrewG B2; clear B2; obtain ⟨z0, z1, z2, f0, f1, f2⟩ := Z0.out w2 E2))
        all_goals
          have kk := set3_heap w2 b0 35 _ _ _ (.int .i64 (V0 : Int)) (.int .i64 (V1 : Int)) (.int .i64 (V2 : Int)) ((E2.block _ (lt_of_heap M0.out)).trans M0.out)
          have c2 : Chg (fun k => k = eb) w w2 := CY.out.trans ((below_chg E2).mono (T := fun k => k = eb) (fun _ h _ => h.elim)) (fun _ h _ => h)
          have e2 := EY.out.kept (S := fun _ => False) (below_chg E2) id id
          have cc := set3_chg c2 b0 (fun h => by have := HQ.out; omega) (.int .i64 (V0 : Int)) (.int .i64 (V1 : Int)) (.int .i64 (V2 : Int))
          have ee := e2.kept (set3_chg (S := fun k => k = b0) (Chg.refl _ w2) b0 (fun _ => rfl) (.int .i64 (V0 : Int)) (.int .i64 (V1 : Int)) (.int .i64 (V2 : Int))) hne0 hg0
          have KK := Hid.intro kk
          have CC := Hid.intro cc
          have EE := Hid.intro ee
          clear kk cc ee c2 e2 E2 z0 z1 z2 f0 f1 f2 KEEP Z0 CR
          go_wp2_with fail
          (try simp only [Exit.inBlock, Exit.then])
          refine bodyPost_ret (results_row_tmp rfl _ _ b0 35 #[.int .i64 (V0 : Int), .int .i64 (V1 : Int), .int .i64 (V2 : Int)] (0, 0) _ rfl KK.out Tryz.underlying35 rfl (by kernel_rfl)) rfl ?_
          exact ⟨rfl, (fun _ => EE.out), CC.out⟩
      · have q3 : ¬ ((V3 : Int) = 0) := by omega
        rw [decide_eq_false h30, Bool.false_and] at HOE
        have hOz := HOE.out
        subst hOz
        obtain ⟨z0, z1, z2, f0, f1, f2⟩ := Z0.out Y (Below.refl _ _)
        clear HOE
        go_region_with fail
        all_goals
          have kk := set3_heap Y b0 35 _ _ _ (.int .i64 (V0 : Int)) (.int .i64 (V1 : Int)) (.int .i64 (V2 : Int)) M0.out
          have cc := set3_chg CY.out b0 (fun h => by have := HQ.out; omega) (.int .i64 (V0 : Int)) (.int .i64 (V1 : Int)) (.int .i64 (V2 : Int))
          have KK := Hid.intro kk
          have CC := Hid.intro cc
          clear kk cc z0 z1 z2 f0 f1 f2 KEEP Z0 CR
          go_wp2_with fail
          (try simp only [Exit.inBlock, Exit.then])
          refine bodyPost_ret (results_row_tmp rfl _ _ b0 35 #[.int .i64 (V0 : Int), .int .i64 (V1 : Int), .int .i64 (V2 : Int)] (0, 0) _ rfl KK.out Tryz.underlying35 rfl (by kernel_rfl)) rfl ?_
          exact ⟨rfl, (fun h => by cases h), CC.out.drew⟩

end Go.Proofs.YthhggjakenalpaaGreatDoor
