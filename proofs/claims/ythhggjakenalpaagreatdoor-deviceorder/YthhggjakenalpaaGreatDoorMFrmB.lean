/- Several texts, one behind the other: FrmF FrmG FrmH FrmI FrmPut. -/
import Derived.Test.YthhggjakenalpaaGreatDoorMFrmA
import Derived.Lib.SliceRun
/- Package frame: getHead. -/
namespace Go.Proofs.YthhggjakenalpaaGreatDoor
set_option maxRecDepth 100000
open Go.RowKit
open Bt

/-- Where a field begins. -/
def sAt : Nat → Nat
  | 0 => 0
  | k + 1 => sAt k + wAt k

theorem wAt_le (k : Nat) (hk : k < 6) : 1 ≤ wAt k ∧ wAt k ≤ 32 := by
  match k, hk with
  | 0, _ => decide
  | 1, _ => decide
  | 2, _ => decide
  | 3, _ => decide
  | 4, _ => decide
  | 5, _ => decide

theorem sAt_le (k : Nat) (hk : k < 6) : sAt k + wAt k ≤ 40 := by
  match k, hk with
  | 0, _ => decide
  | 1, _ => decide
  | 2, _ => decide
  | 3, _ => decide
  | 4, _ => decide
  | 5, _ => decide

/-- The field of bytes, by its place. -/
def gAt (bs : List Nat) (k : Nat) : Nat := num (((unpack bs).drop (sAt k)).take (wAt k))

/-- What stands in the array when the first k fields were got. -/
def gTo (bs : List Nat) (k j : Nat) : Nat := if j < k then gAt bs j else 0

def gC (bs : List Nat) (k : Nat) : Array Value := #[.int .i64 (gTo bs k 0 : Int), .int .i64 (gTo bs k 1 : Int), .int .i64 (gTo bs k 2 : Int), .int .i64 (gTo bs k 3 : Int), .int .i64 (gTo bs k 4 : Int), .int .i64 (gTo bs k 5 : Int)]

theorem gC_zero (bs : List Nat) : gC bs 0 = #[.int .i64 0, .int .i64 0, .int .i64 0, .int .i64 0, .int .i64 0, .int .i64 0] := by simp [gC, gTo]

theorem gC_succ (bs : List Nat) (k : Nat) (hk : k < 6) : (gC bs k).setIfInBounds k (.int .i64 (gAt bs k : Int)) = gC bs (k + 1) := by
  match k, hk with
  | 0, _ => simp [gC, gTo]
  | 1, _ => simp [gC, gTo]
  | 2, _ => simp [gC, gTo]
  | 3, _ => simp [gC, gTo]
  | 4, _ => simp [gC, gTo]
  | 5, _ => simp [gC, gTo]

theorem gC_cell {w : World} {b k : Nat} {t : TypeId} {fr : Nat × Nat} {bs : List Nat} (h : w.heap[b]? = some (.cells (gC bs k) t fr)) (j : Nat) (hj : j < 6) : w.cell? ⟨b, j, none⟩ = some (.int .i64 (gTo bs k j : Int)) := by
  rw [cell_of_row _ _ _ _ _ _ h]
  match j, hj with
  | 0, _ => rfl
  | 1, _ => rfl
  | 2, _ => rfl
  | 3, _ => rfl
  | 4, _ => rfl
  | 5, _ => rfl

theorem wid_index (k : Nat) (hk : k < 6) (w : World) :
    (Instr.index 142 (.agg #[.int .i64 8, .int .i64 12, .int .i64 3, .int .i64 7, .int .i64 2, .int .i64 8]) (.int .i64 (k : Int))).run Tryz.prog w = .ok (.int .i64 (wAt k : Int)) w := by
  have i0 : (Instr.index 142 (.agg #[.int .i64 8, .int .i64 12, .int .i64 3, .int .i64 7, .int .i64 2, .int .i64 8]) (.int .i64 0)).run Tryz.prog w = .ok (.int .i64 8) w := by kernel_rfl
  have i1 : (Instr.index 142 (.agg #[.int .i64 8, .int .i64 12, .int .i64 3, .int .i64 7, .int .i64 2, .int .i64 8]) (.int .i64 1)).run Tryz.prog w = .ok (.int .i64 12) w := by kernel_rfl
  have i2 : (Instr.index 142 (.agg #[.int .i64 8, .int .i64 12, .int .i64 3, .int .i64 7, .int .i64 2, .int .i64 8]) (.int .i64 2)).run Tryz.prog w = .ok (.int .i64 3) w := by kernel_rfl
  have i3 : (Instr.index 142 (.agg #[.int .i64 8, .int .i64 12, .int .i64 3, .int .i64 7, .int .i64 2, .int .i64 8]) (.int .i64 3)).run Tryz.prog w = .ok (.int .i64 7) w := by kernel_rfl
  have i4 : (Instr.index 142 (.agg #[.int .i64 8, .int .i64 12, .int .i64 3, .int .i64 7, .int .i64 2, .int .i64 8]) (.int .i64 4)).run Tryz.prog w = .ok (.int .i64 2) w := by kernel_rfl
  have i5 : (Instr.index 142 (.agg #[.int .i64 8, .int .i64 12, .int .i64 3, .int .i64 7, .int .i64 2, .int .i64 8]) (.int .i64 5)).run Tryz.prog w = .ok (.int .i64 8) w := by kernel_rfl
  match k, hk with
  | 0, _ => exact i0
  | 1, _ => exact i1
  | 2, _ => exact i2
  | 3, _ => exact i3
  | 4, _ => exact i4
  | 5, _ => exact i5

/-- What the head's bytes say. -/
theorem g_fields (bs : List Nat) (hl : bs.length = 5) (hb : ∀ b ∈ bs, b < 256) :
    gAt bs 0 = readB (bs.take 4) / 16777216 ∧ gAt bs 1 = readB (bs.take 4) / 4096 % 4096 ∧ gAt bs 2 = readB (bs.take 4) / 512 % 8 ∧ gAt bs 3 = readB (bs.take 4) / 4 % 128 ∧ gAt bs 4 = readB (bs.take 4) % 4 ∧ gAt bs 5 = bs.getD 4 0 := by
  have hN : readB (bs.take 4) < 4294967296 := by
    have := readB_lt (bs.take 4) (mem_take' hb 4)
    rwa [show (bs.take 4).length = 4 from by simp; omega, show 256 ^ 4 = 4294967296 from rfl] at this
  have e4 : numB (readB (bs.take 4)) 4 = bs.take 4 := by
    have := numB_readB (bs.take 4) (mem_take' hb 4)
    rwa [show (bs.take 4).length = 4 from by simp; omega] at this
  have e5 : bs = numB (readB (bs.take 4)) 4 ++ [bs.getD 4 0] := by
    rw [e4]
    match bs, hl with
    | [b0, b1, b2, b3, b4], _ => rfl
  have h4 : bs.getD 4 0 < 256 := by
    match bs, hl with
    | [b0, b1, b2, b3, b4], _ => exact hb b4 (by simp)
  generalize readB (bs.take 4) = n at hN e5 ⊢
  generalize bs.getD 4 0 = z at e5 h4 ⊢
  have f := headN_of n
  have hn := headN_fields (n / 16777216) (n / 4096 % 4096) (n / 512 % 8) (n / 4 % 128) (n % 4) (by omega) (by omega) (by omega) (by omega)
  have hbits := head_bits (n / 16777216) (n / 4096 % 4096) (n / 512 % 8) (n / 4 % 128) (n % 4) (by omega) (by omega) (by omega) (by omega)
  rw [f] at hbits
  have hu : unpack bs = fld 8 (n / 16777216) ++ (fld 12 (n / 4096 % 4096) ++ (fld 3 (n / 512 % 8) ++ (fld 7 (n / 4 % 128) ++ (fld 2 (n % 4) ++ fld 8 z)))) := by
    rw [e5, unpack_append, ← fld32_unpack, ← hbits]
    simp [unpack]
  have lf := fld_length
  unfold gAt
  rw [hu]
  have key : ∀ (p q r : List Nat) (s m x : Nat), p.length = s → q = fld m x → x < 2 ^ m → num (((p ++ (q ++ r)).drop s).take m) = x := by
    intro p q r s m x hp hq hx
    subst hp hq
    rw [List.drop_left]
    have := List.take_left (l₁ := fld m x) (l₂ := r)
    rw [fld_length] at this
    rw [this, num_fld]
    exact Nat.mod_eq_of_lt hx
  refine ⟨?_, ?_, ?_, ?_, ?_, ?_⟩
  · exact key [] _ _ 0 8 _ rfl rfl (by omega)
  · exact key (fld 8 (n / 16777216)) _ _ 8 12 _ (lf _ _) rfl (by omega)
  · rw [← List.append_assoc]
    exact key _ _ _ 20 3 _ (by simp [lf]) rfl (by omega)
  · rw [← List.append_assoc, ← List.append_assoc]
    exact key _ _ _ 23 7 _ (by simp [lf]) rfl (by omega)
  · rw [← List.append_assoc, ← List.append_assoc, ← List.append_assoc]
    exact key _ _ _ 30 2 _ (by simp [lf]) rfl (by omega)
  · rw [← List.append_assoc, ← List.append_assoc, ← List.append_assoc, ← List.append_assoc, ← List.append_nil (fld 8 z)]
    exact key _ _ _ 32 8 _ (by simp [lf]) rfl (by omega)

/-- A struct of six cells that is stored cell by cell. -/
theorem set6_heap (w : World) (b : Nat) (t : TypeId) (u0 u1 u2 u3 u4 u5 v0 v1 v2 v3 v4 v5 : Value) (h : w.heap[b]? = some (.cells #[u0, u1, u2, u3, u4, u5] t (0, 0))) :
    ((((((w.setCell ⟨b, 0, none⟩ v0).setCell ⟨b, 1, none⟩ v1).setCell ⟨b, 2, none⟩ v2).setCell ⟨b, 3, none⟩ v3).setCell ⟨b, 4, none⟩ v4).setCell ⟨b, 5, none⟩ v5).drew.heap[b]? = some (.cells #[v0, v1, v2, v3, v4, v5] t (0, 0)) := by
  have h0 : (w.setCell ⟨b, 0, none⟩ v0).heap[b]? = some (.cells #[v0, u1, u2, u3, u4, u5] t (0, 0)) := by
    have q := heap_setCell_same w b 0 _ _ v0 h
    simpa only [List.setIfInBounds_toArray, List.set_cons_zero, List.set_cons_succ] using q
  have h1 : ((w.setCell ⟨b, 0, none⟩ v0).setCell ⟨b, 1, none⟩ v1).heap[b]? = some (.cells #[v0, v1, u2, u3, u4, u5] t (0, 0)) := by
    have q := heap_setCell_same (w.setCell ⟨b, 0, none⟩ v0) b 1 _ _ v1 h0
    simpa only [List.setIfInBounds_toArray, List.set_cons_zero, List.set_cons_succ] using q
  have h2 : (((w.setCell ⟨b, 0, none⟩ v0).setCell ⟨b, 1, none⟩ v1).setCell ⟨b, 2, none⟩ v2).heap[b]? = some (.cells #[v0, v1, v2, u3, u4, u5] t (0, 0)) := by
    have q := heap_setCell_same ((w.setCell ⟨b, 0, none⟩ v0).setCell ⟨b, 1, none⟩ v1) b 2 _ _ v2 h1
    simpa only [List.setIfInBounds_toArray, List.set_cons_zero, List.set_cons_succ] using q
  have h3 : ((((w.setCell ⟨b, 0, none⟩ v0).setCell ⟨b, 1, none⟩ v1).setCell ⟨b, 2, none⟩ v2).setCell ⟨b, 3, none⟩ v3).heap[b]? = some (.cells #[v0, v1, v2, v3, u4, u5] t (0, 0)) := by
    have q := heap_setCell_same (((w.setCell ⟨b, 0, none⟩ v0).setCell ⟨b, 1, none⟩ v1).setCell ⟨b, 2, none⟩ v2) b 3 _ _ v3 h2
    simpa only [List.setIfInBounds_toArray, List.set_cons_zero, List.set_cons_succ] using q
  have h4 : (((((w.setCell ⟨b, 0, none⟩ v0).setCell ⟨b, 1, none⟩ v1).setCell ⟨b, 2, none⟩ v2).setCell ⟨b, 3, none⟩ v3).setCell ⟨b, 4, none⟩ v4).heap[b]? = some (.cells #[v0, v1, v2, v3, v4, u5] t (0, 0)) := by
    have q := heap_setCell_same ((((w.setCell ⟨b, 0, none⟩ v0).setCell ⟨b, 1, none⟩ v1).setCell ⟨b, 2, none⟩ v2).setCell ⟨b, 3, none⟩ v3) b 4 _ _ v4 h3
    simpa only [List.setIfInBounds_toArray, List.set_cons_zero, List.set_cons_succ] using q
  have h5 : ((((((w.setCell ⟨b, 0, none⟩ v0).setCell ⟨b, 1, none⟩ v1).setCell ⟨b, 2, none⟩ v2).setCell ⟨b, 3, none⟩ v3).setCell ⟨b, 4, none⟩ v4).setCell ⟨b, 5, none⟩ v5).heap[b]? = some (.cells #[v0, v1, v2, v3, v4, v5] t (0, 0)) := by
    have q := heap_setCell_same (((((w.setCell ⟨b, 0, none⟩ v0).setCell ⟨b, 1, none⟩ v1).setCell ⟨b, 2, none⟩ v2).setCell ⟨b, 3, none⟩ v3).setCell ⟨b, 4, none⟩ v4) b 5 _ _ v5 h4
    simpa only [List.setIfInBounds_toArray, List.set_cons_zero, List.set_cons_succ] using q
  generalize ((((((w.setCell ⟨b, 0, none⟩ v0).setCell ⟨b, 1, none⟩ v1).setCell ⟨b, 2, none⟩ v2).setCell ⟨b, 3, none⟩ v3).setCell ⟨b, 4, none⟩ v4).setCell ⟨b, 5, none⟩ v5) = Z at h5 ⊢
  exact h5

theorem set6_below {B : Nat} {w0 w : World} (b : Nat) (v0 v1 v2 v3 v4 v5 : Value) (h : Below B w0 w) (hb : B ≤ b) :
    Below B w0 ((((((w.setCell ⟨b, 0, none⟩ v0).setCell ⟨b, 1, none⟩ v1).setCell ⟨b, 2, none⟩ v2).setCell ⟨b, 3, none⟩ v3).setCell ⟨b, 4, none⟩ v4).setCell ⟨b, 5, none⟩ v5).drew :=
  below_drewN ((((((h.setCell (p := ⟨b, 0, none⟩) hb v0).setCell (p := ⟨b, 1, none⟩) hb v1).setCell (p := ⟨b, 2, none⟩) hb v2).setCell (p := ⟨b, 3, none⟩) hb v3).setCell (p := ⟨b, 4, none⟩) hb v4).setCell (p := ⟨b, 5, none⟩) hb v5) 1

set_option maxRecDepth 100000 in
set_option maxHeartbeats 1000000 in
theorem getHead_any (ao : Option Addr) (cap : Nat) (bs : List Nat) (hl : bs.length = 5) (h256 : ∀ b ∈ bs, b < 256) (w : World) (hw : Wid w) (hr : Reads w ao bs) :
    Calls Tryz.prog 59 #[.slice ao 5 cap] w fun e w' =>
      e = .returned (.tuple #[Fr (gAt bs 0 : Int) (gAt bs 1 : Int) (gAt bs 2 : Int) (gAt bs 3 : Int) (gAt bs 4 : Int) none 0 0, .int .i64 (gAt bs 5 : Int)]) ∧ Below w.heap.size w w' := by
  have HR := Hid.intro hr
  have HW := Hid.intro hw
  have H256 := Hid.intro h256
  have HL := Hid.intro hl
  clear hr hw h256 hl
  obtain ⟨V0, hV0⟩ : ∃ V, V = gAt bs 0 := ⟨_, rfl⟩
  obtain ⟨V1, hV1⟩ : ∃ V, V = gAt bs 1 := ⟨_, rfl⟩
  obtain ⟨V2, hV2⟩ : ∃ V, V = gAt bs 2 := ⟨_, rfl⟩
  obtain ⟨V3, hV3⟩ : ∃ V, V = gAt bs 3 := ⟨_, rfl⟩
  obtain ⟨V4, hV4⟩ : ∃ V, V = gAt bs 4 := ⟨_, rfl⟩
  obtain ⟨V5, hV5⟩ : ∃ V, V = gAt bs 5 := ⟨_, rfl⟩
  rw [← hV0, ← hV1, ← hV2, ← hV3, ← hV4, ← hV5]
  have HV := Hid.intro (And.intro hV0 (And.intro hV1 (And.intro hV2 (And.intro hV3 (And.intro hV4 hV5)))))
  clear hV0 hV1 hV2 hV3 hV4 hV5
  go_enter Tryz.func59, Tryz.ntmps59
  go_wp2_with fail
  have BX := ((Below.refl _ w).alloc (Nat.le_refl _) (.cells #[.int .i64 0, .int .i64 0, .int .i64 0, .int .i64 0, .int .i64 0, .slice none 0 0] 55)).alloc (World.size_alloc w _ ▸ Nat.le_succ _) (.cells #[.int .i64 0, .int .i64 0, .int .i64 0, .int .i64 0, .int .i64 0, .int .i64 0] 142)
  have hX0 := heap_alloc2_old w (.cells #[.int .i64 0, .int .i64 0, .int .i64 0, .int .i64 0, .int .i64 0, .slice none 0 0] 55) (.cells #[.int .i64 0, .int .i64 0, .int .i64 0, .int .i64 0, .int .i64 0, .int .i64 0] 142)
  have hX1 := heap_alloc2_new w (.cells #[.int .i64 0, .int .i64 0, .int .i64 0, .int .i64 0, .int .i64 0, .slice none 0 0] 55) (.cells #[.int .i64 0, .int .i64 0, .int .i64 0, .int .i64 0, .int .i64 0, .int .i64 0] 142)
  generalize (w.alloc (.cells #[.int .i64 0, .int .i64 0, .int .i64 0, .int .i64 0, .int .i64 0, .slice none 0 0] 55)).alloc (.cells #[.int .i64 0, .int .i64 0, .int .i64 0, .int .i64 0, .int .i64 0, .int .i64 0] 142) = X at BX hX0 hX1 ⊢
  have hb01 : ¬ w.heap.size = w.heap.size + 1 := by omega
  have hb1w : w.heap.size ≤ w.heap.size + 1 := by omega
  generalize w.heap.size + 1 = b1 at hX1 hb01 hb1w ⊢
  generalize hb0e : w.heap.size = b0 at hX0 hb01 ⊢
  have HB0 := Hid.intro hb0e
  have HX0 := Hid.intro hX0
  have HX1 := Hid.intro hX1
  clear hX0 hX1 hb0e
  have SL := look_any ao cap bs (by rw [HL.out]; decide) H256.out X (HR.out.below BX)
  rw [HL.out] at SL
  refine SL.mono ?_
  rintro e w5 ⟨eb, g, rfl, hg, heb, E5, C5⟩
  have D5 := BX.trans ((C5.below (Nat.le_refl _) (fun _ h => h.elim)).mono BX.size)
  have g1 : w5.heap[b1]? = some (.cells (gC bs 0) 142 (0, 0)) := by
    rw [gC_zero]; exact (C5.block b1 (lt_of_heap HX1.out) (fun h => h)).trans HX1.out
  have g0 : w5.heap[b0]? = some (.cells ZC 55 (0, 0)) := (C5.block b0 (lt_of_heap HX0.out) (fun h => h)).trans HX0.out
  have l1 := lt_of_heap HX1.out
  have l0 := lt_of_heap HX0.out
  have hne1 : ¬ eb = b1 := by omega
  have hne0 : ¬ eb = b0 := by omega
  have hng1 : ¬ g = b1 := by omega
  have hebw : w.heap.size ≤ eb := by have := BX.size; omega
  clear SL C5 hg heb BX HX0 HX1 l0 l1
  have G1 := Hid.intro g1
  have G0 := Hid.intro g0
  have EH := Hid.intro E5
  have DH := Hid.intro D5
  clear g1 g0 E5 D5
  obtain ⟨tW, frW, hWW⟩ := HW.out.below DH.out
  have HWW := Hid.intro hWW
  clear hWW
  go_wp2_with (refine wpList_load_row rfl 142 (.global 0) rfl 0 rfl tW #[.int .i64 8, .int .i64 12, .int .i64 3, .int .i64 7, .int .i64 2, .int .i64 8] frW _ HWW.out Tryz.underlying142 rfl (by kernel_rfl) ?_)
  have WI := Hid.intro wid_index
  clear HWW
  go_loopw [12] (fun i wr => ∃ k : Nat, k ≤ 6 ∧ i = .int .i64 k ∧ EyeAt wr eb g bs (sAt k) ∧ wr.heap[b1]? = some (.cells (gC bs k) 142 (0, 0)) ∧ wr.heap[b0]? = some (.cells ZC 55 (0, 0)) ∧ Below w.heap.size w wr) (fun i _ => 6 - (intOf i).toNat)
  case atStart => exact ⟨0, by omega, rfl, EH.out, G1.out, G0.out, DH.out⟩
  case round =>
    obtain ⟨k, hk, rfl, he, hg1, hg0, hb⟩ := hrel
    have HE := Hid.intro he
    have HG1 := Hid.intro hg1
    have HG0 := Hid.intro hg0
    have HB := Hid.intro hb
    clear he hg1 hg0 hb
    by_cases hlt : k < 6
    · have i0 : (0 : Int) ≤ (k : Int) := by omega
      have i1 : (k : Int) < 6 := by omega
      have wi := WI.out k hlt
      have hw1 := wAt_le k hlt
      have hw2 := sAt_le k hlt
      have HC := Hid.intro (get_yes eb g bs (sAt k) (wAt k) wr HE.out hw1.1 hw1.2 (by rw [HL.out]; omega))
      have hS : sAt (k + 1) = sAt k + wAt k := rfl
      have hG : gAt bs k = num (((unpack bs).drop (sAt k)).take (wAt k)) := rfl
      rw [← hG, ← hS] at HC
      have HS := gC_succ bs k hlt
      have HSS := Hid.intro HS
      clear HS hS hG hw2
      generalize gAt bs k = V at HC HSS
      generalize wAt k = M at HC wi hw1
      go_wp2_with fail
      refine HC.out.mono ?_
      rintro e w1 ⟨rfl, E1, C1⟩
      have q1 : w1.heap[b1]? = some (.cells (gC bs k) 142 (0, 0)) := (C1.block b1 (lt_of_heap HG1.out) (fun h => hne1 h.symm)).trans HG1.out
      have q0 : w1.heap[b0]? = some (.cells ZC 55 (0, 0)) := (C1.block b0 (lt_of_heap HG0.out) (fun h => hne0 h.symm)).trans HG0.out
      have c := gC_cell q1 k hlt
      have f := frozen_of_row _ _ k _ _ q1
      have B1 := HB.out.trans (C1.below HB.out.size (fun j h => by rw [h]; exact hebw))
      have n1 : (w1.setCell ⟨b1, k, none⟩ (.int .i64 (V : Int))).heap[b1]? = some (.cells (gC bs (k + 1)) 142 (0, 0)) := by
        rw [← HSS.out]; exact heap_setCell_same w1 b1 k _ _ _ q1
      have n0 : (w1.setCell ⟨b1, k, none⟩ (.int .i64 (V : Int))).heap[b0]? = some (.cells ZC 55 (0, 0)) := (heap_setCell_other w1 ⟨b1, k, none⟩ b0 _ hb01).trans q0
      have nE : EyeAt (w1.setCell ⟨b1, k, none⟩ (.int .i64 (V : Int))) eb g bs (sAt (k + 1)) := E1.kept ((Chg.refl (fun j => j = b1) w1).setCell (fun _ => rfl) _) hne1 hng1
      have nB := B1.setCell (p := ⟨b1, k, none⟩) hb1w (.int .i64 (V : Int))
      have N1 := Hid.intro n1
      have N0 := Hid.intro n0
      have NE := Hid.intro nE
      have NB := Hid.intro nB
      clear n1 n0 nE nB B1 q0 q1 C1 E1 HC
      go_wp2
      go_roundw
      case rel => exact ⟨k + 1, by omega, by go_num, NE.out, N1.out, N0.out, NB.out⟩
      case measure => simp [intOf]; omega
    · have hke : k = 6 := by omega
      subst hke
      have hg : ∀ j, j < 6 → gTo bs 6 j = gAt bs j := fun j hj => by simp [gTo, hj]
      have c0 := gC_cell HG1.out 0 (by decide)
      have c1 := gC_cell HG1.out 1 (by decide)
      have c2 := gC_cell HG1.out 2 (by decide)
      have c3 := gC_cell HG1.out 3 (by decide)
      have c4 := gC_cell HG1.out 4 (by decide)
      have c5 := gC_cell HG1.out 5 (by decide)
      rw [hg 0 (by decide), ← HV.out.1] at c0
      rw [hg 1 (by decide), ← HV.out.2.1] at c1
      rw [hg 2 (by decide), ← HV.out.2.2.1] at c2
      rw [hg 3 (by decide), ← HV.out.2.2.2.1] at c3
      rw [hg 4 (by decide), ← HV.out.2.2.2.2.1] at c4
      rw [hg 5 (by decide), ← HV.out.2.2.2.2.2] at c5
      clear hg WI
      go_wp2_with fail
      have z0 : wr.cell? ⟨b0, 0, none⟩ = some (.int .i64 0) := by rw [cell_of_row _ _ _ _ _ _ HG0.out]; rfl
      have z1 : wr.cell? ⟨b0, 1, none⟩ = some (.int .i64 0) := by rw [cell_of_row _ _ _ _ _ _ HG0.out]; rfl
      have z2 : wr.cell? ⟨b0, 2, none⟩ = some (.int .i64 0) := by rw [cell_of_row _ _ _ _ _ _ HG0.out]; rfl
      have z3 : wr.cell? ⟨b0, 3, none⟩ = some (.int .i64 0) := by rw [cell_of_row _ _ _ _ _ _ HG0.out]; rfl
      have z4 : wr.cell? ⟨b0, 4, none⟩ = some (.int .i64 0) := by rw [cell_of_row _ _ _ _ _ _ HG0.out]; rfl
      have z5 : wr.cell? ⟨b0, 5, none⟩ = some (.slice none 0 0) := by rw [cell_of_row _ _ _ _ _ _ HG0.out]; rfl
      have f0 : wr.frozen? ⟨b0, 0, none⟩ = false := frozen_of_row _ _ _ _ _ HG0.out
      have f1 : wr.frozen? ⟨b0, 1, none⟩ = false := frozen_of_row _ _ _ _ _ HG0.out
      have f2 : wr.frozen? ⟨b0, 2, none⟩ = false := frozen_of_row _ _ _ _ _ HG0.out
      have f3 : wr.frozen? ⟨b0, 3, none⟩ = false := frozen_of_row _ _ _ _ _ HG0.out
      have f4 : wr.frozen? ⟨b0, 4, none⟩ = false := frozen_of_row _ _ _ _ _ HG0.out
      have f5 : wr.frozen? ⟨b0, 5, none⟩ = false := frozen_of_row _ _ _ _ _ HG0.out
      go_region_held3 (fun w' => w'.cell? ⟨b1, 0, none⟩ = some (.int .i64 (V0 : Int)) ∧ w'.cell? ⟨b1, 1, none⟩ = some (.int .i64 (V1 : Int)) ∧ w'.cell? ⟨b1, 2, none⟩ = some (.int .i64 (V2 : Int)) ∧ w'.cell? ⟨b1, 3, none⟩ = some (.int .i64 (V3 : Int)) ∧ w'.cell? ⟨b1, 4, none⟩ = some (.int .i64 (V4 : Int)) ∧ w'.cell? ⟨b1, 5, none⟩ = some (.int .i64 (V5 : Int))) (go_keep) (fail)
      have hb0w : w.heap.size ≤ b0 := by rw [HB0.out]; exact Nat.le_refl _
      have kk := set6_heap wr b0 55 _ _ _ _ _ _ (.int .i64 (V0 : Int)) (.int .i64 (V1 : Int)) (.int .i64 (V2 : Int)) (.int .i64 (V3 : Int)) (.int .i64 (V4 : Int)) (.slice none 0 0) HG0.out
      have DD := set6_below b0 (.int .i64 (V0 : Int)) (.int .i64 (V1 : Int)) (.int .i64 (V2 : Int)) (.int .i64 (V3 : Int)) (.int .i64 (V4 : Int)) (.slice none 0 0) HB.out hb0w
      clear z0 z1 z2 z3 z4 z5 f0 f1 f2 f3 f4 f5 c0 c1 c2 c3 c4 c5 HG0 HG1 HE
      generalize ((((((wr.setCell ⟨b0, 0, none⟩ (.int .i64 (V0 : Int))).setCell ⟨b0, 1, none⟩ (.int .i64 (V1 : Int))).setCell ⟨b0, 2, none⟩ (.int .i64 (V2 : Int))).setCell ⟨b0, 3, none⟩ (.int .i64 (V3 : Int))).setCell ⟨b0, 4, none⟩ (.int .i64 (V4 : Int))).setCell ⟨b0, 5, none⟩ (.slice none 0 0)).drew = Z at kk DD ⊢
      have KK := Hid.intro kk
      clear kk
      go_wp2
      (try simp only [Exit.inBlock, Exit.then])
      refine bodyPost_ret (results_row_tmp rfl _ _ b0 55 #[.int .i64 (V0 : Int), .int .i64 (V1 : Int), .int .i64 (V2 : Int), .int .i64 (V3 : Int), .int .i64 (V4 : Int), .slice none 0 0] (0, 0) _ rfl KK.out Tryz.underlying55 rfl (by kernel_rfl)) rfl ?_
      exact ⟨rfl, DD⟩

end Go.Proofs.YthhggjakenalpaaGreatDoor

/- Package frame: Parse. -/
namespace Go.Proofs.YthhggjakenalpaaGreatDoor
set_option maxRecDepth 100000
open Go.RowKit
open Bt

/-- A slice of one's own: where it lies, and how it reads. -/
theorem owned_slice {w : World} {B : Nat} {v : Value} {bs : List Nat} (h : w.ownsRow 0 5 1 v bs.length (bs.map U)) (hk : ∀ k, v.ownBlock = some k → B ≤ k) :
    ∃ ao c, v = .slice ao bs.length c ∧ Reads w ao bs ∧ (ao = none → c = 0) ∧ bs.length ≤ c ∧ c ≤ 9223372036854775807 ∧ ∀ ad, ao = some ad → B ≤ ad.block ∧ ad.block < w.heap.size := by
  obtain ⟨ao, c, rfl, hr, hb⟩ := row_of_owns h
  refine ⟨ao, c, rfl, hr, none_cap_of_owns h, ?_, ?_, fun ad e => ⟨hk _ (hb ad e), (World.ownsRow.lt h _ (hb ad e)).2⟩⟩
  · rcases h.2 with ⟨h', h0⟩ | ⟨g', cap', _, h', _, _, hn, _⟩
    · omega
    · cases h'; exact hn
  · rcases h.2 with ⟨h', h0⟩ | ⟨g', cap', _, h', _, _, _, hm, _⟩
    · have e := congrArg (fun v => match v with | Value.slice _ _ c => c | _ => 0) h'
      simp only at e
      omega
    · cases h'; unfold maxLen at hm; exact hm

/-- Clone of bytes that are not nil. -/
theorem clone_some (bb off cap : Nat) (ds : List Nat) (hl : ds.length ≤ 100000) (w : World) (hr : Reads w (some ⟨bb, off, none⟩) ds) :
    Calls Tryz.prog 61 #[.slice (some ⟨bb, off, none⟩) ds.length cap] w fun e w' => ∃ ao c, e = .returned (.slice ao ds.length c) ∧ Reads w' ao ds ∧ (ao = none → c = 0) ∧ (ds.length ≤ c ∧ c ≤ 9223372036854775807) ∧ (∀ ad, ao = some ad → w.heap.size ≤ ad.block ∧ ad.block < w'.heap.size) ∧ Below w.heap.size w w' := by
  have HR := Hid.intro hr
  clear hr
  have HB := Hid.intro ((Below.refl _ w).alloc (Nat.le_refl _) (.cells #[] 5))
  have ER := Hid.intro (empty_row w)
  have en := fun (w : World) => Lib.run_eql_slice_nil (P := Tryz.prog) w 42 5 (some ⟨bb, off, none⟩) ds.length cap 0 0 Tryz.underlying42
  go_enter Tryz.func61, Tryz.ntmps61
  go_wp2_with (at_builtin; refine append_bytes rfl _ _ rfl _ [] rfl ER.out (some ⟨bb, off, none⟩) ds.length cap ds rfl rfl (HR.out.below HB.out) (fun e => by cases e) (by simp; omega) ?_)
  intro v1 w1 hown hgrow hat
  obtain ⟨B1, N1⟩ := grown_step hgrow (by rw [World.size_alloc]; exact hat) HB.out (Nat.le_refl _) (fun k hk => by
    have e : w.heap.size = k := by simpa [Value.ownBlock] using hk
    omega)
  obtain ⟨ao, c, rfl, hr1, h1, h2, h3, h4⟩ := owned_slice hown N1
  clear hown hgrow hat N1
  have R1 := Hid.intro hr1
  have H1 := Hid.intro h1
  have H4 := Hid.intro h4
  clear hr1 h1 h4
  go_wp2
  go_ret
  exact ⟨ao, c, rfl, R1.out, H1.out, ⟨h2, h3⟩, H4.out, B1⟩

/-- What Parse answers of bytes: beside the error a zero frame; else the frame. -/
def ParseP (bs : List Nat) (w : World) (e : Ending) (w' : World) : Prop :=
  Below w.heap.size w w' ∧
    ((parseE bs ≠ 0 ∧ e = .returned (.tuple #[Fr 0 0 0 0 0 none 0 0, .int .i64 ((parseE bs : Nat) : Int)])) ∨
     (parseE bs = 0 ∧ ∃ ao c, e = .returned (.tuple #[Fr ((readB (bs.take 4) / 16777216 : Nat) : Int) ((readB (bs.take 4) / 4096 % 4096 : Nat) : Int) ((readB (bs.take 4) / 512 % 8 : Nat) : Int) ((readB (bs.take 4) / 4 % 128 : Nat) : Int) ((readB (bs.take 4) % 4 : Nat) : Int) ao ((bs.drop 7).take (bs.getD 4 0)).length c, .int .i64 0]) ∧
       Reads w' ao ((bs.drop 7).take (bs.getD 4 0)) ∧ (ao = none → c = 0) ∧ (((bs.drop 7).take (bs.getD 4 0)).length ≤ c ∧ c ≤ 9223372036854775807) ∧ (∀ ad, ao = some ad → w.heap.size ≤ ad.block ∧ ad.block < w'.heap.size)))

theorem parse_short (a : Option Addr) (cap : Nat) (bs : List Nat) (h : bs.length < 11) (w : World) :
    Calls Tryz.prog 27 #[.slice a bs.length cap] w (ParseP bs w) := by
  have hE : parseE bs = 2 := by unfold parseE; rw [if_pos h]
  have j : (bs.length : Int) < 11 := by omega
  have HE := Hid.intro hE
  clear hE h
  have B1 := Hid.intro (fun o1 => (Below.refl _ w).alloc (Nat.le_refl _) o1)
  go_enter Tryz.func27, Tryz.ntmps27
  go_wp2
  (try simp only [Exit.inBlock, Exit.then])
  refine bodyPost_ret (results_row_tmp rfl _ _ w.heap.size 55 ZC (0, 0) _ rfl (heap_alloc_new w _) Tryz.underlying55 rfl (by kernel_rfl)) rfl ?_
  refine ⟨B1.out _, .inl ⟨by rw [HE.out]; decide, ?_⟩⟩
  rw [HE.out]
  rfl

end Go.Proofs.YthhggjakenalpaaGreatDoor

/- Package frame: Parse, from eleven bytes on. -/
namespace Go.Proofs.YthhggjakenalpaaGreatDoor
set_option maxRecDepth 100000
open Go.RowKit
open Bt

set_option maxRecDepth 100000 in
set_option maxHeartbeats 2000000 in
theorem parse_long (bb off cap : Nat) (bs : List Nat) (h11 : 11 ≤ bs.length) (h300 : bs.length ≤ 100000) (hcap : bs.length ≤ cap) (hcm : cap ≤ 9223372036854775807) (h256 : ∀ b ∈ bs, b < 256) (w : World) (hw : Wid w) (hr : Reads w (some ⟨bb, off, none⟩) bs) :
    Calls Tryz.prog 27 #[.slice (some ⟨bb, off, none⟩) bs.length cap] w (ParseP bs w) := by
  have HR := Hid.intro hr
  have HW := Hid.intro hw
  have H256 := Hid.intro h256
  clear hr hw h256
  obtain ⟨PP, hPP⟩ : ∃ PP, PP = ParseP bs w := ⟨_, rfl⟩
  rw [← hPP]
  have HPP := Hid.intro hPP
  clear hPP
  have hd11 : decide ((bs.length : Int) < 11) = false := by simp; omega
  have j5 : (5 : Int) ≤ (cap : Int) := by omega
  have j7 : (7 : Int) ≤ (cap : Int) := by omega
  have b4 := H256.out (bs.getD 4 0) (by
    rw [List.getD_eq_getElem?_getD, List.getElem?_eq_getElem (by omega)]
    exact List.getElem_mem _)
  go_enter Tryz.func27, Tryz.ntmps27
  go_wp2_with fail
  have BX := (Below.refl _ w).alloc (Nat.le_refl _) (.cells ZC 55)
  have hX0 := heap_alloc_new w (.cells ZC 55)
  generalize w.alloc (.cells ZC 55) = X at BX hX0 ⊢
  generalize hb0e : w.heap.size = b0 at hX0 ⊢
  have HB0 := Hid.intro hb0e
  have HX0 := Hid.intro hX0
  clear hX0 hb0e
  have SS : Hid (∀ w', Below X.heap.size X w' → Calls Tryz.prog 57 #[.slice (some ⟨bb, off, none⟩) 5 cap] w' fun e w'' => e = .returned (.int .i64 ((crc16 (bs.take 5) : Nat) : Int)) ∧ Below w'.heap.size w' w'') := by
    intro w' hw'
    have r := reads_part (HR.out.below (BX.trans (hw'.mono BX.size))) 0 5 (by omega)
    rw [List.drop_zero, Nat.add_zero] at r
    have s := short_any (some ⟨bb, off, none⟩) cap (bs.take 5) (by simp; omega) (mem_take' H256.out 5) w' r
    rwa [show (bs.take 5).length = 5 from by simp; omega] at s
  have SR : Hid (∀ w', Below X.heap.size X w' → Calls Tryz.prog 58 #[.slice (some ⟨bb, off + 5, none⟩) 2 (cap - 5)] w' fun e w'' => e = .returned (.int .i64 ((readB ((bs.drop 5).take 2) : Nat) : Int)) ∧ w' = w'') := by
    intro w' hw'
    have r := reads_part (HR.out.below (BX.trans (hw'.mono BX.size))) 5 2 (by omega)
    have s := cread_any (some ⟨bb, off + 5, none⟩) (cap - 5) ((bs.drop 5).take 2) (by simp; omega) (mem_take' (mem_drop' H256.out 5) 2) w' r
    rwa [show ((bs.drop 5).take 2).length = 2 from by simp; omega, if_neg (by omega)] at s
  by_cases hh : crc16 (bs.take 5) = readB ((bs.drop 5).take 2)
  · have hb : (((crc16 (bs.take 5) : Nat) : Int) != ((readB ((bs.drop 5).take 2) : Nat) : Int)) = false := by rw [hh]; simp
    have HHX := Hid.intro hh
    clear hh
    generalize crc16 (bs.take 5) = C1 at SS hb
    generalize readB ((bs.drop 5).take 2) = C2 at SR hb
    go_region_held3 (fun _ => True) (trivial)
      ((first
        | (go_at_call 57; refine (SS.out _ ?_).mono ?_; exact below_drewN (Below.refl _ X) 1; rintro e w5 ⟨rfl, B5⟩)
        | (go_at_call 58; refine (SR.out _ ?_).mono ?_; exact below_undrew B5; rintro e w6 ⟨rfl, rfl⟩)))
    have D5 : Below X.heap.size X w5 := below_undrew B5
    have DW5 := BX.trans (D5.mono BX.size)
    have SG : Hid (Calls Tryz.prog 59 #[.slice (some ⟨bb, off, none⟩) 5 cap] w5 fun e w' =>
      e = .returned (.tuple #[Fr ((readB (bs.take 4) / 16777216 : Nat) : Int) ((readB (bs.take 4) / 4096 % 4096 : Nat) : Int) ((readB (bs.take 4) / 512 % 8 : Nat) : Int) ((readB (bs.take 4) / 4 % 128 : Nat) : Int) ((readB (bs.take 4) % 4 : Nat) : Int) none 0 0, .int .i64 ((bs.getD 4 0 : Nat) : Int)]) ∧ Below w5.heap.size w5 w') := by
      have r := reads_part (HR.out.below DW5) 0 5 (by omega)
      rw [List.drop_zero, Nat.add_zero] at r
      have l5 : (bs.take 5).length = 5 := by simp; omega
      have s := getHead_any (some ⟨bb, off, none⟩) cap (bs.take 5) l5 (mem_take' H256.out 5) w5 (HW.out.below DW5) r
      obtain ⟨f0, f1, f2, f3, f4, f5⟩ := g_fields (bs.take 5) l5 (mem_take' H256.out 5)
      rw [f0, f1, f2, f3, f4, f5, List.take_take, show min 4 5 = 4 from rfl, getD_take' bs 5 4 (by decide)] at s
      exact s
    clear B5 SS SR
    obtain ⟨NN, hNN⟩ : ∃ n, n = readB (bs.take 4) := ⟨_, rfl⟩
    obtain ⟨Z, hZ⟩ : ∃ z, z = bs.getD 4 0 := ⟨_, rfl⟩
    rw [← hNN, ← hZ] at SG
    rw [← hZ] at b4
    have HNN := Hid.intro hNN
    have HZ := Hid.intro hZ
    clear hNN hZ
    obtain ⟨T0, hT0⟩ : ∃ T : Nat, T = NN / 16777216 := ⟨_, rfl⟩
    obtain ⟨T1, hT1⟩ : ∃ T : Nat, T = NN / 4096 % 4096 := ⟨_, rfl⟩
    obtain ⟨T2, hT2⟩ : ∃ T : Nat, T = NN / 512 % 8 := ⟨_, rfl⟩
    obtain ⟨T3, hT3⟩ : ∃ T : Nat, T = NN / 4 % 128 := ⟨_, rfl⟩
    obtain ⟨T4, hT4⟩ : ∃ T : Nat, T = NN % 4 := ⟨_, rfl⟩
    rw [← hT0, ← hT1, ← hT2, ← hT3, ← hT4] at SG
    have HT := Hid.intro (And.intro hT0 (And.intro hT1 (And.intro hT2 (And.intro hT3 hT4))))
    clear hT0 hT1 hT2 hT3 hT4
    go_wp2_with fail
    refine SG.out.mono ?_
    rintro e w6 ⟨rfl, B6⟩
    clear SG
    have D6 := D5.trans (B6.mono D5.size)
    have DW6 := DW5.trans (B6.mono DW5.size)
    clear D5 DW5 B6
    have HD6 := Hid.intro D6
    have HDW6 := Hid.intro DW6
    clear D6 DW6
    have g0a : (w6.alloc (.cells #[.int .i64 (T0 : Int), .int .i64 (T1 : Int), .int .i64 (T2 : Int), .int .i64 (T3 : Int), .int .i64 (T4 : Int), .slice none 0 0] 55)).heap[b0]? = some (.cells ZC 55 (0, 0)) := by
      have l0 := lt_of_heap HX0.out
      rw [Below.heap_alloc _ _ _ (Nat.lt_of_lt_of_le l0 HD6.out.size), HD6.out.block b0 l0]; exact HX0.out
    have G0A := Hid.intro g0a
    clear g0a
    have DA := Hid.intro (HDW6.out.alloc HDW6.out.size (.cells #[.int .i64 (T0 : Int), .int .i64 (T1 : Int), .int .i64 (T2 : Int), .int .i64 (T3 : Int), .int .i64 (T4 : Int), .slice none 0 0] 55))
    by_cases hz : 60 < Z ∨ bs.length ≠ 11 + Z
    · have E4 : parseE bs = 4 := by
        unfold parseE
        rw [if_neg (by omega), if_neg (fun h => h HHX.out), ← HZ.out, if_pos hz]
      have HE4 := Hid.intro E4
      clear E4
      by_cases h60 : 60 < Z
      · have k60 : (60 : Int) < (Z : Int) := by omega
        go_wp2_with (refine wpList_store_row rfl 55 (.tmp 2) (.tmp 34) rfl b0 ZC rfl rfl 55 ZC G0A.out (by kernel_rfl) rfl (by kernel_rfl) ?_)
        (try simp only [Exit.inBlock, Exit.then])
        refine bodyPost_ret (results_row_tmp rfl _ _ b0 55 ZC (0, 0) _ rfl (setRow_heap _ b0 ZC ZC 55 _ G0A.out) Tryz.underlying55 rfl (by kernel_rfl)) rfl ?_
        rw [HPP.out]
        exact ⟨below_setRow DA.out b0 (by rw [HB0.out]; exact Nat.le_refl _) ZC, .inl ⟨by rw [HE4.out]; decide, by rw [HE4.out]; rfl⟩⟩
      · have k60 : decide ((60 : Int) < (Z : Int)) = false := by simp; omega
        have klen : ((bs.length : Int) != 11 + (Z : Int)) = true := by rw [bne_iff_ne]; omega
        go_wp2_with (refine wpList_store_row rfl 55 (.tmp 2) (.tmp 34) rfl b0 ZC rfl rfl 55 ZC G0A.out (by kernel_rfl) rfl (by kernel_rfl) ?_)
        (try simp only [Exit.inBlock, Exit.then])
        refine bodyPost_ret (results_row_tmp rfl _ _ b0 55 ZC (0, 0) _ rfl (setRow_heap _ b0 ZC ZC 55 _ G0A.out) Tryz.underlying55 rfl (by kernel_rfl)) rfl ?_
        rw [HPP.out]
        exact ⟨below_setRow DA.out b0 (by rw [HB0.out]; exact Nat.le_refl _) ZC, .inl ⟨by rw [HE4.out]; decide, by rw [HE4.out]; rfl⟩⟩
    · have z60 : Z ≤ 60 := by omega
      have zlen : bs.length = 11 + Z := by omega
      have k60 : decide ((60 : Int) < (Z : Int)) = false := by simp; omega
      have klen : ((bs.length : Int) != 11 + (Z : Int)) = false := by simp; omega
      obtain ⟨Y, hY⟩ : ∃ Y, Y = 7 + Z := ⟨_, rfl⟩
      have hwY : 7 + (Z : Int) = (Y : Int) := by omega
      have q1 : (0 : Int) ≤ (Y : Int) := by omega
      have q2 : (Y : Int) ≤ (cap : Int) := by omega
      have q3 : (Y : Int) ≤ (bs.length : Int) := by omega
      have q4 : ¬ cap = Y := by omega
      have q5 : bs.length - Y = 4 := by omega
      have q6 : Y ≤ 67 := by omega
      have q8 : Y - 7 = Z := by omega
      have q9 : (7 : Int) ≤ (Y : Int) := by omega
      have q10 : ¬ cap = 7 := by omega
      have hYb : Y + 4 ≤ bs.length := by omega
      have HY := Hid.intro hY
      have HZL := Hid.intro zlen
      clear hY zlen hz
      have hX4 := heap_alloc_new w6 (.cells #[.int .i64 (T0 : Int), .int .i64 (T1 : Int), .int .i64 (T2 : Int), .int .i64 (T3 : Int), .int .i64 (T4 : Int), .slice none 0 0] 55)
      have hb46 : X.heap.size ≤ w6.heap.size := HD6.out.size
      go_wp2_with fail
      generalize w6.alloc (.cells #[.int .i64 (T0 : Int), .int .i64 (T1 : Int), .int .i64 (T2 : Int), .int .i64 (T3 : Int), .int .i64 (T4 : Int), .slice none 0 0] 55) = X2 at G0A DA hX4 ⊢
      have l0 := lt_of_heap HX0.out
      have hb4w : w.heap.size ≤ w6.heap.size := HDW6.out.size
      have hb04 : ¬ b0 = w6.heap.size := by omega
      generalize w6.heap.size = b4 at hX4 hb4w hb04 ⊢
      have HX4 := Hid.intro hX4
      clear hX4 hb46 l0 HD6 HDW6
      have SL : Hid (∀ w', Below X2.heap.size X2 w' → Calls Tryz.prog 60 #[.slice (some ⟨bb, off, none⟩) Y cap] w' fun e w'' => e = .returned (.int .i64 ((crc32 (bs.take Y) : Nat) : Int)) ∧ Below w'.heap.size w' w'') := by
        intro w' hw'
        have r := reads_part (HR.out.below (DA.out.trans (hw'.mono DA.out.size))) 0 Y (by omega)
        rw [List.drop_zero, Nat.add_zero] at r
        have ly : (bs.take Y).length = Y := by rw [List.length_take]; omega
        have s := long_any (some ⟨bb, off, none⟩) cap (bs.take Y) (by omega) (mem_take' H256.out Y) w' r
        rwa [ly] at s
      have SR2 : Hid (∀ w', Below X2.heap.size X2 w' → Calls Tryz.prog 58 #[.slice (some ⟨bb, off + Y, none⟩) 4 (cap - Y)] w' fun e w'' => e = .returned (.int .i64 ((readB (bs.drop Y) : Nat) : Int)) ∧ w' = w'') := by
        intro w' hw'
        have r := reads_part (HR.out.below (DA.out.trans (hw'.mono DA.out.size))) Y 4 (by omega)
        have ld : (bs.drop Y).length = 4 := by rw [List.length_drop]; exact q5
        rw [List.take_of_length_le (by omega)] at r
        have s := cread_any (some ⟨bb, off + Y, none⟩) (cap - Y) (bs.drop Y) (by omega) (mem_drop' H256.out Y) w' r
        rwa [ld, if_neg (by omega)] at s
      by_cases hs : crc32 (bs.take Y) = readB (bs.drop Y)
      · have hb5 : (((crc32 (bs.take Y) : Nat) : Int) != ((readB (bs.drop Y) : Nat) : Int)) = false := by rw [hs]; simp
        have E0 : parseE bs = 0 := by
          refine parseE_ok HHX.out (by rw [← HZ.out]; exact z60) (by rw [← HZ.out]; exact HZL.out) ?_
          rw [← HZ.out, ← HY.out]; exact hs
        have HE0 := Hid.intro E0
        clear E0 hs
        generalize crc32 (bs.take Y) = L1 at SL hb5
        generalize readB (bs.drop Y) = L2 at SR2 hb5
        go_region_held3 (fun _ => True) (trivial)
          ((first
            | (go_at_call 60; refine (SL.out _ ?_).mono ?_; exact below_drewN (Below.refl _ X2) 1; rintro e w7 ⟨rfl, B7⟩)
            | (go_at_call 58; refine (SR2.out _ ?_).mono ?_; exact below_undrew B7; rintro e w8 ⟨rfl, rfl⟩)))
        have D7 : Below X2.heap.size X2 w7 := below_undrew B7
        have DW7 := DA.out.trans (D7.mono DA.out.size)
        have g4 : w7.heap[b4]? = some (.cells #[.int .i64 (T0 : Int), .int .i64 (T1 : Int), .int .i64 (T2 : Int), .int .i64 (T3 : Int), .int .i64 (T4 : Int), .slice none 0 0] 55 (0, 0)) := (D7.block b4 (lt_of_heap HX4.out)).trans HX4.out
        have g0 : w7.heap[b0]? = some (.cells ZC 55 (0, 0)) := (D7.block b0 (lt_of_heap G0A.out)).trans G0A.out
        obtain ⟨DS, hDS⟩ : ∃ D, D = (bs.drop 7).take Z := ⟨_, rfl⟩
        have lDS : DS.length = Z := by rw [hDS]; simp only [List.length_take, List.length_drop]; omega
        have SC : Hid (Calls Tryz.prog 61 #[.slice (some ⟨bb, off + 7, none⟩) Z (cap - 7)] w7 fun e w' => ∃ ao c, e = .returned (.slice ao DS.length c) ∧ Reads w' ao DS ∧ (ao = none → c = 0) ∧ (DS.length ≤ c ∧ c ≤ 9223372036854775807) ∧ (∀ ad, ao = some ad → w7.heap.size ≤ ad.block ∧ ad.block < w'.heap.size) ∧ Below w7.heap.size w7 w') := by
          have r := reads_part (HR.out.below DW7) 7 Z (by omega)
          rw [← hDS] at r
          have s := clone_some bb (off + 7) (cap - 7) DS (by omega) w7 r
          show Calls _ _ _ _ _
          rw [← lDS]
          exact s
        have G4 := Hid.intro g4
        have G0 := Hid.intro g0
        have HDS := Hid.intro hDS
        have HDW7 := Hid.intro DW7
        clear g4 g0 hDS B7 D7 DW7 SL SR2 lDS
        go_wp2_with fail
        refine SC.out.mono ?_
        rintro e w9 ⟨ao, c9, rfl, hr9, hn9, hc9, hf9, B9⟩
        have l4 := lt_of_heap G4.out
        have l0 := lt_of_heap G0.out
        have g4 : w9.heap[b4]? = some (.cells #[.int .i64 (T0 : Int), .int .i64 (T1 : Int), .int .i64 (T2 : Int), .int .i64 (T3 : Int), .int .i64 (T4 : Int), .slice none 0 0] 55 (0, 0)) := (B9.block b4 l4).trans G4.out
        have g0 : w9.heap[b0]? = some (.cells ZC 55 (0, 0)) := (B9.block b0 l0).trans G0.out
        have z5 : w9.cell? ⟨b4, 5, none⟩ = some (.slice none 0 0) := by rw [cell_of_row _ _ _ _ _ _ g4]; rfl
        have f5 : w9.frozen? ⟨b4, 5, none⟩ = false := frozen_of_row _ _ _ _ _ g4
        have h4 : (w9.setCell ⟨b4, 5, none⟩ (.slice ao DS.length c9)).heap[b4]? = some (.cells #[.int .i64 (T0 : Int), .int .i64 (T1 : Int), .int .i64 (T2 : Int), .int .i64 (T3 : Int), .int .i64 (T4 : Int), .slice ao DS.length c9] 55 (0, 0)) := heap_setCell_same w9 b4 5 _ _ (.slice ao DS.length c9) g4
        have h0 : (w9.setCell ⟨b4, 5, none⟩ (.slice ao DS.length c9)).heap[b0]? = some (.cells ZC 55 (0, 0)) := (heap_setCell_other w9 ⟨b4, 5, none⟩ b0 _ hb04).trans g0
        have DW9 := HDW7.out.trans (B9.mono HDW7.out.size)
        have DS9 := DW9.setCell (p := ⟨b4, 5, none⟩) hb4w (.slice ao DS.length c9)
        have r10 : Reads (w9.setCell ⟨b4, 5, none⟩ (.slice ao DS.length c9)) ao DS := hr9.kept ((Chg.refl (fun k => k = b4) w9).setCell (fun _ => rfl) _) (fun ad ha e => by have := (hf9 ad ha).1; omega)
        have ap0 : ∀ ad, ao = some ad → ¬ ad.block = b0 := fun ad ha e => by have := (hf9 ad ha).1; omega
        have hfw : ∀ ad, ao = some ad → w.heap.size ≤ ad.block ∧ ad.block < (w9.setCell ⟨b4, 5, none⟩ (.slice ao DS.length c9)).heap.size := fun ad ha => ⟨Nat.le_trans HDW7.out.size (hf9 ad ha).1, Nat.lt_of_lt_of_le (hf9 ad ha).2 ((Chg.refl (fun k => k = b4) w9).setCell (p := ⟨b4, 5, none⟩) (fun _ => rfl) _).size⟩
        have H4 := Hid.intro h4
        have H0 := Hid.intro h0
        have R10 := Hid.intro r10
        have AP := Hid.intro ap0
        have HN9 := Hid.intro hn9
        have HFW := Hid.intro hfw
        have DH := Hid.intro DS9
        clear h4 h0 r10 ap0 hn9 hfw DS9 DW9 g4 g0 hf9 B9 G4 G0 l4 l0 HDW7 SC hr9
        go_wp2_with (first | (refine wpList_load_row rfl 55 (.tmp 4) rfl b4 rfl 55 #[.int .i64 (T0 : Int), .int .i64 (T1 : Int), .int .i64 (T2 : Int), .int .i64 (T3 : Int), .int .i64 (T4 : Int), .slice ao DS.length c9] (0, 0) _ H4.out Tryz.underlying55 rfl (by kernel_rfl) ?_) | (refine wpList_store_row rfl 55 (.tmp 2) (.tmp 52) rfl b0 #[.int .i64 (T0 : Int), .int .i64 (T1 : Int), .int .i64 (T2 : Int), .int .i64 (T3 : Int), .int .i64 (T4 : Int), .slice ao DS.length c9] rfl rfl 55 ZC H0.out (by kernel_rfl) rfl (by kernel_rfl) ?_))
        (try simp only [Exit.inBlock, Exit.then])
        refine bodyPost_ret (results_row_tmp rfl _ _ b0 55 #[.int .i64 (T0 : Int), .int .i64 (T1 : Int), .int .i64 (T2 : Int), .int .i64 (T3 : Int), .int .i64 (T4 : Int), .slice ao DS.length c9] (0, 0) _ rfl (setRow_heap _ b0 ZC _ 55 _ H0.out) Tryz.underlying55 rfl (by kernel_rfl)) rfl ?_
        rw [HPP.out]
        have hA : Fr (T0 : Int) (T1 : Int) (T2 : Int) (T3 : Int) (T4 : Int) ao DS.length c9 = Fr ((readB (bs.take 4) / 16777216 : Nat) : Int) ((readB (bs.take 4) / 4096 % 4096 : Nat) : Int) ((readB (bs.take 4) / 512 % 8 : Nat) : Int) ((readB (bs.take 4) / 4 % 128 : Nat) : Int) ((readB (bs.take 4) % 4 : Nat) : Int) ao ((bs.drop 7).take (bs.getD 4 0)).length c9 := by
          rw [← HNN.out, ← HZ.out, ← HDS.out, HT.out.1, HT.out.2.1, HT.out.2.2.1, HT.out.2.2.2.1, HT.out.2.2.2.2]
        refine ⟨below_setRow DH.out b0 (by rw [HB0.out]; exact Nat.le_refl _) _, .inr ⟨HE0.out, ao, c9, ?_, ?_, HN9.out, ?_, fun ad ha => ⟨(HFW.out ad ha).1, by rw [size_setRow]; exact (HFW.out ad ha).2⟩⟩⟩
        · rw [← hA]; rfl
        · rw [← HZ.out, ← HDS.out]
          exact R10.out.kept (S := fun k => k = b0) ⟨rfl, rfl, rfl, by rw [size_setRow]; exact Nat.le_refl _, fun k _ hk => setRow_other _ b0 k _ hk⟩ AP.out
        · rw [← HZ.out, ← HDS.out]; exact hc9
      · have hb5 : (((crc32 (bs.take Y) : Nat) : Int) != ((readB (bs.drop Y) : Nat) : Int)) = true := by rw [bne_iff_ne]; omega
        have E5 : parseE bs = 5 := by
          unfold parseE
          rw [if_neg (by omega), if_neg (fun h => h HHX.out), ← HZ.out, if_neg (by have := HZL.out; omega), ← HY.out, if_pos hs]
        have HE5 := Hid.intro E5
        clear E5 hs
        generalize crc32 (bs.take Y) = L1 at SL hb5
        generalize readB (bs.drop Y) = L2 at SR2 hb5
        go_region_held3 (fun _ => True) (trivial)
          ((first
            | (go_at_call 60; refine (SL.out _ ?_).mono ?_; exact below_drewN (Below.refl _ X2) 1; rintro e w7 ⟨rfl, B7⟩)
            | (go_at_call 58; refine (SR2.out _ ?_).mono ?_; exact below_undrew B7; rintro e w8 ⟨rfl, rfl⟩)))
        have D7 : Below X2.heap.size X2 w7 := below_undrew B7
        have DW7 := DA.out.trans (D7.mono DA.out.size)
        have g0 : w7.heap[b0]? = some (.cells ZC 55 (0, 0)) := (D7.block b0 (lt_of_heap G0A.out)).trans G0A.out
        have G0 := Hid.intro g0
        clear g0 B7 D7 SL SR2
        go_wp2_with (refine wpList_store_row rfl 55 (.tmp 2) (.tmp 46) rfl b0 ZC rfl rfl 55 ZC G0.out (by kernel_rfl) rfl (by kernel_rfl) ?_)
        (try simp only [Exit.inBlock, Exit.then])
        refine bodyPost_ret (results_row_tmp rfl _ _ b0 55 ZC (0, 0) _ rfl (setRow_heap _ b0 ZC ZC 55 _ G0.out) Tryz.underlying55 rfl (by kernel_rfl)) rfl ?_
        rw [HPP.out]
        exact ⟨below_setRow DW7 b0 (by rw [HB0.out]; exact Nat.le_refl _) ZC, .inl ⟨by rw [HE5.out]; decide, by rw [HE5.out]; rfl⟩⟩
  · have E3 : parseE bs = 3 := by unfold parseE; rw [if_neg (by omega), if_pos hh]
    have HE3 := Hid.intro E3
    have hb : (((crc16 (bs.take 5) : Nat) : Int) != ((readB ((bs.drop 5).take 2) : Nat) : Int)) = true := by rw [bne_iff_ne]; omega
    clear E3 hh
    generalize crc16 (bs.take 5) = C1 at SS hb
    generalize readB ((bs.drop 5).take 2) = C2 at SR hb
    go_region_held3 (fun _ => True) (trivial)
      ((first
        | (go_at_call 57; refine (SS.out _ ?_).mono ?_; exact below_drewN (Below.refl _ X) 1; rintro e w5 ⟨rfl, B5⟩)
        | (go_at_call 58; refine (SR.out _ ?_).mono ?_; exact below_undrew B5; rintro e w6 ⟨rfl, rfl⟩)))
    have D5 : Below X.heap.size X w5 := below_undrew B5
    have g0 : w5.heap[b0]? = some (.cells ZC 55 (0, 0)) := (D5.block b0 (lt_of_heap HX0.out)).trans HX0.out
    have G0 := Hid.intro g0
    have DW := BX.trans (D5.mono BX.size)
    clear g0 B5 D5 SS SR
    go_wp2_with (refine wpList_store_row rfl 55 (.tmp 2) (.tmp 18) rfl b0 ZC rfl rfl 55 ZC G0.out (by kernel_rfl) rfl (by kernel_rfl) ?_)
    (try simp only [Exit.inBlock, Exit.then])
    refine bodyPost_ret (results_row_tmp rfl _ _ b0 55 ZC (0, 0) _ rfl (setRow_heap w5 b0 ZC ZC 55 _ G0.out) Tryz.underlying55 rfl (by kernel_rfl)) rfl ?_
    rw [HPP.out]
    exact ⟨below_setRow DW b0 (by rw [HB0.out]; exact Nat.le_refl _) ZC, .inl ⟨by rw [HE3.out]; decide, by rw [HE3.out]; rfl⟩⟩

end Go.Proofs.YthhggjakenalpaaGreatDoor

/- Package frame: Parse of whatever bytes, and Heard. -/
namespace Go.Proofs.YthhggjakenalpaaGreatDoor
set_option maxRecDepth 100000
open Go.RowKit
open Bt

theorem parse_any (a : Option Addr) (cap : Nat) (bs : List Nat) (h300 : bs.length ≤ 100000) (hcap : bs.length ≤ cap) (hcm : cap ≤ 9223372036854775807) (h256 : ∀ b ∈ bs, b < 256) (w : World) (hw : Wid w) (hr : Reads w a bs) :
    Calls Tryz.prog 27 #[.slice a bs.length cap] w (ParseP bs w) := by
  by_cases h : bs.length < 11
  · exact parse_short a cap bs h w
  · obtain ⟨bb, off, rfl, _⟩ := reads_at hr (by omega)
    exact parse_long bb off cap bs (by omega) h300 hcap hcm h256 w hw hr

/-- How bytes are heard. -/
def heardF (bs : List Nat) (an rs : Int) : List Nat :=
  if parseE bs = 0 then putF ((readB (bs.take 4) / 16777216 : Nat) : Int) ((readB (bs.take 4) / 4096 % 4096 : Nat) : Int) an rs ((readB (bs.take 4) % 4 : Nat) : Int) ((bs.drop 7).take (bs.getD 4 0)) else []

end Go.Proofs.YthhggjakenalpaaGreatDoor

/- Plain: what is put and what is parsed, of whatever frame. -/
namespace Go.Proofs.YthhggjakenalpaaGreatDoor
set_option maxRecDepth 100000
open Bt

/-- A right frame's bytes say its fields. -/
theorem put_fields {tx sq an rs kd : Int} {ds : List Nat} (h : isFrm tx sq an rs kd ds.length = true) :
    parseE (putF tx sq an rs kd ds) = 0 ∧ ((readB ((putF tx sq an rs kd ds).take 4) / 16777216 : Nat) : Int) = tx ∧ ((readB ((putF tx sq an rs kd ds).take 4) / 4096 % 4096 : Nat) : Int) = sq ∧ ((readB ((putF tx sq an rs kd ds).take 4) / 512 % 8 : Nat) : Int) = an ∧
      ((readB ((putF tx sq an rs kd ds).take 4) / 4 % 128 : Nat) : Int) = rs ∧ ((readB ((putF tx sq an rs kd ds).take 4) % 4 : Nat) : Int) = kd ∧ ((putF tx sq an rs kd ds).drop 7).take ((putF tx sq an rs kd ds).getD 4 0) = ds := by
  have e1 : putF tx sq an rs kd ds = frmB (headN tx.toNat sq.toNat an.toNat rs.toNat kd.toNat) ds := by unfold putF; rw [if_pos h]
  have b := isFrm_iff.1 h
  have hN := headN_lt tx.toNat sq.toNat an.toNat rs.toNat kd.toNat (by omega) (by omega) (by omega) (by omega) (by omega)
  have f := headN_fields tx.toNat sq.toNat an.toNat rs.toNat kd.toNat (by omega) (by omega) (by omega) (by omega)
  obtain ⟨g1, g2, g3⟩ := frm_fields _ ds hN
  rw [e1, g1, g2]
  refine ⟨parse_frm _ ds (by omega), by omega, by omega, by omega, by omega, by omega, g3⟩

theorem heard_put {tx sq an rs kd : Int} {ds : List Nat} (h : isFrm tx sq an rs kd ds.length = true) (n s : Int) : heardF (putF tx sq an rs kd ds) n s = putF tx sq n s kd ds := by
  obtain ⟨p, f0, f1, f2, f3, f4, f5⟩ := put_fields h
  unfold heardF
  rw [if_pos p, f0, f1, f4, f5]

theorem putF_no {tx sq an rs kd : Int} {ds : List Nat} (h : isFrm tx sq an rs kd ds.length = false) : putF tx sq an rs kd ds = [] := by
  unfold putF; rw [if_neg (by rw [h]; simp)]

theorem putF_len {tx sq an rs kd : Int} {ds : List Nat} (h : isFrm tx sq an rs kd ds.length = true) : 11 ≤ (putF tx sq an rs kd ds).length ∧ (putF tx sq an rs kd ds).length ≤ 71 := by
  have := (isFrm_iff.1 h).2.2.2.2.2
  unfold putF; rw [if_pos h, frmB_length]; omega

theorem putF_byte {tx sq an rs kd : Int} {ds : List Nat} (hd : ∀ b ∈ ds, b < 256) : ∀ b ∈ putF tx sq an rs kd ds, b < 256 := by
  unfold putF
  split
  · rename_i h
    have := (isFrm_iff.1 h).2.2.2.2.2
    exact frmB_byte _ ds hd (by omega)
  · intro b hb; cases hb

/-- What is parsed and put is what it was. -/
theorem parse_put {bs : List Nat} (hb : ∀ b ∈ bs, b < 256) (h : parseE bs = 0) :
    putF ((readB (bs.take 4) / 16777216 : Nat) : Int) ((readB (bs.take 4) / 4096 % 4096 : Nat) : Int) ((readB (bs.take 4) / 512 % 8 : Nat) : Int) ((readB (bs.take 4) / 4 % 128 : Nat) : Int) ((readB (bs.take 4) % 4 : Nat) : Int) ((bs.drop 7).take (bs.getD 4 0)) = bs := by
  obtain ⟨h1, h2, h3, h4, h5⟩ := parseE_zero h
  have hN : readB (bs.take 4) < 4294967296 := by
    have := readB_lt (bs.take 4) (mem_take' hb 4)
    rwa [show (bs.take 4).length = 4 from by simp; omega, show 256 ^ 4 = 4294967296 from rfl] at this
  have hl : ((bs.drop 7).take (bs.getD 4 0)).length ≤ 60 := by rw [List.length_take]; omega
  have hf : isFrm ((readB (bs.take 4) / 16777216 : Nat) : Int) ((readB (bs.take 4) / 4096 % 4096 : Nat) : Int) ((readB (bs.take 4) / 512 % 8 : Nat) : Int) ((readB (bs.take 4) / 4 % 128 : Nat) : Int) ((readB (bs.take 4) % 4 : Nat) : Int) ((bs.drop 7).take (bs.getD 4 0)).length = true := by
    rw [isFrm_iff]
    generalize readB (bs.take 4) = N at hN ⊢
    omega
  unfold putF
  rw [if_pos hf]
  simp only [Int.toNat_natCast]
  rw [headN_of]
  exact frm_parse bs hb h

end Go.Proofs.YthhggjakenalpaaGreatDoor
