/- Package frame: getHead. -/
import Derived.Test.YtaieohnppeapfaaDoorFrmC
namespace Go.Proofs.YtaieohnppeapfaaDoor
open Go.RowKit
open Bt

/-- Where a field begins. -/
def sAt : Nat → Nat
  | 0 => 0
  | k + 1 => sAt k + wAt k

theorem wAt_le (k : Nat) (hk : k < 6) : 1 ≤ wAt k ∧ wAt k ≤ 32 := by
  match k, hk with
  | 0, _ => decide
  | 1, _ => decide
  | 2, _ => decide
  | 3, _ => decide
  | 4, _ => decide
  | 5, _ => decide

theorem sAt_le (k : Nat) (hk : k < 6) : sAt k + wAt k ≤ 40 := by
  match k, hk with
  | 0, _ => decide
  | 1, _ => decide
  | 2, _ => decide
  | 3, _ => decide
  | 4, _ => decide
  | 5, _ => decide

/-- The field of bytes, by its place. -/
def gAt (bs : List Nat) (k : Nat) : Nat := num (((unpack bs).drop (sAt k)).take (wAt k))

/-- What stands in the array when the first k fields were got. -/
def gTo (bs : List Nat) (k j : Nat) : Nat := if j < k then gAt bs j else 0

def gC (bs : List Nat) (k : Nat) : Array Value := #[.int .i64 (gTo bs k 0 : Int), .int .i64 (gTo bs k 1 : Int), .int .i64 (gTo bs k 2 : Int), .int .i64 (gTo bs k 3 : Int), .int .i64 (gTo bs k 4 : Int), .int .i64 (gTo bs k 5 : Int)]

theorem gC_zero (bs : List Nat) : gC bs 0 = #[.int .i64 0, .int .i64 0, .int .i64 0, .int .i64 0, .int .i64 0, .int .i64 0] := by simp [gC, gTo]

theorem gC_succ (bs : List Nat) (k : Nat) (hk : k < 6) : (gC bs k).setIfInBounds k (.int .i64 (gAt bs k : Int)) = gC bs (k + 1) := by
  match k, hk with
  | 0, _ => simp [gC, gTo]
  | 1, _ => simp [gC, gTo]
  | 2, _ => simp [gC, gTo]
  | 3, _ => simp [gC, gTo]
  | 4, _ => simp [gC, gTo]
  | 5, _ => simp [gC, gTo]

theorem gC_cell {w : World} {b k : Nat} {t : TypeId} {fr : Nat × Nat} {bs : List Nat} (h : w.heap[b]? = some (.cells (gC bs k) t fr)) (j : Nat) (hj : j < 6) : w.cell? ⟨b, j, none⟩ = some (.int .i64 (gTo bs k j : Int)) := by
  rw [cell_of_row _ _ _ _ _ _ h]
  match j, hj with
  | 0, _ => rfl
  | 1, _ => rfl
  | 2, _ => rfl
  | 3, _ => rfl
  | 4, _ => rfl
  | 5, _ => rfl

theorem wid_index (k : Nat) (hk : k < 6) (w : World) :
    (Instr.index 46 (.agg #[.int .i64 8, .int .i64 12, .int .i64 3, .int .i64 7, .int .i64 2, .int .i64 8]) (.int .i64 (k : Int))).run Tryd.prog w = .ok (.int .i64 (wAt k : Int)) w := by
  have i0 : (Instr.index 46 (.agg #[.int .i64 8, .int .i64 12, .int .i64 3, .int .i64 7, .int .i64 2, .int .i64 8]) (.int .i64 0)).run Tryd.prog w = .ok (.int .i64 8) w := by kernel_rfl
  have i1 : (Instr.index 46 (.agg #[.int .i64 8, .int .i64 12, .int .i64 3, .int .i64 7, .int .i64 2, .int .i64 8]) (.int .i64 1)).run Tryd.prog w = .ok (.int .i64 12) w := by kernel_rfl
  have i2 : (Instr.index 46 (.agg #[.int .i64 8, .int .i64 12, .int .i64 3, .int .i64 7, .int .i64 2, .int .i64 8]) (.int .i64 2)).run Tryd.prog w = .ok (.int .i64 3) w := by kernel_rfl
  have i3 : (Instr.index 46 (.agg #[.int .i64 8, .int .i64 12, .int .i64 3, .int .i64 7, .int .i64 2, .int .i64 8]) (.int .i64 3)).run Tryd.prog w = .ok (.int .i64 7) w := by kernel_rfl
  have i4 : (Instr.index 46 (.agg #[.int .i64 8, .int .i64 12, .int .i64 3, .int .i64 7, .int .i64 2, .int .i64 8]) (.int .i64 4)).run Tryd.prog w = .ok (.int .i64 2) w := by kernel_rfl
  have i5 : (Instr.index 46 (.agg #[.int .i64 8, .int .i64 12, .int .i64 3, .int .i64 7, .int .i64 2, .int .i64 8]) (.int .i64 5)).run Tryd.prog w = .ok (.int .i64 8) w := by kernel_rfl
  match k, hk with
  | 0, _ => exact i0
  | 1, _ => exact i1
  | 2, _ => exact i2
  | 3, _ => exact i3
  | 4, _ => exact i4
  | 5, _ => exact i5

/-- What the head's bytes say. -/
theorem g_fields (bs : List Nat) (hl : bs.length = 5) (hb : ∀ b ∈ bs, b < 256) :
    gAt bs 0 = readB (bs.take 4) / 16777216 ∧ gAt bs 1 = readB (bs.take 4) / 4096 % 4096 ∧ gAt bs 2 = readB (bs.take 4) / 512 % 8 ∧ gAt bs 3 = readB (bs.take 4) / 4 % 128 ∧ gAt bs 4 = readB (bs.take 4) % 4 ∧ gAt bs 5 = bs.getD 4 0 := by
  have hN : readB (bs.take 4) < 4294967296 := by
    have := readB_lt (bs.take 4) (mem_take' hb 4)
    rwa [show (bs.take 4).length = 4 from by simp; omega, show 256 ^ 4 = 4294967296 from rfl] at this
  have e4 : numB (readB (bs.take 4)) 4 = bs.take 4 := by
    have := numB_readB (bs.take 4) (mem_take' hb 4)
    rwa [show (bs.take 4).length = 4 from by simp; omega] at this
  have e5 : bs = numB (readB (bs.take 4)) 4 ++ [bs.getD 4 0] := by
    rw [e4]
    match bs, hl with
    | [b0, b1, b2, b3, b4], _ => rfl
  have h4 : bs.getD 4 0 < 256 := by
    match bs, hl with
    | [b0, b1, b2, b3, b4], _ => exact hb b4 (by simp)
  generalize readB (bs.take 4) = n at hN e5 ⊢
  generalize bs.getD 4 0 = z at e5 h4 ⊢
  have f := headN_of n
  have hn := headN_fields (n / 16777216) (n / 4096 % 4096) (n / 512 % 8) (n / 4 % 128) (n % 4) (by omega) (by omega) (by omega) (by omega)
  have hbits := head_bits (n / 16777216) (n / 4096 % 4096) (n / 512 % 8) (n / 4 % 128) (n % 4) (by omega) (by omega) (by omega) (by omega)
  rw [f] at hbits
  have hu : unpack bs = fld 8 (n / 16777216) ++ (fld 12 (n / 4096 % 4096) ++ (fld 3 (n / 512 % 8) ++ (fld 7 (n / 4 % 128) ++ (fld 2 (n % 4) ++ fld 8 z)))) := by
    rw [e5, unpack_append, ← fld32_unpack, ← hbits]
    simp [unpack]
  have lf := fld_length
  unfold gAt
  rw [hu]
  have key : ∀ (p q r : List Nat) (s m x : Nat), p.length = s → q = fld m x → x < 2 ^ m → num (((p ++ (q ++ r)).drop s).take m) = x := by
    intro p q r s m x hp hq hx
    subst hp hq
    rw [List.drop_left]
    have := List.take_left (l₁ := fld m x) (l₂ := r)
    rw [fld_length] at this
    rw [this, num_fld]
    exact Nat.mod_eq_of_lt hx
  refine ⟨?_, ?_, ?_, ?_, ?_, ?_⟩
  · exact key [] _ _ 0 8 _ rfl rfl (by omega)
  · exact key (fld 8 (n / 16777216)) _ _ 8 12 _ (lf _ _) rfl (by omega)
  · rw [← List.append_assoc]
    exact key _ _ _ 20 3 _ (by simp [lf]) rfl (by omega)
  · rw [← List.append_assoc, ← List.append_assoc]
    exact key _ _ _ 23 7 _ (by simp [lf]) rfl (by omega)
  · rw [← List.append_assoc, ← List.append_assoc, ← List.append_assoc]
    exact key _ _ _ 30 2 _ (by simp [lf]) rfl (by omega)
  · rw [← List.append_assoc, ← List.append_assoc, ← List.append_assoc, ← List.append_assoc, ← List.append_nil (fld 8 z)]
    exact key _ _ _ 32 8 _ (by simp [lf]) rfl (by omega)

/-- A struct of six cells that is stored cell by cell. -/
theorem set6_heap (w : World) (b : Nat) (t : TypeId) (u0 u1 u2 u3 u4 u5 v0 v1 v2 v3 v4 v5 : Value) (h : w.heap[b]? = some (.cells #[u0, u1, u2, u3, u4, u5] t (0, 0))) :
    ((((((w.setCell ⟨b, 0, none⟩ v0).setCell ⟨b, 1, none⟩ v1).setCell ⟨b, 2, none⟩ v2).setCell ⟨b, 3, none⟩ v3).setCell ⟨b, 4, none⟩ v4).setCell ⟨b, 5, none⟩ v5).drew.heap[b]? = some (.cells #[v0, v1, v2, v3, v4, v5] t (0, 0)) := by
  have h0 : (w.setCell ⟨b, 0, none⟩ v0).heap[b]? = some (.cells #[v0, u1, u2, u3, u4, u5] t (0, 0)) := by
    have q := heap_setCell_same w b 0 _ _ v0 h
    simpa only [List.setIfInBounds_toArray, List.set_cons_zero, List.set_cons_succ] using q
  have h1 : ((w.setCell ⟨b, 0, none⟩ v0).setCell ⟨b, 1, none⟩ v1).heap[b]? = some (.cells #[v0, v1, u2, u3, u4, u5] t (0, 0)) := by
    have q := heap_setCell_same (w.setCell ⟨b, 0, none⟩ v0) b 1 _ _ v1 h0
    simpa only [List.setIfInBounds_toArray, List.set_cons_zero, List.set_cons_succ] using q
  have h2 : (((w.setCell ⟨b, 0, none⟩ v0).setCell ⟨b, 1, none⟩ v1).setCell ⟨b, 2, none⟩ v2).heap[b]? = some (.cells #[v0, v1, v2, u3, u4, u5] t (0, 0)) := by
    have q := heap_setCell_same ((w.setCell ⟨b, 0, none⟩ v0).setCell ⟨b, 1, none⟩ v1) b 2 _ _ v2 h1
    simpa only [List.setIfInBounds_toArray, List.set_cons_zero, List.set_cons_succ] using q
  have h3 : ((((w.setCell ⟨b, 0, none⟩ v0).setCell ⟨b, 1, none⟩ v1).setCell ⟨b, 2, none⟩ v2).setCell ⟨b, 3, none⟩ v3).heap[b]? = some (.cells #[v0, v1, v2, v3, u4, u5] t (0, 0)) := by
    have q := heap_setCell_same (((w.setCell ⟨b, 0, none⟩ v0).setCell ⟨b, 1, none⟩ v1).setCell ⟨b, 2, none⟩ v2) b 3 _ _ v3 h2
    simpa only [List.setIfInBounds_toArray, List.set_cons_zero, List.set_cons_succ] using q
  have h4 : (((((w.setCell ⟨b, 0, none⟩ v0).setCell ⟨b, 1, none⟩ v1).setCell ⟨b, 2, none⟩ v2).setCell ⟨b, 3, none⟩ v3).setCell ⟨b, 4, none⟩ v4).heap[b]? = some (.cells #[v0, v1, v2, v3, v4, u5] t (0, 0)) := by
    have q := heap_setCell_same ((((w.setCell ⟨b, 0, none⟩ v0).setCell ⟨b, 1, none⟩ v1).setCell ⟨b, 2, none⟩ v2).setCell ⟨b, 3, none⟩ v3) b 4 _ _ v4 h3
    simpa only [List.setIfInBounds_toArray, List.set_cons_zero, List.set_cons_succ] using q
  have h5 : ((((((w.setCell ⟨b, 0, none⟩ v0).setCell ⟨b, 1, none⟩ v1).setCell ⟨b, 2, none⟩ v2).setCell ⟨b, 3, none⟩ v3).setCell ⟨b, 4, none⟩ v4).setCell ⟨b, 5, none⟩ v5).heap[b]? = some (.cells #[v0, v1, v2, v3, v4, v5] t (0, 0)) := by
    have q := heap_setCell_same (((((w.setCell ⟨b, 0, none⟩ v0).setCell ⟨b, 1, none⟩ v1).setCell ⟨b, 2, none⟩ v2).setCell ⟨b, 3, none⟩ v3).setCell ⟨b, 4, none⟩ v4) b 5 _ _ v5 h4
    simpa only [List.setIfInBounds_toArray, List.set_cons_zero, List.set_cons_succ] using q
  generalize ((((((w.setCell ⟨b, 0, none⟩ v0).setCell ⟨b, 1, none⟩ v1).setCell ⟨b, 2, none⟩ v2).setCell ⟨b, 3, none⟩ v3).setCell ⟨b, 4, none⟩ v4).setCell ⟨b, 5, none⟩ v5) = Z at h5 ⊢
  exact h5

theorem set6_below {B : Nat} {w0 w : World} (b : Nat) (v0 v1 v2 v3 v4 v5 : Value) (h : Below B w0 w) (hb : B ≤ b) :
    Below B w0 ((((((w.setCell ⟨b, 0, none⟩ v0).setCell ⟨b, 1, none⟩ v1).setCell ⟨b, 2, none⟩ v2).setCell ⟨b, 3, none⟩ v3).setCell ⟨b, 4, none⟩ v4).setCell ⟨b, 5, none⟩ v5).drew :=
  below_drewN ((((((h.setCell (p := ⟨b, 0, none⟩) hb v0).setCell (p := ⟨b, 1, none⟩) hb v1).setCell (p := ⟨b, 2, none⟩) hb v2).setCell (p := ⟨b, 3, none⟩) hb v3).setCell (p := ⟨b, 4, none⟩) hb v4).setCell (p := ⟨b, 5, none⟩) hb v5) 1

set_option maxRecDepth 100000 in
set_option maxHeartbeats 1000000 in
theorem getHead_any (ao : Option Addr) (cap : Nat) (bs : List Nat) (hl : bs.length = 5) (h256 : ∀ b ∈ bs, b < 256) (w : World) (hw : Wid w) (hr : Reads w ao bs) :
    Calls Tryd.prog 31 #[.slice ao 5 cap] w fun e w' =>
      e = .returned (.tuple #[Fr (gAt bs 0 : Int) (gAt bs 1 : Int) (gAt bs 2 : Int) (gAt bs 3 : Int) (gAt bs 4 : Int) none 0 0, .int .i64 (gAt bs 5 : Int)]) ∧ Below w.heap.size w w' := by
  have HR := Hid.intro hr
  have HW := Hid.intro hw
  have H256 := Hid.intro h256
  have HL := Hid.intro hl
  clear hr hw h256 hl
  obtain ⟨V0, hV0⟩ : ∃ V, V = gAt bs 0 := ⟨_, rfl⟩
  obtain ⟨V1, hV1⟩ : ∃ V, V = gAt bs 1 := ⟨_, rfl⟩
  obtain ⟨V2, hV2⟩ : ∃ V, V = gAt bs 2 := ⟨_, rfl⟩
  obtain ⟨V3, hV3⟩ : ∃ V, V = gAt bs 3 := ⟨_, rfl⟩
  obtain ⟨V4, hV4⟩ : ∃ V, V = gAt bs 4 := ⟨_, rfl⟩
  obtain ⟨V5, hV5⟩ : ∃ V, V = gAt bs 5 := ⟨_, rfl⟩
  rw [← hV0, ← hV1, ← hV2, ← hV3, ← hV4, ← hV5]
  have HV := Hid.intro (And.intro hV0 (And.intro hV1 (And.intro hV2 (And.intro hV3 (And.intro hV4 hV5)))))
  clear hV0 hV1 hV2 hV3 hV4 hV5
  go_enter Tryd.func31, Tryd.ntmps31
  go_wp2_with fail
  have BX := ((Below.refl _ w).alloc (Nat.le_refl _) (.cells #[.int .i64 0, .int .i64 0, .int .i64 0, .int .i64 0, .int .i64 0, .slice none 0 0] 24)).alloc (World.size_alloc w _ ▸ Nat.le_succ _) (.cells #[.int .i64 0, .int .i64 0, .int .i64 0, .int .i64 0, .int .i64 0, .int .i64 0] 46)
  have hX0 := heap_alloc2_old w (.cells #[.int .i64 0, .int .i64 0, .int .i64 0, .int .i64 0, .int .i64 0, .slice none 0 0] 24) (.cells #[.int .i64 0, .int .i64 0, .int .i64 0, .int .i64 0, .int .i64 0, .int .i64 0] 46)
  have hX1 := heap_alloc2_new w (.cells #[.int .i64 0, .int .i64 0, .int .i64 0, .int .i64 0, .int .i64 0, .slice none 0 0] 24) (.cells #[.int .i64 0, .int .i64 0, .int .i64 0, .int .i64 0, .int .i64 0, .int .i64 0] 46)
  generalize (w.alloc (.cells #[.int .i64 0, .int .i64 0, .int .i64 0, .int .i64 0, .int .i64 0, .slice none 0 0] 24)).alloc (.cells #[.int .i64 0, .int .i64 0, .int .i64 0, .int .i64 0, .int .i64 0, .int .i64 0] 46) = X at BX hX0 hX1 ⊢
  have hb01 : ¬ w.heap.size = w.heap.size + 1 := by omega
  have hb1w : w.heap.size ≤ w.heap.size + 1 := by omega
  generalize w.heap.size + 1 = b1 at hX1 hb01 hb1w ⊢
  generalize hb0e : w.heap.size = b0 at hX0 hb01 ⊢
  have HB0 := Hid.intro hb0e
  have HX0 := Hid.intro hX0
  have HX1 := Hid.intro hX1
  clear hX0 hX1 hb0e
  have SL := look_any ao cap bs (by rw [HL.out]; decide) H256.out X (HR.out.below BX)
  rw [HL.out] at SL
  refine SL.mono ?_
  rintro e w5 ⟨eb, g, rfl, hg, heb, E5, C5⟩
  have D5 := BX.trans ((C5.below (Nat.le_refl _) (fun _ h => h.elim)).mono BX.size)
  have g1 : w5.heap[b1]? = some (.cells (gC bs 0) 46 (0, 0)) := by
    rw [gC_zero]; exact (C5.block b1 (lt_of_heap HX1.out) (fun h => h)).trans HX1.out
  have g0 : w5.heap[b0]? = some (.cells ZC 24 (0, 0)) := (C5.block b0 (lt_of_heap HX0.out) (fun h => h)).trans HX0.out
  have l1 := lt_of_heap HX1.out
  have l0 := lt_of_heap HX0.out
  have hne1 : ¬ eb = b1 := by omega
  have hne0 : ¬ eb = b0 := by omega
  have hng1 : ¬ g = b1 := by omega
  have hebw : w.heap.size ≤ eb := by have := BX.size; omega
  clear SL C5 hg heb BX HX0 HX1 l0 l1
  have G1 := Hid.intro g1
  have G0 := Hid.intro g0
  have EH := Hid.intro E5
  have DH := Hid.intro D5
  clear g1 g0 E5 D5
  obtain ⟨tW, frW, hWW⟩ := HW.out.below DH.out
  have HWW := Hid.intro hWW
  clear hWW
  go_wp2_with (refine wpList_load_row rfl 46 (.global 0) rfl 0 rfl tW #[.int .i64 8, .int .i64 12, .int .i64 3, .int .i64 7, .int .i64 2, .int .i64 8] frW _ HWW.out Tryd.underlying46 rfl (by kernel_rfl) ?_)
  have WI := Hid.intro wid_index
  clear HWW
  go_loopw [12] (fun i wr => ∃ k : Nat, k ≤ 6 ∧ i = .int .i64 k ∧ EyeAt wr eb g bs (sAt k) ∧ wr.heap[b1]? = some (.cells (gC bs k) 46 (0, 0)) ∧ wr.heap[b0]? = some (.cells ZC 24 (0, 0)) ∧ Below w.heap.size w wr) (fun i _ => 6 - (intOf i).toNat)
  case atStart => exact ⟨0, by omega, rfl, EH.out, G1.out, G0.out, DH.out⟩
  case round =>
    obtain ⟨k, hk, rfl, he, hg1, hg0, hb⟩ := hrel
    have HE := Hid.intro he
    have HG1 := Hid.intro hg1
    have HG0 := Hid.intro hg0
    have HB := Hid.intro hb
    clear he hg1 hg0 hb
    by_cases hlt : k < 6
    · have i0 : (0 : Int) ≤ (k : Int) := by omega
      have i1 : (k : Int) < 6 := by omega
      have wi := WI.out k hlt
      have hw1 := wAt_le k hlt
      have hw2 := sAt_le k hlt
      have HC := Hid.intro (get_yes eb g bs (sAt k) (wAt k) wr HE.out hw1.1 hw1.2 (by rw [HL.out]; omega))
      have hS : sAt (k + 1) = sAt k + wAt k := rfl
      have hG : gAt bs k = num (((unpack bs).drop (sAt k)).take (wAt k)) := rfl
      rw [← hG, ← hS] at HC
      have HS := gC_succ bs k hlt
      have HSS := Hid.intro HS
      clear HS hS hG hw2
      generalize gAt bs k = V at HC HSS
      generalize wAt k = M at HC wi hw1
      go_wp2_with fail
      refine HC.out.mono ?_
      rintro e w1 ⟨rfl, E1, C1⟩
      have q1 : w1.heap[b1]? = some (.cells (gC bs k) 46 (0, 0)) := (C1.block b1 (lt_of_heap HG1.out) (fun h => hne1 h.symm)).trans HG1.out
      have q0 : w1.heap[b0]? = some (.cells ZC 24 (0, 0)) := (C1.block b0 (lt_of_heap HG0.out) (fun h => hne0 h.symm)).trans HG0.out
      have c := gC_cell q1 k hlt
      have f := frozen_of_row _ _ k _ _ q1
      have B1 := HB.out.trans (C1.below HB.out.size (fun j h => by rw [h]; exact hebw))
      have n1 : (w1.setCell ⟨b1, k, none⟩ (.int .i64 (V : Int))).heap[b1]? = some (.cells (gC bs (k + 1)) 46 (0, 0)) := by
        rw [← HSS.out]; exact heap_setCell_same w1 b1 k _ _ _ q1
      have n0 : (w1.setCell ⟨b1, k, none⟩ (.int .i64 (V : Int))).heap[b0]? = some (.cells ZC 24 (0, 0)) := (heap_setCell_other w1 ⟨b1, k, none⟩ b0 _ hb01).trans q0
      have nE : EyeAt (w1.setCell ⟨b1, k, none⟩ (.int .i64 (V : Int))) eb g bs (sAt (k + 1)) := E1.kept ((Chg.refl (fun j => j = b1) w1).setCell (fun _ => rfl) _) hne1 hng1
      have nB := B1.setCell (p := ⟨b1, k, none⟩) hb1w (.int .i64 (V : Int))
      have N1 := Hid.intro n1
      have N0 := Hid.intro n0
      have NE := Hid.intro nE
      have NB := Hid.intro nB
      clear n1 n0 nE nB B1 q0 q1 C1 E1 HC
      go_wp2
      go_roundw
      case rel => exact ⟨k + 1, by omega, by go_num, NE.out, N1.out, N0.out, NB.out⟩
      case measure => simp [intOf]; omega
    · have hke : k = 6 := by omega
      subst hke
      have hg : ∀ j, j < 6 → gTo bs 6 j = gAt bs j := fun j hj => by simp [gTo, hj]
      have c0 := gC_cell HG1.out 0 (by decide)
      have c1 := gC_cell HG1.out 1 (by decide)
      have c2 := gC_cell HG1.out 2 (by decide)
      have c3 := gC_cell HG1.out 3 (by decide)
      have c4 := gC_cell HG1.out 4 (by decide)
      have c5 := gC_cell HG1.out 5 (by decide)
      rw [hg 0 (by decide), ← HV.out.1] at c0
      rw [hg 1 (by decide), ← HV.out.2.1] at c1
      rw [hg 2 (by decide), ← HV.out.2.2.1] at c2
      rw [hg 3 (by decide), ← HV.out.2.2.2.1] at c3
      rw [hg 4 (by decide), ← HV.out.2.2.2.2.1] at c4
      rw [hg 5 (by decide), ← HV.out.2.2.2.2.2] at c5
      clear hg WI
      go_wp2_with fail
      have z0 : wr.cell? ⟨b0, 0, none⟩ = some (.int .i64 0) := by rw [cell_of_row _ _ _ _ _ _ HG0.out]; rfl
      have z1 : wr.cell? ⟨b0, 1, none⟩ = some (.int .i64 0) := by rw [cell_of_row _ _ _ _ _ _ HG0.out]; rfl
      have z2 : wr.cell? ⟨b0, 2, none⟩ = some (.int .i64 0) := by rw [cell_of_row _ _ _ _ _ _ HG0.out]; rfl
      have z3 : wr.cell? ⟨b0, 3, none⟩ = some (.int .i64 0) := by rw [cell_of_row _ _ _ _ _ _ HG0.out]; rfl
      have z4 : wr.cell? ⟨b0, 4, none⟩ = some (.int .i64 0) := by rw [cell_of_row _ _ _ _ _ _ HG0.out]; rfl
      have z5 : wr.cell? ⟨b0, 5, none⟩ = some (.slice none 0 0) := by rw [cell_of_row _ _ _ _ _ _ HG0.out]; rfl
      have f0 : wr.frozen? ⟨b0, 0, none⟩ = false := frozen_of_row _ _ _ _ _ HG0.out
      have f1 : wr.frozen? ⟨b0, 1, none⟩ = false := frozen_of_row _ _ _ _ _ HG0.out
      have f2 : wr.frozen? ⟨b0, 2, none⟩ = false := frozen_of_row _ _ _ _ _ HG0.out
      have f3 : wr.frozen? ⟨b0, 3, none⟩ = false := frozen_of_row _ _ _ _ _ HG0.out
      have f4 : wr.frozen? ⟨b0, 4, none⟩ = false := frozen_of_row _ _ _ _ _ HG0.out
      have f5 : wr.frozen? ⟨b0, 5, none⟩ = false := frozen_of_row _ _ _ _ _ HG0.out
      go_region_held3 (fun w' => w'.cell? ⟨b1, 0, none⟩ = some (.int .i64 (V0 : Int)) ∧ w'.cell? ⟨b1, 1, none⟩ = some (.int .i64 (V1 : Int)) ∧ w'.cell? ⟨b1, 2, none⟩ = some (.int .i64 (V2 : Int)) ∧ w'.cell? ⟨b1, 3, none⟩ = some (.int .i64 (V3 : Int)) ∧ w'.cell? ⟨b1, 4, none⟩ = some (.int .i64 (V4 : Int)) ∧ w'.cell? ⟨b1, 5, none⟩ = some (.int .i64 (V5 : Int))) (go_keep) (fail)
      have hb0w : w.heap.size ≤ b0 := by rw [HB0.out]; exact Nat.le_refl _
      have kk := set6_heap wr b0 24 _ _ _ _ _ _ (.int .i64 (V0 : Int)) (.int .i64 (V1 : Int)) (.int .i64 (V2 : Int)) (.int .i64 (V3 : Int)) (.int .i64 (V4 : Int)) (.slice none 0 0) HG0.out
      have DD := set6_below b0 (.int .i64 (V0 : Int)) (.int .i64 (V1 : Int)) (.int .i64 (V2 : Int)) (.int .i64 (V3 : Int)) (.int .i64 (V4 : Int)) (.slice none 0 0) HB.out hb0w
      clear z0 z1 z2 z3 z4 z5 f0 f1 f2 f3 f4 f5 c0 c1 c2 c3 c4 c5 HG0 HG1 HE
      generalize ((((((wr.setCell ⟨b0, 0, none⟩ (.int .i64 (V0 : Int))).setCell ⟨b0, 1, none⟩ (.int .i64 (V1 : Int))).setCell ⟨b0, 2, none⟩ (.int .i64 (V2 : Int))).setCell ⟨b0, 3, none⟩ (.int .i64 (V3 : Int))).setCell ⟨b0, 4, none⟩ (.int .i64 (V4 : Int))).setCell ⟨b0, 5, none⟩ (.slice none 0 0)).drew = Z at kk DD ⊢
      have KK := Hid.intro kk
      clear kk
      go_wp2
      (try simp only [Exit.inBlock, Exit.then])
      refine bodyPost_ret (results_row_tmp rfl _ _ b0 24 #[.int .i64 (V0 : Int), .int .i64 (V1 : Int), .int .i64 (V2 : Int), .int .i64 (V3 : Int), .int .i64 (V4 : Int), .slice none 0 0] (0, 0) _ rfl KK.out Tryd.underlying24 rfl (by kernel_rfl)) rfl ?_
      exact ⟨rfl, DD⟩

end Go.Proofs.YtaieohnppeapfaaDoor
