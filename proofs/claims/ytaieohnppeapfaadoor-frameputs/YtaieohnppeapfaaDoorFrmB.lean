/- Package frame's Same, of whatever two frames. -/
import Derived.Test.YtaieohnppeapfaaDoorFrmA
namespace Go.Proofs.YtaieohnppeapfaaDoor
open Go.RowKit
open Bt

set_option maxRecDepth 100000 in
set_option maxHeartbeats 1000000 in
theorem same_yes (tx sq an rs kd : Int) (a b : Option Addr) (ca cb la lb : Nat) (ds es : List Nat) (la' : la = ds.length) (lb' : lb = es.length) (hlen : la = lb) (hd : ∀ x ∈ ds, x < 256) (he : ∀ x ∈ es, x < 256) (w : World) (ha : Reads w a ds) (hb : Reads w b es) :
    Calls Tryd.prog 15 #[Fr tx sq an rs kd a la ca, Fr tx sq an rs kd b lb cb] w fun e w' => e = .returned (.bool (decide (ds = es))) ∧ Below w.heap.size w w' := by
  have E6 := fun w => eq6 tx sq an rs kd la tx sq an rs kd lb w
  rw [show decide (tx = tx ∧ sq = sq ∧ an = an ∧ rs = rs ∧ kd = kd ∧ (la : Int) = (lb : Int)) = true from by simp [hlen]] at E6
  have HE := Hid.intro (fun (w' : World) (h1 : Reads w' a ds) (h2 : Reads w' b es) => bytesEqual_any a b ca cb ds es hd he w' h1 h2)
  have HA := Hid.intro ha
  have HB := Hid.intro hb
  rw [← la', ← lb'] at HE
  clear ha hb la' lb' hlen hd he
  generalize decide (ds = es) = D at HE ⊢
  go_enter Tryd.func15, Tryd.ntmps15
  go_wp2_with fail
  have BX := ((Below.refl _ w).alloc (Nat.le_refl _) (.cells #[.int .i64 tx, .int .i64 sq, .int .i64 an, .int .i64 rs, .int .i64 kd, .slice a la ca] 24)).alloc (World.size_alloc w _ ▸ Nat.le_succ _) (.cells #[.int .i64 tx, .int .i64 sq, .int .i64 an, .int .i64 rs, .int .i64 kd, .slice b lb cb] 24)
  have hX0 := heap_alloc2_old w (.cells #[.int .i64 tx, .int .i64 sq, .int .i64 an, .int .i64 rs, .int .i64 kd, .slice a la ca] 24) (.cells #[.int .i64 tx, .int .i64 sq, .int .i64 an, .int .i64 rs, .int .i64 kd, .slice b lb cb] 24)
  have hX1 := heap_alloc2_new w (.cells #[.int .i64 tx, .int .i64 sq, .int .i64 an, .int .i64 rs, .int .i64 kd, .slice a la ca] 24) (.cells #[.int .i64 tx, .int .i64 sq, .int .i64 an, .int .i64 rs, .int .i64 kd, .slice b lb cb] 24)
  generalize (w.alloc (.cells #[.int .i64 tx, .int .i64 sq, .int .i64 an, .int .i64 rs, .int .i64 kd, .slice a la ca] 24)).alloc (.cells #[.int .i64 tx, .int .i64 sq, .int .i64 an, .int .i64 rs, .int .i64 kd, .slice b lb cb] 24) = X at BX hX0 hX1 ⊢
  generalize w.heap.size + 1 = b1 at hX1 ⊢
  generalize hb0e : w.heap.size = b0 at hX0 ⊢
  have HB0 := Hid.intro hb0e
  have HX0 := Hid.intro hX0
  have HX1 := Hid.intro hX1
  clear hX0 hX1 hb0e
  have k0 : X.cell? ⟨b0, 0, none⟩ = some (.int .i64 tx) := by rw [cell_of_row _ _ _ _ _ _ HX0.out]; rfl
  have k1 : X.cell? ⟨b0, 1, none⟩ = some (.int .i64 sq) := by rw [cell_of_row _ _ _ _ _ _ HX0.out]; rfl
  have k2 : X.cell? ⟨b0, 2, none⟩ = some (.int .i64 an) := by rw [cell_of_row _ _ _ _ _ _ HX0.out]; rfl
  have k3 : X.cell? ⟨b0, 3, none⟩ = some (.int .i64 rs) := by rw [cell_of_row _ _ _ _ _ _ HX0.out]; rfl
  have k4 : X.cell? ⟨b0, 4, none⟩ = some (.int .i64 kd) := by rw [cell_of_row _ _ _ _ _ _ HX0.out]; rfl
  have k5 : X.cell? ⟨b0, 5, none⟩ = some (.slice a la ca) := by rw [cell_of_row _ _ _ _ _ _ HX0.out]; rfl
  have m0 : X.cell? ⟨b1, 0, none⟩ = some (.int .i64 tx) := by rw [cell_of_row _ _ _ _ _ _ HX1.out]; rfl
  have m1 : X.cell? ⟨b1, 1, none⟩ = some (.int .i64 sq) := by rw [cell_of_row _ _ _ _ _ _ HX1.out]; rfl
  have m2 : X.cell? ⟨b1, 2, none⟩ = some (.int .i64 an) := by rw [cell_of_row _ _ _ _ _ _ HX1.out]; rfl
  have m3 : X.cell? ⟨b1, 3, none⟩ = some (.int .i64 rs) := by rw [cell_of_row _ _ _ _ _ _ HX1.out]; rfl
  have m4 : X.cell? ⟨b1, 4, none⟩ = some (.int .i64 kd) := by rw [cell_of_row _ _ _ _ _ _ HX1.out]; rfl
  have m5 : X.cell? ⟨b1, 5, none⟩ = some (.slice b lb cb) := by rw [cell_of_row _ _ _ _ _ _ HX1.out]; rfl
  clear HX0 HX1
  have RR : Hid (∀ w5 w6, Below X.drew.heap.size X.drew w5 → Below w5.heap.size w5 w6 → Reads w6 a ds ∧ Reads w6 b es ∧ Below w.heap.size w w6) := by
    intro w5 w6 B5 B6
    have D6 : Below w.heap.size w w6 := BX.trans (((below_undrew B5).trans (B6.mono (below_undrew B5).size)).mono BX.size)
    exact ⟨HA.out.below D6, HB.out.below D6, D6⟩
  clear HA HB
  go_region_held3 (fun w' => w'.cell? ⟨b0, 0, none⟩ = some (.int .i64 tx) ∧ w'.cell? ⟨b0, 1, none⟩ = some (.int .i64 sq) ∧ w'.cell? ⟨b0, 2, none⟩ = some (.int .i64 an) ∧ w'.cell? ⟨b0, 3, none⟩ = some (.int .i64 rs) ∧ w'.cell? ⟨b0, 4, none⟩ = some (.int .i64 kd) ∧ w'.cell? ⟨b0, 5, none⟩ = some (.slice a la ca) ∧ w'.cell? ⟨b1, 0, none⟩ = some (.int .i64 tx) ∧ w'.cell? ⟨b1, 1, none⟩ = some (.int .i64 sq) ∧ w'.cell? ⟨b1, 2, none⟩ = some (.int .i64 an) ∧ w'.cell? ⟨b1, 3, none⟩ = some (.int .i64 rs) ∧ w'.cell? ⟨b1, 4, none⟩ = some (.int .i64 kd) ∧ w'.cell? ⟨b1, 5, none⟩ = some (.slice b lb cb))
    (first | exact ⟨below_cell B6 (below_cell B5 k0), below_cell B6 (below_cell B5 k1), below_cell B6 (below_cell B5 k2), below_cell B6 (below_cell B5 k3), below_cell B6 (below_cell B5 k4), below_cell B6 (below_cell B5 k5), below_cell B6 (below_cell B5 m0), below_cell B6 (below_cell B5 m1), below_cell B6 (below_cell B5 m2), below_cell B6 (below_cell B5 m3), below_cell B6 (below_cell B5 m4), below_cell B6 (below_cell B5 m5)⟩ | exact ⟨below_cell B5 k0, below_cell B5 k1, below_cell B5 k2, below_cell B5 k3, below_cell B5 k4, below_cell B5 k5, below_cell B5 m0, below_cell B5 m1, below_cell B5 m2, below_cell B5 m3, below_cell B5 m4, below_cell B5 m5⟩ | go_keep)
    ((first
      | (go_at_call 28; have _ := B5; refine (fieldsOf_any tx sq an rs kd b lb cb _).mono ?_; rintro e w6 ⟨rfl, B6⟩)
      | (go_at_call 28; refine (fieldsOf_any tx sq an rs kd a la ca _).mono ?_; rintro e w5 ⟨rfl, B5⟩)
      | (go_at_call 29; refine (HE.out w6 (RR.out w5 w6 B5 B6).1 (RR.out w5 w6 B5 B6).2.1).mono ?_; rintro e w7 ⟨rfl, rfl⟩)))
  all_goals
    have D6 : Below w.heap.size w w6 := (RR.out w5 w6 B5 B6).2.2
    clear B5 B6 k0 k1 k2 k3 k4 k5 m0 m1 m2 m3 m4 m5 RR
    go_wp2
    go_ret
    exact ⟨rfl, D6⟩

theorem fsame_any (tx sq an rs kd tx' sq' an' rs' kd' : Int) (a b : Option Addr) (ca cb : Nat) (ds es : List Nat) (hd : ∀ x ∈ ds, x < 256) (he : ∀ x ∈ es, x < 256) (w : World) (ha : Reads w a ds) (hb : Reads w b es) :
    Calls Tryd.prog 15 #[Fr tx sq an rs kd a ds.length ca, Fr tx' sq' an' rs' kd' b es.length cb] w fun e w' => e = .returned (.bool (sameFrm tx sq an rs kd ds tx' sq' an' rs' kd' es)) ∧ Below w.heap.size w w' := by
  by_cases h : tx = tx' ∧ sq = sq' ∧ an = an' ∧ rs = rs' ∧ kd = kd' ∧ (ds.length : Int) = (es.length : Int)
  · obtain ⟨rfl, rfl, rfl, rfl, rfl, hl⟩ := h
    have e : sameFrm tx sq an rs kd ds tx sq an rs kd es = decide (ds = es) := by simp [sameFrm]
    rw [e]
    exact same_yes tx sq an rs kd a b ca cb _ _ ds es rfl rfl (by omega) hd he w ha hb
  · have e : sameFrm tx sq an rs kd ds tx' sq' an' rs' kd' es = false := by
      unfold sameFrm
      rw [decide_eq_false_iff_not]
      rintro ⟨h1, h2, h3, h4, h5, h6⟩
      exact h ⟨h1, h2, h3, h4, h5, by rw [h6]⟩
    rw [e]
    exact same_no tx sq an rs kd tx' sq' an' rs' kd' a b ca cb _ _ w (by rw [decide_eq_false_iff_not]; exact h)

end Go.Proofs.YtaieohnppeapfaaDoor
