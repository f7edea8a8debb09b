/- Package edf: which of two that wait comes ahead; Less, Swap, Len of a line. -/
import Derived.Test.YtgcpkploeobafaaEdK1
import Derived.BigRegion
namespace Go.Proofs.Ytgcpkploeobafaa
open Go.RowKit
open Bt

theorem three_new (W : World) (x y z : Int) (t : TypeId) : (W.alloc (.cells #[.int .i64 x, .int .i64 y, .int .i64 z] t)).cell? ⟨W.heap.size, 0, none⟩ = some (.int .i64 x) ∧ (W.alloc (.cells #[.int .i64 x, .int .i64 y, .int .i64 z] t)).cell? ⟨W.heap.size, 1, none⟩ = some (.int .i64 y) ∧ (W.alloc (.cells #[.int .i64 x, .int .i64 y, .int .i64 z] t)).cell? ⟨W.heap.size, 2, none⟩ = some (.int .i64 z) :=
  ⟨by rw [cell_of_row _ _ 0 _ _ _ (heap_alloc_new W _)]; rfl, by rw [cell_of_row _ _ 1 _ _ _ (heap_alloc_new W _)]; rfl, by rw [cell_of_row _ _ 2 _ _ _ (heap_alloc_new W _)]; rfl⟩

theorem alloc_alloc_new (w : World) (a b : Obj) : ((w.alloc a).alloc b).heap[w.heap.size + 1]? = some b := by
  have h := heap_alloc_new (w.alloc a) b
  rw [World.size_alloc] at h
  exact h

set_option maxRecDepth 100000 in
set_option maxHeartbeats 4000000 in
theorem eahead_in (a0 a1 a2 a3 a4 a5 a6 b0 b1 b2 b3 b4 b5 b6 : Int) (na nb : Nat) (w : World) :
    Calls Try.prog 57 #[Wv ⟨⟨a0, a1, a2, a3, a4, a5, a6⟩, na⟩, Wv ⟨⟨b0, b1, b2, b3, b4, b5, b6⟩, nb⟩] w fun e w' => e = .returned (.bool (ltI ⟨⟨a0, a1, a2, a3, a4, a5, a6⟩, na⟩ ⟨⟨b0, b1, b2, b3, b4, b5, b6⟩, nb⟩)) ∧ Below w.heap.size w w' := by
  have BA := ((Below.refl _ w).alloc (Nat.le_refl _) (.cells #[.int .i64 a0, .int .i64 a1, .int .i64 a2, .int .i64 a3, .int .i64 a4, .int .i64 a5, .int .i64 a6, .int .i64 (na : Int)] 56)).alloc (by simp) (.cells #[.int .i64 b0, .int .i64 b1, .int .i64 b2, .int .i64 b3, .int .i64 b4, .int .i64 b5, .int .i64 b6, .int .i64 (nb : Int)] 56)
  have HB := Hid.intro BA
  have hn1 : ((w.alloc (.cells #[.int .i64 a0, .int .i64 a1, .int .i64 a2, .int .i64 a3, .int .i64 a4, .int .i64 a5, .int .i64 a6, .int .i64 (na : Int)] 56)).alloc (.cells #[.int .i64 b0, .int .i64 b1, .int .i64 b2, .int .i64 b3, .int .i64 b4, .int .i64 b5, .int .i64 b6, .int .i64 (nb : Int)] 56)).heap[w.heap.size]? = some (.cells #[.int .i64 a0, .int .i64 a1, .int .i64 a2, .int .i64 a3, .int .i64 a4, .int .i64 a5, .int .i64 a6, .int .i64 (na : Int)] 56) := (Below.heap_alloc _ _ _ (by simp)).trans (heap_alloc_new w _)
  have hn2 : ((w.alloc (.cells #[.int .i64 a0, .int .i64 a1, .int .i64 a2, .int .i64 a3, .int .i64 a4, .int .i64 a5, .int .i64 a6, .int .i64 (na : Int)] 56)).alloc (.cells #[.int .i64 b0, .int .i64 b1, .int .i64 b2, .int .i64 b3, .int .i64 b4, .int .i64 b5, .int .i64 b6, .int .i64 (nb : Int)] 56)).heap[w.heap.size + 1]? = some (.cells #[.int .i64 b0, .int .i64 b1, .int .i64 b2, .int .i64 b3, .int .i64 b4, .int .i64 b5, .int .i64 b6, .int .i64 (nb : Int)] 56) := alloc_alloc_new w _ _
  have C1 := Hid.intro (fun W => ecmp_any a5 b5 W)
  have C2 := Hid.intro (fun W => ecmp_any a0 b0 W)
  have C3 := Hid.intro (fun W => ecmp_any (na : Int) (nb : Int) W)
  rw [ltI_or]
  simp only
  generalize cmpI a5 b5 = x at *
  generalize cmpI a0 b0 = y at *
  generalize cmpI (na : Int) (nb : Int) = z at *
  have EO := Hid.intro (fun (W : World) => eor_any W.heap.size x y z (W.alloc (.cells #[.int .i64 x, .int .i64 y, .int .i64 z] 3)).drew (three_new W x y z _).1 (three_new W x y z _).2.1 (three_new W x y z _).2.2)
  generalize orI x y z = r at *
  clear BA
  go_enter Try.func57, Try.ntmps57
  go_wp2_with fail
  generalize ((w.alloc (.cells #[.int .i64 a0, .int .i64 a1, .int .i64 a2, .int .i64 a3, .int .i64 a4, .int .i64 a5, .int .i64 a6, .int .i64 (na : Int)] 56)).alloc (.cells #[.int .i64 b0, .int .i64 b1, .int .i64 b2, .int .i64 b3, .int .i64 b4, .int .i64 b5, .int .i64 b6, .int .i64 (nb : Int)] 56)) = wa at *
  have c1 : wa.cell? ⟨w.heap.size, 5, none⟩ = some (.int .i64 a5) := by rw [cell_of_row _ _ 5 _ _ _ hn1]; rfl
  have c2 : wa.cell? ⟨w.heap.size, 0, none⟩ = some (.int .i64 a0) := by rw [cell_of_row _ _ 0 _ _ _ hn1]; rfl
  have c3 : wa.cell? ⟨w.heap.size, 7, none⟩ = some (.int .i64 (na : Int)) := by rw [cell_of_row _ _ 7 _ _ _ hn1]; rfl
  have d1 : wa.cell? ⟨w.heap.size + 1, 5, none⟩ = some (.int .i64 b5) := by rw [cell_of_row _ _ 5 _ _ _ hn2]; rfl
  have d2 : wa.cell? ⟨w.heap.size + 1, 0, none⟩ = some (.int .i64 b0) := by rw [cell_of_row _ _ 0 _ _ _ hn2]; rfl
  have d3 : wa.cell? ⟨w.heap.size + 1, 7, none⟩ = some (.int .i64 (nb : Int)) := by rw [cell_of_row _ _ 7 _ _ _ hn2]; rfl
  clear hn1 hn2
  generalize w.heap.size + 1 = bb at *
  obtain ⟨ba, hba⟩ : ∃ ba, ba = w.heap.size := ⟨_, rfl⟩
  rw [← hba] at c1 c2 c3 ⊢
  have HBA := Hid.intro hba
  clear hba
  go_region_held3 (fun W => W.cell? ⟨ba, 5, none⟩ = some (.int .i64 a5) ∧ W.cell? ⟨ba, 0, none⟩ = some (.int .i64 a0) ∧ W.cell? ⟨ba, 7, none⟩ = some (.int .i64 (na : Int)) ∧ W.cell? ⟨bb, 5, none⟩ = some (.int .i64 b5) ∧ W.cell? ⟨bb, 0, none⟩ = some (.int .i64 b0) ∧ W.cell? ⟨bb, 7, none⟩ = some (.int .i64 (nb : Int)))
    (go_keep)
    (first
      | (go_at_call 58; refine (EO.out _).mono ?_; rintro e w1 ⟨rfl, rfl⟩)
      | (go_at_call 59; have _ := M2; refine (C3.out _).mono ?_; rintro e w1 ⟨rfl, rfl⟩)
      | (go_at_call 59; have _ := M1; refine (C2.out _).mono ?_; rintro e w1 ⟨rfl, rfl⟩; have M2 : True := trivial)
      | (go_at_call 59; refine (C1.out _).mono ?_; rintro e w1 ⟨rfl, rfl⟩; have M1 : True := trivial)
      | fail)
  all_goals
    go_wp2
    go_ret
    exact ⟨rfl, (HB.out.alloc HB.out.size _).drew⟩

theorem eahead_any (a b : It) (w : World) :
    Calls Try.prog 57 #[Wv a, Wv b] w fun e w' => e = .returned (.bool (ltI a b)) ∧ Below w.heap.size w w' := eahead_in a.job.bed a.job.kind a.job.tick a.job.value a.job.since a.job.dl a.job.left b.job.bed b.job.kind b.job.tick b.job.value b.job.since b.job.dl b.job.left a.num b.num w

theorem own_drewW {w : World} {v : Value} {n : Nat} {xs : List Value} (h : w.ownsRow 0 56 8 v n xs) : w.drew.ownsRow 0 56 8 v n xs := ownsRow_keep h (fun _ _ => rfl)

theorem elen_any (ao : Option Addr) (n c : Nat) (w : World) :
    Calls Try.prog 54 #[.slice ao n c] w fun e w' => e = .returned (.int .i64 (n : Int)) ∧ w = w' := by
  go_enter Try.func54, Try.ntmps54
  go_wp2
  go_ret
  exact ⟨rfl, rfl⟩

set_option maxRecDepth 100000 in
set_option maxHeartbeats 4000000 in
theorem eless_in (g L c i j : Nat) (hi : i < L) (hj : j < L) (a0 a1 a2 a3 a4 a5 a6 b0 b1 b2 b3 b4 b5 b6 : Int) (na nb : Nat) (w : World) (ha : WtAt w g (i * 8) ⟨⟨a0, a1, a2, a3, a4, a5, a6⟩, na⟩) (hb : WtAt w g (j * 8) ⟨⟨b0, b1, b2, b3, b4, b5, b6⟩, nb⟩) :
    Calls Try.prog 55 #[.slice (some ⟨g, 0, none⟩) L c, .int .i64 (i : Int), .int .i64 (j : Int)] w fun e w' => e = .returned (.bool (ltI ⟨⟨a0, a1, a2, a3, a4, a5, a6⟩, na⟩ ⟨⟨b0, b1, b2, b3, b4, b5, b6⟩, nb⟩)) ∧ Below w.heap.size w w' := by
  have CA := Hid.intro (fun (W : World) => eahead_any ⟨⟨a0, a1, a2, a3, a4, a5, a6⟩, na⟩ ⟨⟨b0, b1, b2, b3, b4, b5, b6⟩, nb⟩ W)
  generalize ltI ⟨⟨a0, a1, a2, a3, a4, a5, a6⟩, na⟩ ⟨⟨b0, b1, b2, b3, b4, b5, b6⟩, nb⟩ = r at *
  have HA := Hid.intro ha
  have HBB := Hid.intro hb
  obtain ⟨c0, c1, c2, c3, c4, c5, c6, c7⟩ := ha
  obtain ⟨d0, d1, d2, d3, d4, d5, d6, d7⟩ := hb
  simp only at c0 c1 c2 c3 c4 c5 c6 c7 d0 d1 d2 d3 d4 d5 d6 d7
  have KK : Hid (∀ W : World, Below w.heap.size w W → W.cell? ⟨g, i * 8, none⟩ = some (.int .i64 a0) ∧ W.cell? ⟨g, i * 8 + 1, none⟩ = some (.int .i64 a1) ∧ W.cell? ⟨g, i * 8 + 2, none⟩ = some (.int .i64 a2) ∧ W.cell? ⟨g, i * 8 + 3, none⟩ = some (.int .i64 a3) ∧ W.cell? ⟨g, i * 8 + 4, none⟩ = some (.int .i64 a4) ∧ W.cell? ⟨g, i * 8 + 5, none⟩ = some (.int .i64 a5) ∧ W.cell? ⟨g, i * 8 + 6, none⟩ = some (.int .i64 a6) ∧ W.cell? ⟨g, i * 8 + 7, none⟩ = some (.int .i64 (na : Int)) ∧ W.cell? ⟨g, j * 8, none⟩ = some (.int .i64 b0) ∧ W.cell? ⟨g, j * 8 + 1, none⟩ = some (.int .i64 b1) ∧ W.cell? ⟨g, j * 8 + 2, none⟩ = some (.int .i64 b2) ∧ W.cell? ⟨g, j * 8 + 3, none⟩ = some (.int .i64 b3) ∧ W.cell? ⟨g, j * 8 + 4, none⟩ = some (.int .i64 b4) ∧ W.cell? ⟨g, j * 8 + 5, none⟩ = some (.int .i64 b5) ∧ W.cell? ⟨g, j * 8 + 6, none⟩ = some (.int .i64 b6) ∧ W.cell? ⟨g, j * 8 + 7, none⟩ = some (.int .i64 (nb : Int))) := fun W hW => by
    obtain ⟨p0, p1, p2, p3, p4, p5, p6, p7⟩ := HA.out.chg (below_chg hW) id
    obtain ⟨q0, q1, q2, q3, q4, q5, q6, q7⟩ := HBB.out.chg (below_chg hW) id
    exact ⟨p0, p1, p2, p3, p4, p5, p6, p7, q0, q1, q2, q3, q4, q5, q6, q7⟩
  have i0 : (0 : Int) ≤ (i : Int) := by omega
  have i1 : (i : Int) < (L : Int) := by omega
  have j0 : (0 : Int) ≤ (j : Int) := by omega
  have j1 : (j : Int) < (L : Int) := by omega
  have HB := Hid.intro (Below.refl w.heap.size w).drew
  clear HA HBB
  go_enter Try.func55, Try.ntmps55
  go_wp2_with fail
  go_region_held3 (fun W => W.cell? ⟨g, i * 8, none⟩ = some (.int .i64 a0) ∧ W.cell? ⟨g, i * 8 + 1, none⟩ = some (.int .i64 a1) ∧ W.cell? ⟨g, i * 8 + 2, none⟩ = some (.int .i64 a2) ∧ W.cell? ⟨g, i * 8 + 3, none⟩ = some (.int .i64 a3) ∧ W.cell? ⟨g, i * 8 + 4, none⟩ = some (.int .i64 a4) ∧ W.cell? ⟨g, i * 8 + 5, none⟩ = some (.int .i64 a5) ∧ W.cell? ⟨g, i * 8 + 6, none⟩ = some (.int .i64 a6) ∧ W.cell? ⟨g, i * 8 + 7, none⟩ = some (.int .i64 (na : Int)) ∧ W.cell? ⟨g, j * 8, none⟩ = some (.int .i64 b0) ∧ W.cell? ⟨g, j * 8 + 1, none⟩ = some (.int .i64 b1) ∧ W.cell? ⟨g, j * 8 + 2, none⟩ = some (.int .i64 b2) ∧ W.cell? ⟨g, j * 8 + 3, none⟩ = some (.int .i64 b3) ∧ W.cell? ⟨g, j * 8 + 4, none⟩ = some (.int .i64 b4) ∧ W.cell? ⟨g, j * 8 + 5, none⟩ = some (.int .i64 b5) ∧ W.cell? ⟨g, j * 8 + 6, none⟩ = some (.int .i64 b6) ∧ W.cell? ⟨g, j * 8 + 7, none⟩ = some (.int .i64 (nb : Int)))
    (first | exact KK.out _ FB.out | go_keep)
    (first
      | (go_at_call 57; refine (CA.out _).mono ?_; rintro e w1 ⟨rfl, B1⟩; have FB := Hid.intro (HB.out.trans B1))
      | fail)
  all_goals
    go_wp2
    go_ret
    exact ⟨rfl, FB.out⟩

theorem eless_any (g c i j : Nat) (l : List It) (hi : i < l.length) (hj : j < l.length) (w : World) (h : w.ownsRow 0 56 8 (.slice (some ⟨g, 0, none⟩) l.length c) l.length (wcells l)) :
    Calls Try.prog 55 #[.slice (some ⟨g, 0, none⟩) l.length c, .int .i64 (i : Int), .int .i64 (j : Int)] w fun e w' => e = .returned (.bool (ltI l[i] l[j])) ∧ Below w.heap.size w w' :=
  eless_in g l.length c i j hi hj _ _ _ _ _ _ _ _ _ _ _ _ _ _ _ _ w (wt_of_owns h hi) (wt_of_owns h hj)

set_option maxRecDepth 100000 in
set_option maxHeartbeats 4000000 in
theorem eswap_ne (g L c i j : Nat) (hi : i < L) (hj : j < L) (hij : ¬ i = j) (a0 a1 a2 a3 a4 a5 a6 b0 b1 b2 b3 b4 b5 b6 : Int) (na nb : Nat) (w : World) (ha : WtAt w g (i * 8) ⟨⟨a0, a1, a2, a3, a4, a5, a6⟩, na⟩) (hb : WtAt w g (j * 8) ⟨⟨b0, b1, b2, b3, b4, b5, b6⟩, nb⟩) (F : ∀ o, w.frozen? ⟨g, o, none⟩ = false) :
    Calls Try.prog 56 #[.slice (some ⟨g, 0, none⟩) L c, .int .i64 (i : Int), .int .i64 (j : Int)] w fun e w' => e = .returned (.tuple #[]) ∧ w' = (setC (setC w g (i * 8) ⟨⟨b0, b1, b2, b3, b4, b5, b6⟩, nb⟩) g (j * 8) ⟨⟨a0, a1, a2, a3, a4, a5, a6⟩, na⟩).drew := by
  obtain ⟨c0, c1, c2, c3, c4, c5, c6, c7⟩ := ha
  obtain ⟨d0, d1, d2, d3, d4, d5, d6, d7⟩ := hb
  simp only at c0 c1 c2 c3 c4 c5 c6 c7 d0 d1 d2 d3 d4 d5 d6 d7
  have i0 : (0 : Int) ≤ (i : Int) := by omega
  have i1 : (i : Int) < (L : Int) := by omega
  have j0 : (0 : Int) ≤ (j : Int) := by omega
  have j1 : (j : Int) < (L : Int) := by omega
  have hji : ¬ j = i := fun q => hij q.symm
  go_enter Try.func56, Try.ntmps56
  go_wp2_with fail
  go_big_region
  all_goals
    go_end0
    exact ⟨rfl, rfl⟩

set_option maxRecDepth 100000 in
set_option maxHeartbeats 4000000 in
theorem eswap_eq (g L c i : Nat) (hi : i < L) (a0 a1 a2 a3 a4 a5 a6 : Int) (na : Nat) (w : World) (ha : WtAt w g (i * 8) ⟨⟨a0, a1, a2, a3, a4, a5, a6⟩, na⟩) (F : ∀ o, w.frozen? ⟨g, o, none⟩ = false) :
    Calls Try.prog 56 #[.slice (some ⟨g, 0, none⟩) L c, .int .i64 (i : Int), .int .i64 (i : Int)] w fun e w' => e = .returned (.tuple #[]) ∧ w' = (setC (setC w g (i * 8) ⟨⟨a0, a1, a2, a3, a4, a5, a6⟩, na⟩) g (i * 8) ⟨⟨a0, a1, a2, a3, a4, a5, a6⟩, na⟩).drew := by
  obtain ⟨c0, c1, c2, c3, c4, c5, c6, c7⟩ := ha
  simp only at c0 c1 c2 c3 c4 c5 c6 c7
  have i0 : (0 : Int) ≤ (i : Int) := by omega
  have i1 : (i : Int) < (L : Int) := by omega
  go_enter Try.func56, Try.ntmps56
  go_wp2_with fail
  go_big_region
  all_goals
    go_end0
    exact ⟨rfl, rfl⟩

theorem eswap_any (g c i j : Nat) (l : List It) (hi : i < l.length) (hj : j < l.length) (w : World) (h : w.ownsRow 0 56 8 (.slice (some ⟨g, 0, none⟩) l.length c) l.length (wcells l)) :
    Calls Try.prog 56 #[.slice (some ⟨g, 0, none⟩) l.length c, .int .i64 (i : Int), .int .i64 (j : Int)] w fun e w' => e = .returned (.tuple #[]) ∧ w'.ownsRow 0 56 8 (.slice (some ⟨g, 0, none⟩) l.length c) l.length (wcells ((l.set i l[j]).set j l[i])) ∧ Chg (fun k => k = g) w w' := by
  by_cases hij : i = j
  · subst hij
    refine (eswap_eq g l.length c i hi _ _ _ _ _ _ _ _ w (wt_of_owns h hi) (fun o => h.frozenAt o)).mono ?_
    rintro e w' ⟨rfl, rfl⟩
    exact ⟨rfl, own_drewW (owns_setC (owns_setC h _) _), ((chg_setC w g _ _).trans (chg_setC _ g _ _) (fun _ q _ => q)).drew⟩
  · refine (eswap_ne g l.length c i j hi hj hij _ _ _ _ _ _ _ _ _ _ _ _ _ _ _ _ w (wt_of_owns h hi) (wt_of_owns h hj) (fun o => h.frozenAt o)).mono ?_
    rintro e w' ⟨rfl, rfl⟩
    exact ⟨rfl, own_drewW (owns_setC (owns_setC h _) _), ((chg_setC w g _ _).trans (chg_setC _ g _ _) (fun _ q _ => q)).drew⟩

end Go.Proofs.Ytgcpkploeobafaa
