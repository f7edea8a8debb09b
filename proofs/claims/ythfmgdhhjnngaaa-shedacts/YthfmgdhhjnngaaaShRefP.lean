/- The document's own answer of layer 13: put, cut. -/
import Derived.Test.YthfmgdhhjnngaaaIntApp
import Derived.Test.YthfmgdhhjnngaaaShPure
import Derived.Deep.RegionLaw
namespace Go.Proofs.Ythfmgdhhjnngaaa
open Go.RowKit
open Bt

/-- A list of numbers in new memory. -/
def NewI (w w' : World) (v : Value) (l : List Int) : Prop := w'.ownsRow 0 3 1 v l.length (l.map Nv) ∧ Below w.heap.size w w' ∧ ∀ k, v.ownBlock = some k → w.heap.size ≤ k

theorem ins_takeI (l : List Int) (s : Int) : ∀ i, i ≤ l.length → l.insertIdx i s = l.take i ++ [s] ++ l.drop i := by
  induction l with
  | nil => intro i hi; obtain rfl : i = 0 := by (simpa using hi)
           rfl
  | cons a l ih =>
    intro i hi
    cases i with
    | zero => rfl
    | succ i => simp [List.insertIdx_succ_cons, ih i (by simpa using hi)]

theorem newI_of {w wc : World} {L : Nat} {l : List Int} {vc : Value} (h : AppGI w.heap.size w L l wc vc) (hl : L = l.length) : NewI w wc vc l := ⟨by rw [← hl]; exact h.own, h.below, h.ge⟩

set_option maxRecDepth 100000 in
set_option maxHeartbeats 4000000 in
theorem refPut_some (g N c p : Nat) (l : List Int) (n : Int) (hN : N ≤ 100) (hp : p ≤ N) (hc : ¬ c = p) (w : World) (own : w.ownsRow 0 3 1 (.slice (some ⟨g, 0, none⟩) N c) N (l.map Nv)) :
    Calls Try.prog 31 #[.slice (some ⟨g, 0, none⟩) N c, .int .i64 (p : Int), .int .i64 n] w fun e w' => ∃ v, e = .returned v ∧ NewI w w' v (l.insertIdx p n) := by
  have hl : l.length = N := by have := own.1; simpa using this
  have hNc : N ≤ c ∧ c ≤ 9223372036854775807 := by
    rcases own.2 with ⟨hv, h0⟩ | ⟨g', cap, cur, hv, _, _, hc, hm, _⟩
    · cases hv
    · cases hv; unfold maxLen at hm; omega
  have SR1 := Hid.intro (fun W (hW : Below w.heap.size w W) => (show NumsAt (fun _ => True) W (.slice (some ⟨g, 0, none⟩) p c) (l.take p) from by
    have q := nums_part (ownsRow_keep own (fun k hk => hW.block k (World.ownsRow.lt own k hk).2)) 0 p c (by omega) ⟨g, 0, none⟩ (fun _ => rfl)
    rw [List.drop_zero] at q
    exact q))
  have SR2 := Hid.intro (fun W (hW : Below w.heap.size w W) => (show NumsAt (fun _ => True) W (.slice (some ⟨g, p, none⟩) (N - p) (c - p)) (l.drop p) from by
    have q := nums_part (ownsRow_keep own (fun k hk => hW.block k (World.ownsRow.lt own k hk).2)) p (N - p) (c - p) (by omega) ⟨g, p, none⟩ (fun _ => rfl)
    rw [List.take_of_length_le (by rw [List.length_drop]; omega)] at q
    exact q))
  have LTK : Hid (p = (l.take p).length) := by show p = _; rw [List.length_take]; omega
  have LDR : Hid (N - p = (l.drop p).length) := by show _ = _; rw [List.length_drop]; omega
  have HN1 : Hid ((some (⟨g, 0, none⟩ : Addr)) = none → c = 0) := fun h => by cases h
  have HN2 : Hid ((some (⟨g, p, none⟩ : Addr)) = none → c - p = 0) := fun h => by cases h
  have EQ : Hid (l.insertIdx p n = l.take p ++ [n] ++ l.drop p) := ins_takeI l n p (by omega)
  have LEN : Hid (p + 1 + (N - p) = (l.take p ++ [n] ++ l.drop p).length) := by show _ = _; simp; omega
  have BD := Hid.intro ((Below.refl w.heap.size w).drew)
  have p0 : (0 : Int) ≤ (p : Int) := by omega
  have p1 : (p : Int) ≤ (N : Int) := by omega
  have p2 : (p : Int) ≤ (c : Int) := by omega
  have mixed : Try.prog.follows Departure.mixedOrders = true := by kernel_rfl
  obtain ⟨hNc1, hNc2⟩ := hNc
  rw [EQ.out]
  clear own hl
  go_enter Try.func31, Try.ntmps31
  go_wp2_with fail
  go_region_law (first
      | (have _ := QG; refine step_append_nums (by rfl) _ _ (by rfl) vb (p + 1) ((l.take p) ++ [n]) (by rfl) QG.own (fun _ => True) (some ⟨g, p, none⟩) (N - p) (c - p) (l.drop p) LDR.out (by rfl) (SR2.out _ QG.below) HN2.out (by omega) ?_; intro vc wc hown hgrow hat; have QH := appGI QG.ge QG.below (Nat.le_refl _) hown hgrow hat; clear hown hgrow hat QG)
      | (have _ := QF; refine step_append_nums (by rfl) _ _ (by rfl) va p (l.take p) (by rfl) (QF.own.alloc _) (fun _ => True) (some ⟨wa.heap.size, 0, none⟩) 1 1 [n] rfl (by rfl) (nums_cell (alloc_atI rfl) 1) (fun h => by cases h) (by omega) ?_; intro vb wb hown hgrow hat; have QG := appGI QF.ge (bel_allocI QF.below (Nat.le_refl _) _) (Nat.le_refl _) hown hgrow hat; clear hown hgrow hat QF)
      | (have _ := QF; refine step_append_nums (by rfl) _ _ (by rfl) va p (l.take p) (by rfl) QF.own (fun _ => True) (some ⟨w.heap.size + 1, 0, none⟩) 1 1 [n] rfl (by rfl) (nums_cell (QF.keep _ _ (by first | exact alloc_atI (by simp) | exact alloc_farI (alloc_atI (by simp))) (by simp)) 1) (fun h => by cases h) (by omega) ?_; intro vb wb hown hgrow hat; have QG := appGI QF.ge QF.below (Nat.le_refl _) hown hgrow hat; clear hown hgrow hat QF)
      | (have _ := QF; refine step_append_nums (by rfl) _ _ (by rfl) va p (l.take p) (by rfl) QF.own (fun _ => True) (some ⟨w.heap.size, 0, none⟩) 1 1 [n] rfl (by rfl) (nums_cell (QF.keep _ _ (by first | exact alloc_atI (by simp) | exact alloc_farI (alloc_atI (by simp))) (by simp)) 1) (fun h => by cases h) (by omega) ?_; intro vb wb hown hgrow hat; have QG := appGI QF.ge QF.below (Nat.le_refl _) hown hgrow hat; clear hown hgrow hat QF)
      | (refine step_append_nums (by rfl) _ _ (by rfl) _ 0 [] (by rfl) (own_emptyI (by first | exact alloc_atI (by simp) | exact alloc_farI (alloc_atI (by simp)))) (fun _ => True) (some ⟨g, 0, none⟩) p c (l.take p) LTK.out (by rfl) (SR1.out _ (by first | exact BD.out | exact bel_allocI BD.out (Nat.le_refl _) _ | exact bel_allocI (bel_allocI BD.out (Nat.le_refl _) _) (Nat.le_refl _) _)) HN1.out (by omega) ?_; intro va wa hown hgrow hat; have QF := appFI (H := w.heap.size) (w0 := w) (by first | exact alloc_atI (by simp) | exact alloc_farI (alloc_atI (by simp))) (by first | (dsimp only; omega) | (simp; done)) (by first | exact BD.out | exact bel_allocI BD.out (Nat.le_refl _) _ | exact bel_allocI (bel_allocI BD.out (Nat.le_refl _) _) (Nat.le_refl _) _) (Nat.le_refl _) hown hgrow hat; clear hown hgrow hat)
      | fail)
  all_goals
    obtain ⟨va', vcap, hvc, _⟩ := ownsRow_form QH.own
    subst hvc
    have FI := Hid.intro (newI_of QH LEN.out)
    clear QH SR1 SR2
    go_wp2
    go_ret
    exact ⟨_, rfl, FI.out⟩

set_option maxRecDepth 100000 in
set_option maxHeartbeats 4000000 in
theorem refPut_full (g p : Nat) (l : List Int) (n : Int) (hN : p ≤ 100) (w : World) (own : w.ownsRow 0 3 1 (.slice (some ⟨g, 0, none⟩) p p) p (l.map Nv)) :
    Calls Try.prog 31 #[.slice (some ⟨g, 0, none⟩) p p, .int .i64 (p : Int), .int .i64 n] w fun e w' => ∃ v, e = .returned v ∧ NewI w w' v (l.insertIdx p n) := by
  have hl : l.length = p := by have := own.1; simpa using this
  have SR1 := Hid.intro (fun W (hW : Below w.heap.size w W) => (show NumsAt (fun _ => True) W (.slice (some ⟨g, 0, none⟩) p p) l from by
    have q := nums_part (ownsRow_keep own (fun k hk => hW.block k (World.ownsRow.lt own k hk).2)) 0 p p (by omega) ⟨g, 0, none⟩ (fun _ => rfl)
    rw [List.drop_zero, List.take_of_length_le (by omega)] at q
    exact q))
  have SR2 := Hid.intro (fun W (hW : Below w.heap.size w W) => (show NumsAt (fun _ => True) W (.slice (some ⟨g, 0, none⟩) 0 0) [] from by
    have q := nums_part (ownsRow_keep own (fun k hk => hW.block k (World.ownsRow.lt own k hk).2)) 0 0 0 (by omega) ⟨g, 0, none⟩ (fun _ => rfl)
    rw [List.take_zero] at q
    exact q))
  have LTK : Hid (p = l.length) := hl.symm
  have HN1 : Hid ((some (⟨g, 0, none⟩ : Addr)) = none → p = 0) := fun h => by cases h
  have EQ : Hid (l.insertIdx p n = l ++ [n] ++ []) := by
    have q := ins_takeI l n p (by omega)
    rw [List.take_of_length_le (by omega), List.drop_eq_nil_of_le (by omega)] at q
    exact q
  have LEN : Hid (p + 1 + 0 = (l ++ [n] ++ []).length) := by show _ = _; simp; omega
  have BD := Hid.intro ((Below.refl w.heap.size w).drew)
  have p0 : (0 : Int) ≤ (p : Int) := by omega
  have mixed : Try.prog.follows Departure.mixedOrders = true := by kernel_rfl
  rw [EQ.out]
  clear own hl
  go_enter Try.func31, Try.ntmps31
  go_wp2_with fail
  go_region_law (first
      | (have _ := QG; refine step_append_nums (by rfl) _ _ (by rfl) vb (p + 1) (l ++ [n]) (by rfl) QG.own (fun _ => True) (some ⟨g, 0, none⟩) 0 0 [] rfl (by rfl) (SR2.out _ QG.below) (fun h => by cases h) (by omega) ?_; intro vc wc hown hgrow hat; have QH := appGI QG.ge QG.below (Nat.le_refl _) hown hgrow hat; clear hown hgrow hat QG)
      | (have _ := QF; refine step_append_nums (by rfl) _ _ (by rfl) va p l (by rfl) (QF.own.alloc _) (fun _ => True) (some ⟨wa.heap.size, 0, none⟩) 1 1 [n] rfl (by rfl) (nums_cell (alloc_atI rfl) 1) (fun h => by cases h) (by omega) ?_; intro vb wb hown hgrow hat; have QG := appGI QF.ge (bel_allocI QF.below (Nat.le_refl _) _) (Nat.le_refl _) hown hgrow hat; clear hown hgrow hat QF)
      | (have _ := QF; refine step_append_nums (by rfl) _ _ (by rfl) va p l (by rfl) QF.own (fun _ => True) (some ⟨w.heap.size + 1, 0, none⟩) 1 1 [n] rfl (by rfl) (nums_cell (QF.keep _ _ (by first | exact alloc_atI (by simp) | exact alloc_farI (alloc_atI (by simp))) (by simp)) 1) (fun h => by cases h) (by omega) ?_; intro vb wb hown hgrow hat; have QG := appGI QF.ge QF.below (Nat.le_refl _) hown hgrow hat; clear hown hgrow hat QF)
      | (have _ := QF; refine step_append_nums (by rfl) _ _ (by rfl) va p l (by rfl) QF.own (fun _ => True) (some ⟨w.heap.size, 0, none⟩) 1 1 [n] rfl (by rfl) (nums_cell (QF.keep _ _ (by first | exact alloc_atI (by simp) | exact alloc_farI (alloc_atI (by simp))) (by simp)) 1) (fun h => by cases h) (by omega) ?_; intro vb wb hown hgrow hat; have QG := appGI QF.ge QF.below (Nat.le_refl _) hown hgrow hat; clear hown hgrow hat QF)
      | (refine step_append_nums (by rfl) _ _ (by rfl) _ 0 [] (by rfl) (own_emptyI (by first | exact alloc_atI (by simp) | exact alloc_farI (alloc_atI (by simp)))) (fun _ => True) (some ⟨g, 0, none⟩) p p l LTK.out (by rfl) (SR1.out _ (by first | exact BD.out | exact bel_allocI BD.out (Nat.le_refl _) _ | exact bel_allocI (bel_allocI BD.out (Nat.le_refl _) _) (Nat.le_refl _) _)) HN1.out (by omega) ?_; intro va wa hown hgrow hat; have QF := appFI (H := w.heap.size) (w0 := w) (by first | exact alloc_atI (by simp) | exact alloc_farI (alloc_atI (by simp))) (by first | (dsimp only; omega) | (simp; done)) (by first | exact BD.out | exact bel_allocI BD.out (Nat.le_refl _) _ | exact bel_allocI (bel_allocI BD.out (Nat.le_refl _) _) (Nat.le_refl _) _) (Nat.le_refl _) hown hgrow hat; clear hown hgrow hat)
      | fail)
  all_goals
    obtain ⟨va', vcap, hvc, _⟩ := ownsRow_form QH.own
    subst hvc
    have FI := Hid.intro (newI_of QH LEN.out)
    clear QH SR1 SR2
    go_wp2
    go_ret
    exact ⟨_, rfl, FI.out⟩

set_option maxRecDepth 100000 in
set_option maxHeartbeats 4000000 in
theorem refPut_nil (n : Int) (w : World) :
    Calls Try.prog 31 #[.slice none 0 0, .int .i64 0, .int .i64 n] w fun e w' => ∃ v, e = .returned v ∧ NewI w w' v [n] := by
  have SR1 := Hid.intro (fun W (_ : Below w.heap.size w W) => nums_nilI W)
  have SR2 := Hid.intro (fun W (_ : Below w.heap.size w W) => nums_nilI W)
  have BD := Hid.intro ((Below.refl w.heap.size w).drew)
  have mixed : Try.prog.follows Departure.mixedOrders = true := by kernel_rfl
  show Calls Try.prog 31 #[.slice none 0 0, .int .i64 0, .int .i64 n] w fun e w' => ∃ v, e = .returned v ∧ NewI w w' v ([] ++ [n] ++ [])
  go_enter Try.func31, Try.ntmps31
  go_wp2_with fail
  go_region_law (first
      | (have _ := QG; refine step_append_nums (by rfl) _ _ (by rfl) vb (0 + 1) ([] ++ [n]) (by rfl) QG.own (fun _ => True) none 0 0 [] rfl (by rfl) (SR2.out _ QG.below) (fun _ => rfl) (by omega) ?_; intro vc wc hown hgrow hat; have QH := appGI QG.ge QG.below (Nat.le_refl _) hown hgrow hat; clear hown hgrow hat QG)
      | (have _ := QF; refine step_append_nums (by rfl) _ _ (by rfl) va 0 [] (by rfl) (QF.own.alloc _) (fun _ => True) (some ⟨wa.heap.size, 0, none⟩) 1 1 [n] rfl (by rfl) (nums_cell (alloc_atI rfl) 1) (fun h => by cases h) (by omega) ?_; intro vb wb hown hgrow hat; have QG := appGI QF.ge (bel_allocI QF.below (Nat.le_refl _) _) (Nat.le_refl _) hown hgrow hat; clear hown hgrow hat QF)
      | (have _ := QF; refine step_append_nums (by rfl) _ _ (by rfl) va 0 [] (by rfl) QF.own (fun _ => True) (some ⟨w.heap.size + 1, 0, none⟩) 1 1 [n] rfl (by rfl) (nums_cell (QF.keep _ _ (by first | exact alloc_atI (by simp) | exact alloc_farI (alloc_atI (by simp))) (by simp)) 1) (fun h => by cases h) (by omega) ?_; intro vb wb hown hgrow hat; have QG := appGI QF.ge QF.below (Nat.le_refl _) hown hgrow hat; clear hown hgrow hat QF)
      | (have _ := QF; refine step_append_nums (by rfl) _ _ (by rfl) va 0 [] (by rfl) QF.own (fun _ => True) (some ⟨w.heap.size, 0, none⟩) 1 1 [n] rfl (by rfl) (nums_cell (QF.keep _ _ (by first | exact alloc_atI (by simp) | exact alloc_farI (alloc_atI (by simp))) (by simp)) 1) (fun h => by cases h) (by omega) ?_; intro vb wb hown hgrow hat; have QG := appGI QF.ge QF.below (Nat.le_refl _) hown hgrow hat; clear hown hgrow hat QF)
      | (refine step_append_nums (by rfl) _ _ (by rfl) _ 0 [] (by rfl) (own_emptyI (by first | exact alloc_atI (by simp) | exact alloc_farI (alloc_atI (by simp)))) (fun _ => True) none 0 0 [] rfl (by rfl) (SR1.out _ (by first | exact BD.out | exact bel_allocI BD.out (Nat.le_refl _) _ | exact bel_allocI (bel_allocI BD.out (Nat.le_refl _) _) (Nat.le_refl _) _)) (fun _ => rfl) (by omega) ?_; intro va wa hown hgrow hat; have QF := appFI (H := w.heap.size) (w0 := w) (by first | exact alloc_atI (by simp) | exact alloc_farI (alloc_atI (by simp))) (by first | (dsimp only; omega) | (simp; done)) (by first | exact BD.out | exact bel_allocI BD.out (Nat.le_refl _) _ | exact bel_allocI (bel_allocI BD.out (Nat.le_refl _) _) (Nat.le_refl _) _) (Nat.le_refl _) hown hgrow hat; clear hown hgrow hat)
      | fail)
  all_goals
    obtain ⟨va', vcap, hvc, _⟩ := ownsRow_form QH.own
    subst hvc
    have FI := Hid.intro (newI_of QH rfl)
    clear QH SR1 SR2
    go_wp2
    go_ret
    exact ⟨_, rfl, FI.out⟩

theorem refPut_any (v : Value) (l : List Int) (hN : l.length ≤ 100) (p : Nat) (hp : p ≤ l.length) (n : Int) (w : World) (own : w.ownsRow 0 3 1 v l.length (l.map Nv)) :
    Calls Try.prog 31 #[v, .int .i64 (p : Int), .int .i64 n] w fun e w' => ∃ v', e = .returned v' ∧ NewI w w' v' (l.insertIdx p n) := by
  rcases own.2 with ⟨rfl, h0⟩ | ⟨g, c, cur, rfl, _, _, hnc, _⟩
  · obtain rfl : l = [] := List.eq_nil_of_length_eq_zero h0
    obtain rfl : p = 0 := by simpa using hp
    exact refPut_nil n w
  · by_cases e : c = p
    · have e2 : l.length = p := by omega
      subst e
      rw [e2] at own ⊢
      exact refPut_full g c l n (by omega) w own
    · exact refPut_some g l.length c p l n hN hp e w own

set_option maxRecDepth 100000 in
set_option maxHeartbeats 4000000 in
theorem refCut_some (g N c p : Nat) (l : List Int) (hN : N ≤ 100) (hp : p < N) (hc : ¬ c = p + 1) (w : World) (own : w.ownsRow 0 3 1 (.slice (some ⟨g, 0, none⟩) N c) N (l.map Nv)) :
    Calls Try.prog 32 #[.slice (some ⟨g, 0, none⟩) N c, .int .i64 (p : Int)] w fun e w' => ∃ v, e = .returned v ∧ NewI w w' v (l.eraseIdx p) := by
  have hl : l.length = N := by have := own.1; simpa using this
  have hNc : N ≤ c ∧ c ≤ 9223372036854775807 := by
    rcases own.2 with ⟨hv, h0⟩ | ⟨g', cap, cur, hv, _, _, hc, hm, _⟩
    · cases hv
    · cases hv; unfold maxLen at hm; omega
  have SR1 := Hid.intro (fun W (hW : Below w.heap.size w W) => (show NumsAt (fun _ => True) W (.slice (some ⟨g, 0, none⟩) p (c)) (l.take p) from by
    have q := nums_part (ownsRow_keep own (fun k hk => hW.block k (World.ownsRow.lt own k hk).2)) 0 p (c) (by omega) ⟨g, 0, none⟩ (fun _ => rfl)
    rw [List.drop_zero] at q
    exact q))
  have SR2 := Hid.intro (fun W (hW : Below w.heap.size w W) => (show NumsAt (fun _ => True) W (.slice (some ⟨g, p + 1, none⟩) (N - (p + 1)) (c - (p + 1))) (l.drop (p + 1)) from by
    have q := nums_part (ownsRow_keep own (fun k hk => hW.block k (World.ownsRow.lt own k hk).2)) (p + 1) (N - (p + 1)) (c - (p + 1)) (by omega) ⟨g, p + 1, none⟩ (fun _ => rfl)
    rw [List.take_of_length_le (by rw [List.length_drop]; omega)] at q
    exact q))
  have LTK : Hid (p = (l.take p).length) := by show p = _; rw [List.length_take]; omega
  have LDR : Hid ((N - (p + 1)) = (l.drop (p + 1)).length) := by show _ = _; rw [List.length_drop]; omega
  have HN1 : Hid ((some (⟨g, 0, none⟩ : Addr)) = none → c = 0) := fun h => by cases h
  have EQ : Hid (l.eraseIdx p = l.take p ++ l.drop (p + 1)) := List.eraseIdx_eq_take_drop_succ l p
  have LEN : Hid (p + (N - (p + 1)) = (l.take p ++ l.drop (p + 1)).length) := by show _ = _; rw [List.length_append, List.length_take, List.length_drop]; omega
  have BD := Hid.intro ((Below.refl w.heap.size w).drew)
  have p0 : (0 : Int) ≤ (p : Int) := by omega
  have p1 : (p : Int) + 1 ≤ ((N : Nat) : Int) := by omega
  have p2 : (p : Int) ≤ ((c : Nat) : Int) := by omega
  have p3 : (0 : Int) ≤ (p : Int) + 1 := by omega
  have p4 : (p : Int) ≤ (p : Int) + 1 := by omega
  have pw : IntKind.i64.wrap ((p : Int) + 1) = (p : Int) + 1 := by rw [IntKind.wrap_i64]; omega
  have pt : ((p : Int) + 1).toNat = p + 1 := by omega
  have mixed : Try.prog.follows Departure.mixedOrders = true := by kernel_rfl
  obtain ⟨hNc1, hNc2⟩ := hNc
  rw [EQ.out]
  clear own hl
  go_enter Try.func32, Try.ntmps32
  go_wp2_with fail
  go_region_law (first
      | (have _ := QF; refine step_append_nums (by rfl) _ _ (by rfl) va p (l.take p) (by rfl) QF.own (fun _ => True) (some (⟨g, p + 1, none⟩ : Addr)) (N - (p + 1)) (c - (p + 1)) (l.drop (p + 1)) LDR.out (by rfl) (SR2.out _ QF.below) (fun h => by cases h) (by omega) ?_; intro vc wc hown hgrow hat; have QH := appGI QF.ge QF.below (Nat.le_refl _) hown hgrow hat; clear hown hgrow hat QF)
      | (refine step_append_nums (by rfl) _ _ (by rfl) _ 0 [] (by rfl) (own_emptyI (by first | exact alloc_atI (by simp) | exact alloc_farI (alloc_atI (by simp)))) (fun _ => True) (some ⟨g, 0, none⟩) p (c) (l.take p) LTK.out (by rfl) (SR1.out _ (by first | exact BD.out | exact bel_allocI BD.out (Nat.le_refl _) _ | exact bel_allocI (bel_allocI BD.out (Nat.le_refl _) _) (Nat.le_refl _) _)) HN1.out (by omega) ?_; intro va wa hown hgrow hat; have QF := appFI (H := w.heap.size) (w0 := w) (by first | exact alloc_atI (by simp) | exact alloc_farI (alloc_atI (by simp))) (by first | (dsimp only; omega) | (simp; done)) (by first | exact BD.out | exact bel_allocI BD.out (Nat.le_refl _) _ | exact bel_allocI (bel_allocI BD.out (Nat.le_refl _) _) (Nat.le_refl _) _) (Nat.le_refl _) hown hgrow hat; clear hown hgrow hat)
      | fail)
  all_goals
    obtain ⟨va', vcap, hvc, _⟩ := ownsRow_form QH.own
    subst hvc
    have FI := Hid.intro (newI_of QH LEN.out)
    clear QH SR1 SR2
    go_wp2
    go_ret
    exact ⟨_, rfl, FI.out⟩

set_option maxRecDepth 100000 in
set_option maxHeartbeats 4000000 in
theorem refCut_full (g p : Nat) (l : List Int) (hN : p + 1 ≤ 100) (w : World) (own : w.ownsRow 0 3 1 (.slice (some ⟨g, 0, none⟩) (p + 1) (p + 1)) (p + 1) (l.map Nv)) :
    Calls Try.prog 32 #[.slice (some ⟨g, 0, none⟩) (p + 1) (p + 1), .int .i64 (p : Int)] w fun e w' => ∃ v, e = .returned v ∧ NewI w w' v (l.eraseIdx p) := by
  have hl : l.length = (p + 1) := by have := own.1; simpa using this
  have hNc : (p + 1) ≤ (p + 1) ∧ (p + 1) ≤ 9223372036854775807 := by
    rcases own.2 with ⟨hv, h0⟩ | ⟨g', cap, cur, hv, _, _, hc, hm, _⟩
    · cases hv
    · cases hv; unfold maxLen at hm; omega
  have SR1 := Hid.intro (fun W (hW : Below w.heap.size w W) => (show NumsAt (fun _ => True) W (.slice (some ⟨g, 0, none⟩) p ((p + 1))) (l.take p) from by
    have q := nums_part (ownsRow_keep own (fun k hk => hW.block k (World.ownsRow.lt own k hk).2)) 0 p ((p + 1)) (by omega) ⟨g, 0, none⟩ (fun _ => rfl)
    rw [List.drop_zero] at q
    exact q))
  have SR2 := Hid.intro (fun W (hW : Below w.heap.size w W) => (show NumsAt (fun _ => True) W (.slice (some ⟨g, 0, none⟩) 0 0) (l.drop (p + 1)) from by
    have q := nums_part (ownsRow_keep own (fun k hk => hW.block k (World.ownsRow.lt own k hk).2)) 0 0 0 (by omega) ⟨g, 0, none⟩ (fun _ => rfl)
    rw [List.take_zero] at q
    rw [List.drop_eq_nil_of_le (by omega)]
    exact q))
  have LTK : Hid (p = (l.take p).length) := by show p = _; rw [List.length_take]; omega
  have LDR : Hid (0 = (l.drop (p + 1)).length) := by show _ = _; rw [List.length_drop]; omega
  have HN1 : Hid ((some (⟨g, 0, none⟩ : Addr)) = none → (p + 1) = 0) := fun h => by cases h
  have EQ : Hid (l.eraseIdx p = l.take p ++ l.drop (p + 1)) := List.eraseIdx_eq_take_drop_succ l p
  have LEN : Hid (p + 0 = (l.take p ++ l.drop (p + 1)).length) := by show _ = _; rw [List.length_append, List.length_take, List.length_drop]; omega
  have BD := Hid.intro ((Below.refl w.heap.size w).drew)
  have p0 : (0 : Int) ≤ (p : Int) := by omega
  have p1 : (p : Int) + 1 ≤ (((p + 1) : Nat) : Int) := by omega
  have p2 : (p : Int) ≤ (((p + 1) : Nat) : Int) := by omega
  have p3 : (0 : Int) ≤ (p : Int) + 1 := by omega
  have p4 : (p : Int) ≤ (p : Int) + 1 := by omega
  have pw : IntKind.i64.wrap ((p : Int) + 1) = (p : Int) + 1 := by rw [IntKind.wrap_i64]; omega
  have pt : ((p : Int) + 1).toNat = p + 1 := by omega
  have mixed : Try.prog.follows Departure.mixedOrders = true := by kernel_rfl
  obtain ⟨hNc1, hNc2⟩ := hNc
  rw [EQ.out]
  clear own hl
  go_enter Try.func32, Try.ntmps32
  go_wp2_with fail
  go_region_law (first
      | (have _ := QF; refine step_append_nums (by rfl) _ _ (by rfl) va p (l.take p) (by rfl) QF.own (fun _ => True) (some (⟨g, 0, none⟩ : Addr)) 0 0 (l.drop (p + 1)) LDR.out (by rfl) (SR2.out _ QF.below) (fun h => by cases h) (by omega) ?_; intro vc wc hown hgrow hat; have QH := appGI QF.ge QF.below (Nat.le_refl _) hown hgrow hat; clear hown hgrow hat QF)
      | (refine step_append_nums (by rfl) _ _ (by rfl) _ 0 [] (by rfl) (own_emptyI (by first | exact alloc_atI (by simp) | exact alloc_farI (alloc_atI (by simp)))) (fun _ => True) (some ⟨g, 0, none⟩) p ((p + 1)) (l.take p) LTK.out (by rfl) (SR1.out _ (by first | exact BD.out | exact bel_allocI BD.out (Nat.le_refl _) _ | exact bel_allocI (bel_allocI BD.out (Nat.le_refl _) _) (Nat.le_refl _) _)) HN1.out (by omega) ?_; intro va wa hown hgrow hat; have QF := appFI (H := w.heap.size) (w0 := w) (by first | exact alloc_atI (by simp) | exact alloc_farI (alloc_atI (by simp))) (by first | (dsimp only; omega) | (simp; done)) (by first | exact BD.out | exact bel_allocI BD.out (Nat.le_refl _) _ | exact bel_allocI (bel_allocI BD.out (Nat.le_refl _) _) (Nat.le_refl _) _) (Nat.le_refl _) hown hgrow hat; clear hown hgrow hat)
      | fail)
  all_goals
    obtain ⟨va', vcap, hvc, _⟩ := ownsRow_form QH.own
    subst hvc
    have FI := Hid.intro (newI_of QH LEN.out)
    clear QH SR1 SR2
    go_wp2
    go_ret
    exact ⟨_, rfl, FI.out⟩

theorem refCut_any (v : Value) (l : List Int) (hN : l.length ≤ 100) (p : Nat) (hp : p < l.length) (w : World) (own : w.ownsRow 0 3 1 v l.length (l.map Nv)) :
    Calls Try.prog 32 #[v, .int .i64 (p : Int)] w fun e w' => ∃ v', e = .returned v' ∧ NewI w w' v' (l.eraseIdx p) := by
  rcases own.2 with ⟨rfl, h0⟩ | ⟨g, c, cur, rfl, _, _, hnc, _⟩
  · omega
  · by_cases e : c = p + 1
    · have e2 : l.length = p + 1 := by omega
      subst e
      rw [e2] at own ⊢
      exact refCut_full g p l (by omega) w own
    · exact refCut_some g l.length c p l hN hp e w own

end Go.Proofs.Ythfmgdhhjnngaaa
