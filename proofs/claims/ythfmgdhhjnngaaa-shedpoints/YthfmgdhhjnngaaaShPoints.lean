/- The statement ShedPoints: of points one behind the other all are looked at at Full, each second one at Half, each fourth at Quarter, none at Off. -/
import Derived.Test.YthfmgdhhjnngaaaShAlive
import Derived.Test.YthfmgdhhjnngaaaShRng
import Derived.Test.YthfmgdhhjnngaaaEqInts
import Derived.Test.YthfmgdhhjnngaaaArgs
namespace Go.Proofs.Ythfmgdhhjnngaaa
open Go.ChangeShapes Go.WideShapes Go.ChangeAt Go.RowKit
open Bt

namespace LShedPoints

/-- How many of the first points are looked at, at a level. -/
def cntS (j p : Nat) : Nat := if j = 0 then p else if j = 1 then (p + 1) / 2 else if j = 2 then (p + 3) / 4 else 0

theorem cnt_next (j p : Nat) (hj : j < 4) : cntS j (p + 1) = cntS j p + (if lookS (j : Int) (p : Int) = true then 1 else 0) := by
  unfold cntS lookS
  have : j = 0 ∨ j = 1 ∨ j = 2 ∨ j = 3 := by omega
  rcases this with e | e | e | e <;> subst e <;> simp <;> (try split) <;> omega

def HadAt (w : World) (hb : Nat) (f : Nat → Nat) : Prop := ∀ j, j < 4 → w.cell? ⟨hb, j, none⟩ = some (.int .i64 (f j : Int)) ∧ w.frozen? ⟨hb, j, none⟩ = false

theorem eq4 (a0 a1 a2 a3 b0 b1 b2 b3 : Int) (w : World) :
    (Op.equalIn 10000 47 (.agg #[.int .i64 a0, .int .i64 a1, .int .i64 a2, .int .i64 a3]) (.agg #[.int .i64 b0, .int .i64 b1, .int .i64 b2, .int .i64 b3])).run Try.prog w
      = .ok (decide (a0 = b0 ∧ a1 = b1 ∧ a2 = b2 ∧ a3 = b3)) w := by
  have h := run_equalIn_ints (P := Try.prog) w 9998 47 3 4 Try.underlying47 Try.underlying3 (fun _ => by kernel_rfl) [a0, a1, a2, a3] [b0, b1, b2, b3] rfl rfl
  have e : ((List.range 4).all fun i => [a0, a1, a2, a3].getD i 0 == [b0, b1, b2, b3].getD i 0) = decide (a0 = b0 ∧ a1 = b1 ∧ a2 = b2 ∧ a3 = b3) := by
    rw [Bool.eq_iff_iff, decide_eq_true_eq, show List.range 4 = [0, 1, 2, 3] from rfl]
    simp [List.getD]
  rw [e] at h
  exact h

theorem HadAt.set {w : World} {hb : Nat} {f : Nat → Nat} (h : HadAt w hb f) {v : Nat} (hv : v < 4) (n : Nat) : HadAt (w.setCell ⟨hb, v, none⟩ (.int .i64 (n : Int))) hb (fun j => if j = v then n else f j) := by
  intro j hj
  refine ⟨?_, by rw [World.frozen?_setCell]; exact (h j hj).2⟩
  by_cases e : j = v
  · subst e
    rw [World.cell?_setCell_same' _ _ _ (by rw [(h j hj).1]; rfl)]
    simp
  · rw [World.cell?_setCell_other _ _ _ _ (fun q => e (by cases q; rfl)), (h j hj).1]
    simp [e]

set_option maxRecDepth 100000 in
set_option maxHeartbeats 2000000 in
theorem walk_nat (N : Nat) (hN : N < 256) (w : World) :
    Calls Try.prog 8 #[.int .u8 (N : Int)] w fun e w' => e = .returned (.bool true) ∧ Below w.heap.size w w' := by
  have AL := Hid.intro (alive13_any w)
  go_enter Try.func8, Try.ntmps8
  go_wp2_with fail
  refine AL.out.mono ?_
  rintro e w1 ⟨rfl, B1⟩
  have hs := B1.size
  have nb := heap_alloc_new w1 (.cells #[.int .i64 0, .int .i64 0, .int .i64 0, .int .i64 0] 47)
  have BA : Hid (Below w.heap.size w (w1.alloc (.cells #[.int .i64 0, .int .i64 0, .int .i64 0, .int .i64 0] 47))) := B1.alloc hs _
  have H0 : Hid (HadAt (w1.alloc (.cells #[.int .i64 0, .int .i64 0, .int .i64 0, .int .i64 0] 47)) w1.heap.size (fun j => cntS j 0)) := fun j hj => by
    refine ⟨?_, frozen_of_row _ _ _ _ _ nb⟩
    rw [cell_of_row _ _ j _ _ _ nb]
    have : j = 0 ∨ j = 1 ∨ j = 2 ∨ j = 3 := by omega
    rcases this with e | e | e | e <;> subst e <;> rfl
  clear AL B1 nb
  go_wp2_with fail
  generalize w1.alloc (.cells #[.int .i64 0, .int .i64 0, .int .i64 0, .int .i64 0] 47) = w2 at *
  generalize w1.heap.size = hb at *
  obtain ⟨K, hK⟩ : ∃ K, K = 4 * N := ⟨_, rfl⟩
  have hK2 : 4 * (N : Int) = (K : Int) := by omega
  (try rw [hK2])
  have K4 : Hid (K = 4 * N) := hK
  have hKb : K ≤ 1024 := by omega
  clear hK hK2
  go_loopw [5] (fun iv ws => ∃ t : Nat, t ≤ K ∧ iv = .int .i64 t ∧ HadAt ws hb (fun j => cntS j t) ∧ Below w.heap.size w ws) (fun iv _ => K - (intOf iv).toNat)
  case atStart => exact ⟨0, by omega, rfl, H0.out, BA.out⟩
  case round =>
    clear H0 BA
    obtain ⟨t, ht, rfl, hH, hB⟩ := hrel
    have HH := Hid.intro hH
    have BH := Hid.intro hB
    clear hH hB
    by_cases hlt : t < K
    · have t1 : (t : Int) < (K : Int) := by omega
      go_wp2_with fail
      generalize wr = wx at *
      go_loopw [6] (fun iv ws => ∃ v : Nat, v ≤ 4 ∧ iv = .int .i64 v ∧ HadAt ws hb (fun j => if j < v then cntS j (t + 1) else cntS j t) ∧ Below w.heap.size w ws) (fun iv _ => 4 - (intOf iv).toNat)
      case atStart => exact ⟨0, by omega, rfl, fun j hj => by simpa using HH.out j hj, BH.out⟩
      case round =>
        clear HH BH
        obtain ⟨v, hv, rfl, hH, hB⟩ := hrel
        by_cases hvl : v < 4
        · have v1 : (v : Int) < 4 := by omega
          have v0 : (0 : Int) ≤ (v : Int) := by omega
          have LK := Hid.intro (hlooked_any (v : Int) (t : Int) (by omega) wr)
          have cn := cnt_next v t hvl
          have SAME : Hid (lookS (v : Int) (t : Int) = false → ∀ W, Below wr.heap.size wr W → HadAt W hb (fun j => if j < v + 1 then cntS j (t + 1) else cntS j t)) := fun e W hW j hj => by
            rw [e] at cn
            have q := hH j hj
            have q' : W.cell? ⟨hb, j, none⟩ = some (.int .i64 ((if j < v then cntS j (t + 1) else cntS j t : Nat) : Int)) ∧ W.frozen? ⟨hb, j, none⟩ = false :=
              ⟨cell_chg (below_chg hW) q.1 id, (World.frozen?_of_block (hW.block hb (cell_lt q.1))).trans q.2⟩
            by_cases ej : j = v
            · subst ej
              simp at q' cn ⊢
              rw [cn]
              exact q'
            · have e2 : (j < v + 1) = (j < v) := by rw [eq_iff_iff]; omega
              simp only [e2]
              exact q'
          have MORE : Hid (lookS (v : Int) (t : Int) = true → ∀ W, Below wr.heap.size wr W → HadAt (W.setCell ⟨hb, v, none⟩ (.int .i64 ((cntS v t : Int) + 1))) hb (fun j => if j < v + 1 then cntS j (t + 1) else cntS j t)) := fun e W hW => by
            rw [e] at cn
            have hW' : HadAt W hb (fun j => if j < v then cntS j (t + 1) else cntS j t) := fun j hj => by
              have q := hH j hj
              exact ⟨cell_chg (below_chg hW) q.1 id, (World.frozen?_of_block (hW.block hb (cell_lt q.1))).trans q.2⟩
            have q := hW'.set hvl (cntS v t + 1)
            intro j hj
            have q' := q j hj
            by_cases ej : j = v
            · subst ej
              simp at q' cn ⊢
              rw [cn]
              exact q'
            · have e2 : (j < v + 1) = (j < v) := by rw [eq_iff_iff]; omega
              simp only [e2, ej, if_false] at q' ⊢
              exact q'
          have hc := hH v hvl
          simp only [Nat.lt_irrefl, if_false] at hc
          obtain ⟨c0, f0⟩ := hc
          have cb : cntS v t ≤ 2000 := by unfold cntS; split <;> (try split) <;> (try split) <;> omega
          have hbs := cell_lt c0
          have hbw : Hid (w.heap.size ≤ hb) := by assumption
          have BH := Hid.intro hB
          generalize lookS (v : Int) (t : Int) = r at *
          generalize cntS v t = cv at *
          clear hH hB cn
          go_wp2_with fail
          refine LK.out.mono ?_
          rintro e w3 ⟨rfl, B3⟩
          have d0 : w3.cell? ⟨hb, v, none⟩ = some (.int .i64 (cv : Int)) := cell_chg (below_chg B3) c0 id
          have d1 : w3.frozen? ⟨hb, v, none⟩ = false := (World.frozen?_of_block (B3.block hb hbs)).trans f0
          have B3H := Hid.intro (BH.out.trans (B3.mono BH.out.size))
          cases r with
          | true =>
            have M := Hid.intro (MORE.out rfl w3 B3)
            have B4 := Hid.intro (B3H.out.setCell (p := ⟨hb, v, none⟩) hbw.out (.int .i64 ((cv : Int) + 1)))
            clear SAME MORE LK B3 BH c0 f0
            go_wp2
            go_roundw
            case rel => exact ⟨v + 1, by omega, by go_num, M.out, B4.out⟩
            case measure => simp [intOf]; omega
          | false =>
            have M := Hid.intro (SAME.out rfl w3 B3)
            clear SAME MORE LK B3 BH c0 f0
            go_wp2
            go_roundw
            case rel => exact ⟨v + 1, by omega, by go_num, M.out, B3H.out⟩
            case measure => simp [intOf]; omega
        · obtain rfl : v = 4 := by omega
          have HN : Hid (HadAt wr hb (fun j => cntS j (t + 1))) := fun j hj => by
            have q := hH j hj
            simp only [hj, if_true] at q
            exact q
          have BH := Hid.intro hB
          clear hH hB
          go_wp2
          go_roundw
          case rel => exact ⟨t + 1, by omega, by go_num, HN.out, BH.out⟩
          case measure => simp [intOf]; omega
    · obtain rfl : t = K := by omega
      have t1 : ¬ (t : Int) < (t : Int) := by omega
      have g0 : wr.cell? ⟨hb, 0, none⟩ = some (.int .i64 (cntS 0 t : Int)) := (HH.out 0 (by omega)).1
      have g1 : wr.cell? ⟨hb, 1, none⟩ = some (.int .i64 (cntS 1 t : Int)) := (HH.out 1 (by omega)).1
      have g2 : wr.cell? ⟨hb, 2, none⟩ = some (.int .i64 (cntS 2 t : Int)) := (HH.out 2 (by omega)).1
      have g3 : wr.cell? ⟨hb, 3, none⟩ = some (.int .i64 (cntS 3 t : Int)) := (HH.out 3 (by omega)).1
      have E4 := eq4 (cntS 0 t) (cntS 1 t) (cntS 2 t) (cntS 3 t) (t : Int) ((t : Int) / 2) ((t : Int) / 4) 0
      have ee : decide ((cntS 0 t : Int) = (t : Int) ∧ (cntS 1 t : Int) = (t : Int) / 2 ∧ (cntS 2 t : Int) = (t : Int) / 4 ∧ (cntS 3 t : Int) = 0) = true := by
        have := K4.out
        simp [cntS]
        omega
      rw [ee] at E4
      clear ee HH
      generalize cntS 0 t = y0 at *
      generalize cntS 1 t = y1 at *
      generalize cntS 2 t = y2 at *
      generalize cntS 3 t = y3 at *
      go_wp2
      go_ret
      exact ⟨rfl, BH.out⟩

theorem walk (n : Int) (w : World) (hn : (Lit.int .u8 n).wf = true) :
    Calls Try.prog 8 #[.int .u8 n] w fun e w' => e = .returned (.bool true) ∧ Below w.heap.size w w' := by
  obtain ⟨N, rfl, hN⟩ := u8_natS hn
  exact walk_nat N hN w

set_option maxRecDepth 100000 in
theorem lifted (os : Os) (started : os.Started) (H : Type) (enc : TypeId × Value → H) :
    ReturnsInHanded {} Try.checked os 8 .any (Rows.shedPointsSpec.pre6 enc Try.prog Try.f8 Rows.shedPointsRow.domain false) (Rows.shedPointsSpec.post enc Try.prog Try.f8 false true false false) := by
  refine returnsInHanded_of_change (C := Try.checked) own started (by kernel_rfl) Try.func8
    (ChangeSpec.witness6 (enc := enc) (C := Try.checked) false ⟨#[], #[.int .u8 0], []⟩ 8 (by kernel_rfl) (by kernel_rfl) (by kernel_rfl) (by kernel_rfl)) ?_
  intro W base args ds gs before hval0 hW hcnd _
  have hval : ∀ (j : Nat) t v, Try.f8.params[j]? = some t → args[j]? = some v → Value.okWide Try.prog W .any base t v := hval0
  have hW' := hW
  obtain ⟨p, q, hA0, hV, rfl, hfz, hnd⟩ := hW
  have hA : DataW.TrodAll enc Try.prog W 0 (fun _ => true) true Try.f8.params.toList args.toList ds p := hA0
  rw [Try.params8] at hA hval
  obtain ⟨v0, vs0, d0, ds0, p0, q0, hargs, rfl, rfl, h0, r0⟩ := trodAll_cons hA
  obtain ⟨rfl, rfl, rfl⟩ := trodAll_nil r0
  obtain rfl : args = #[v0] := by cases args; simp_all
  obtain ⟨rfl, rfl⟩ := trodVars_none hV
  obtain ⟨a0, rfl, rfl, rfl, w0⟩ := open_int Try.underlying5 (hval 0 5 v0 rfl rfl) h0
  clear hA0 hval0
  refine (walk a0 W w0).mono fun e W' ⟨he, bel⟩ => ?_
  subst he
  exact ⟨_, rfl, _, _, _, [], _, [], hW', trodAll_mk1 (shut_bool Try.underlying4 _), (trodAll_cons_mk (shut_int Try.underlying5 w0) trodAll_mk0), rfl, bel.frame _, fun h => by cases h⟩

theorem over : Rows.shedPointsRow.holds Try.pinned (OpenSpec.ofChange Rows.shedPointsSpec) :=
  OpenClaim.holds_of_wide 8 Try.f8 rfl rfl rfl rfl rfl rfl rfl ⟨rfl, rfl, rfl, rfl, rfl⟩ rfl rfl rfl rfl rfl (by kernel_rfl) Try.func8 (by kernel_rfl)
    (of_decide_eq_true (by kernel_rfl)) (by unfold Func.isWrapper; first | (rw [if_pos (by decide +kernel)]; kernel_rfl) | (rw [if_neg (by decide +kernel)]; exact ⟨rfl, rfl⟩))
    (fun os started H enc _ => lifted os started H enc)

end Go.Proofs.Ythfmgdhhjnngaaa.LShedPoints

namespace Go.Proofs.Ythfmgdhhjnngaaa
theorem shedPoints_holds : Rows.ShedPointsSaid := LShedPoints.over
#print axioms shedPoints_holds
end Go.Proofs.Ythfmgdhhjnngaaa
