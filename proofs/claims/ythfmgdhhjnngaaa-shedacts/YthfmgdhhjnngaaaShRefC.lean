/- The document's own controller of layer 13: Add, Remove. -/
import Derived.Test.YthfmgdhhjnngaaaShRefA
namespace Go.Proofs.Ythfmgdhhjnngaaa
open Go.RowKit
open Bt

variable {S T : Nat → Prop} {w w' w1 : World} {b : Nat} {x : Ctl}

theorem LeftRC.same (h : RCt S w b x) : LeftRC S w w b x := ⟨S, h, Chg.refl _ _, fun _ => .inl⟩

theorem atS_of {l : List Sd} {p : Int} {t : Nat} (ht : t ≤ l.length) (hb : ∀ j, (hj : j < l.length) → j < t → p ≤ l[j].prio) (he : t = l.length ∨ ∃ h : t < l.length, l[t].prio < p) : atS p l = t := by
  unfold atS
  have hle : t ≤ l.findIdx (lessS p) := by
    rcases Nat.lt_or_ge (l.findIdx (lessS p)) t with q | q
    · exfalso
      have hi : l.findIdx (lessS p) < l.length := by omega
      have h1 : lessS p (l[l.findIdx (lessS p)]'hi) = true := List.findIdx_getElem
      have h2 := hb _ hi q
      simp [lessS] at h1
      omega
    · exact q
  rcases he with e | ⟨h, e⟩
  · have := List.findIdx_le_length (p := lessS p) (xs := l)
    omega
  · rcases Nat.lt_or_ge t (l.findIdx (lessS p)) with q | q
    · have := List.not_of_lt_findIdx q
      simp [lessS] at this
      omega
    · omega

/-- All three lists are other ones. -/
theorem three {lb lp ll lb' lp' ll' : List Int} {wt cl : Int} {vb vp vl v1 v2 v3 : Value} {w2 w3 : World} (h : RH S w b wt cl vb vp vl lb lp ll) (n1 : NewI w w1 v1 lb') (n2 : NewI (w1.setCell ⟨b, 2, none⟩ v1) w2 v2 lp') (n3 : NewI (w2.setCell ⟨b, 3, none⟩ v2) w3 v3 ll') :
    ∃ S', RH S' (w3.setCell ⟨b, 4, none⟩ v3) b wt cl v1 v2 v3 lb' lp' ll' ∧ Chg S w (w3.setCell ⟨b, 4, none⟩ v3) ∧ ∀ k, S' k → S k ∨ w.heap.size ≤ k := by
  obtain ⟨h1, k1⟩ := h.setB n1
  obtain ⟨h2, k2⟩ := h1.setP n2
  obtain ⟨h3, k3⟩ := h2.setL n3
  have z1 := k1.size
  have z2 := k2.size
  refine ⟨_, h3, (k1.trans k2 (fun k hk hl => ?_)).trans k3 (fun k hk hl => ?_), fun k hk => ?_⟩
  · rcases hk with q | q
    · exact q
    · omega
  · rcases hk with (q | q) | q
    · exact q
    · omega
    · omega
  · rcases hk with (((q | q) | q) | q)
    · exact .inl q
    · exact .inr q.1
    · exact .inr (by omega)
    · exact .inr (by omega)

set_option maxRecDepth 100000 in
set_option maxHeartbeats 2000000 in
theorem refRemove13_any (b : Nat) (bed : Int) (S : Nat → Prop) (x : Ctl) (w : World) (h : RCt S w b x) :
    Calls Try.prog 18 #[.pointer (some ⟨b, 0, none⟩), .int .i64 bed] w fun e w' => e = .returned (.int .i64 (remE x bed)) ∧ LeftRC S w w' b (remC x bed) := by
  have FI := Hid.intro (refFind13_any b bed S x w h)
  have HC := Hid.intro h
  obtain ⟨⟨vb, vp, vl, h⟩, ok⟩ := h
  have hf := ok.few
  rcases posS_all (isBedS bed) x.beds with ⟨e1, e2, e3⟩ | ⟨i, hi, e1, e4, e2, e3, e5⟩
  · have q1 : remE x bed = 8 := by unfold remE; rw [e2]; rfl
    have q2 : remC x bed = x := by unfold remC; rw [e3, List.eraseIdx_of_length_le (Nat.le_refl _)]
    rw [q1, q2]
    rw [e1] at FI
    clear h e1 e2 e3 q1 q2
    go_enter Try.func18, Try.ntmps18
    go_wp2_with fail
    refine FI.out.mono ?_
    rintro e w2 ⟨rfl, rfl⟩
    go_wp2
    go_ret
    exact ⟨rfl, LeftRC.same HC.out⟩
  · have q1 : remE x bed = 0 := by unfold remE; rw [e2]; rfl
    have q2 : remC x bed = { x with beds := x.beds.eraseIdx i } := by unfold remC; rw [e3]
    have okR := ok_rem ok bed
    rw [q2] at okR
    rw [q1, q2]
    rw [e1] at FI
    have l1 : (lbS x).length = x.beds.length := by simp [lbS]
    have l2 : (lpS x).length = x.beds.length := by simp [lpS]
    have l3 : (llS x).length = x.beds.length := by simp [llS]
    obtain ⟨_, _, c2, _, _, fz⟩ := h.cells
    have f2 := fz 2
    have C1 := Hid.intro (refCut_any vb (lbS x) (by omega) i (by omega) w h.ob)
    have HH := Hid.intro h
    have STEP2 := Hid.intro (fun (w1 : World) (v1 : Value) (n1 : NewI w w1 v1 ((lbS x).eraseIdx i)) => (show w1.cell? ⟨b, 2, none⟩ = some vb ∧ w1.frozen? ⟨b, 2, none⟩ = false ∧ (w1.setCell ⟨b, 2, none⟩ v1).cell? ⟨b, 3, none⟩ = some vp ∧ (∃ ao c, v1 = .slice ao ((lbS x).eraseIdx i).length c) ∧ Calls Try.prog 32 #[vp, .int .i64 (i : Int)] (w1.setCell ⟨b, 2, none⟩ v1) fun e w' => ∃ v', e = .returned v' ∧ NewI (w1.setCell ⟨b, 2, none⟩ v1) w' v' ((lpS x).eraseIdx i) from by
      have hb1 := h.below n1.2.1
      obtain ⟨h1, _⟩ := h.setB n1
      obtain ⟨ao, c, e, _⟩ := ownsRow_form n1.1
      exact ⟨hb1.cells.2.2.1, hb1.cells.2.2.2.2.2 2, h1.cells.2.2.2.1, ⟨ao, c, e⟩, refCut_any vp (lpS x) (by omega) i (by omega) _ h1.op⟩))
    have STEP3 := Hid.intro (fun (w1 w2 : World) (v1 v2 : Value) (n1 : NewI w w1 v1 ((lbS x).eraseIdx i)) (n2 : NewI (w1.setCell ⟨b, 2, none⟩ v1) w2 v2 ((lpS x).eraseIdx i)) => (show w2.cell? ⟨b, 3, none⟩ = some vp ∧ w2.frozen? ⟨b, 3, none⟩ = false ∧ (w2.setCell ⟨b, 3, none⟩ v2).cell? ⟨b, 4, none⟩ = some vl ∧ (∃ ao c, v2 = .slice ao ((lpS x).eraseIdx i).length c) ∧ Calls Try.prog 32 #[vl, .int .i64 (i : Int)] (w2.setCell ⟨b, 3, none⟩ v2) fun e w' => ∃ v', e = .returned v' ∧ NewI (w2.setCell ⟨b, 3, none⟩ v2) w' v' ((llS x).eraseIdx i) from by
      obtain ⟨h1, _⟩ := h.setB n1
      have hb2 := h1.below n2.2.1
      obtain ⟨h2, _⟩ := h1.setP n2
      obtain ⟨ao, c, e, _⟩ := ownsRow_form n2.1
      exact ⟨hb2.cells.2.2.2.1, hb2.cells.2.2.2.2.2 3, h2.cells.2.2.2.2.1, ⟨ao, c, e⟩, refCut_any vl (llS x) (by omega) i (by omega) _ h2.ol⟩))
    have STEP4 := Hid.intro (fun (w1 w2 w3 : World) (v1 v2 v3 : Value) (n1 : NewI w w1 v1 ((lbS x).eraseIdx i)) (n2 : NewI (w1.setCell ⟨b, 2, none⟩ v1) w2 v2 ((lpS x).eraseIdx i)) (n3 : NewI (w2.setCell ⟨b, 3, none⟩ v2) w3 v3 ((llS x).eraseIdx i)) => (show w3.cell? ⟨b, 4, none⟩ = some vl ∧ w3.frozen? ⟨b, 4, none⟩ = false ∧ (∃ ao c, v3 = .slice ao ((llS x).eraseIdx i).length c) ∧ LeftRC S w (w3.setCell ⟨b, 4, none⟩ v3) b { x with beds := x.beds.eraseIdx i } from by
      obtain ⟨h1, _⟩ := h.setB n1
      obtain ⟨h2, _⟩ := h1.setP n2
      have hb3 := h2.below n3.2.1
      obtain ⟨ao, c, e, _⟩ := ownsRow_form n3.1
      refine ⟨hb3.cells.2.2.2.2.1, hb3.cells.2.2.2.2.2 4, ⟨ao, c, e⟩, ?_⟩
      obtain ⟨S', r1, r2, r3⟩ := three h n1 n2 n3
      have q1 : lbS { x with beds := x.beds.eraseIdx i } = (lbS x).eraseIdx i := map_eraseIdx _ _ _
      have q2 : lpS { x with beds := x.beds.eraseIdx i } = (lpS x).eraseIdx i := map_eraseIdx _ _ _
      have q3 : llS { x with beds := x.beds.eraseIdx i } = (llS x).eraseIdx i := map_eraseIdx _ _ _
      rw [← q1, ← q2, ← q3] at r1
      exact ⟨S', ⟨⟨_, _, _, r1⟩, okR⟩, r2, r3⟩))
    obtain ⟨ao, c, rfl, _⟩ := ownsRow_form h.ob
    obtain ⟨ap, cp, rfl, _⟩ := ownsRow_form h.op
    obtain ⟨al, cl', rfl, _⟩ := ownsRow_form h.ol
    have i0 : (0 : Int) ≤ (i : Int) := by omega
    clear h e1 e2 e3 e4 e5 q1 q2 hi fz okR l1 l2 l3
    go_enter Try.func18, Try.ntmps18
    go_wp2_with fail
    refine FI.out.mono ?_
    rintro e w0 ⟨rfl, rfl⟩
    clear FI
    go_wp2_with fail
    refine C1.out.mono ?_
    rintro e w1 ⟨v1, rfl, n1⟩
    obtain ⟨s1, s2, s3, ⟨a1, b1, rfl⟩, C2⟩ := STEP2.out w1 v1 n1
    have N1 := Hid.intro n1
    have C2H := Hid.intro C2
    clear C1 STEP2 n1 C2 c2 f2
    go_wp2_with fail
    refine C2H.out.mono ?_
    rintro e w2 ⟨v2, rfl, n2⟩
    obtain ⟨u1, u2, u3, ⟨a2, b2, rfl⟩, C3⟩ := STEP3.out w1 w2 _ v2 N1.out n2
    have N2 := Hid.intro n2
    have C3H := Hid.intro C3
    clear C2H STEP3 n2 C3 s1 s2 s3
    go_wp2_with fail
    refine C3H.out.mono ?_
    rintro e w3 ⟨v3, rfl, n3⟩
    obtain ⟨t1, t2, ⟨a3, b3, rfl⟩, LF⟩ := STEP4.out w1 w2 w3 _ _ v3 N1.out N2.out n3
    have LFH := Hid.intro LF
    clear C3H STEP4 n3 LF u1 u2 u3 N1 N2
    go_wp2
    go_ret
    exact ⟨rfl, LFH.out⟩

end Go.Proofs.Ythfmgdhhjnngaaa
