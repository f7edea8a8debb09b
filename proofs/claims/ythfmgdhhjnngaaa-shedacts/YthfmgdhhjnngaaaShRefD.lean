/- The document's own controller of layer 13: Add. -/
import Derived.Test.YthfmgdhhjnngaaaShRefC
namespace Go.Proofs.Ythfmgdhhjnngaaa
open Go.RowKit
open Bt

set_option maxRecDepth 100000 in
set_option maxHeartbeats 2000000 in
theorem refAdd13_any (b : Nat) (bed prio : Int) (S : Nat → Prop) (x : Ctl) (w : World) (h : RCt S w b x) :
    Calls Try.prog 17 #[.pointer (some ⟨b, 0, none⟩), .int .i64 bed, .int .i64 prio] w fun e w' => e = .returned (.int .i64 (addE x bed)) ∧ LeftRC S w w' b (addC x bed prio) := by
  have FI := Hid.intro (refFind13_any b bed S x w h)
  have HC := Hid.intro h
  obtain ⟨⟨vb, vp, vl, h⟩, ok⟩ := h
  have hf := ok.few
  have l1 : (lbS x).length = x.beds.length := by simp [lbS]
  have l2 : (lpS x).length = x.beds.length := by simp [lpS]
  have l3 : (llS x).length = x.beds.length := by simp [llS]
  obtain ⟨_, _, c2, c3, _, fz⟩ := h.cells
  rcases posS_all (isBedS bed) x.beds with ⟨e1, e2, _⟩ | ⟨i, hi, e1, e4, e2, e3, e5⟩
  · rw [e1] at FI
    by_cases h8 : 8 ≤ x.beds.length
    · have q1 : addE x bed = 7 := by unfold addE; rw [e2, if_neg (by simp), if_pos h8]
      have q2 : addC x bed prio = x := by unfold addC; rw [q1, if_neg (by decide)]
      rw [q1, q2]
      obtain ⟨ao, c, rfl, _⟩ := ownsRow_form h.ob
      rw [l1] at c2
      have n8 : (8 : Int) ≤ (x.beds.length : Int) := by omega
      clear h e1 e2 q1 q2 h8 ok l1 l2 l3 fz c3
      generalize x.beds.length = n at *
      go_enter Try.func17, Try.ntmps17
      go_wp2_with fail
      refine FI.out.mono ?_
      rintro e w2 ⟨rfl, rfl⟩
      go_wp2
      go_ret
      exact ⟨rfl, LeftRC.same HC.out⟩
    · have q1 : addE x bed = 0 := by unfold addE; rw [e2, if_neg (by simp), if_neg h8]
      have q2 : addC x bed prio = { x with beds := x.beds.insertIdx (atS prio x.beds) ⟨bed, prio, 0⟩ } := by unfold addC; rw [q1, if_pos rfl]; rfl
      have okA := ok_add ok bed prio
      rw [q2] at okA
      rw [q1, q2]
      have f2 := fz 2
      have hat := atS_le prio x.beds
      have AT := Hid.intro (fun (t : Nat) (ht : t ≤ x.beds.length) (hb : ∀ j, (hj : j < x.beds.length) → j < t → prio ≤ x.beds[j].prio) (he : t = x.beds.length ∨ ∃ h : t < x.beds.length, x.beds[t].prio < prio) => atS_of ht hb he)
      obtain ⟨i, hi⟩ : ∃ i, i = atS prio x.beds := ⟨_, rfl⟩
      rw [← hi] at hat okA AT ⊢
      have C1 := Hid.intro (refPut_any vb (lbS x) (by omega) i (by omega) bed w h.ob)
      have STEP2 := Hid.intro (fun (w1 : World) (v1 : Value) (n1 : NewI w w1 v1 ((lbS x).insertIdx i bed)) => (show w1.cell? ⟨b, 2, none⟩ = some vb ∧ w1.frozen? ⟨b, 2, none⟩ = false ∧ (w1.setCell ⟨b, 2, none⟩ v1).cell? ⟨b, 3, none⟩ = some vp ∧ (∃ ao c, v1 = .slice ao ((lbS x).insertIdx i bed).length c) ∧ Calls Try.prog 31 #[vp, .int .i64 (i : Int), .int .i64 prio] (w1.setCell ⟨b, 2, none⟩ v1) fun e w' => ∃ v', e = .returned v' ∧ NewI (w1.setCell ⟨b, 2, none⟩ v1) w' v' ((lpS x).insertIdx i prio) from by
        have hb1 := h.below n1.2.1
        obtain ⟨h1, _⟩ := h.setB n1
        obtain ⟨ao, c, e, _⟩ := ownsRow_form n1.1
        exact ⟨hb1.cells.2.2.1, hb1.cells.2.2.2.2.2 2, h1.cells.2.2.2.1, ⟨ao, c, e⟩, refPut_any vp (lpS x) (by omega) i (by omega) prio _ h1.op⟩))
      have STEP3 := Hid.intro (fun (w1 w2 : World) (v1 v2 : Value) (n1 : NewI w w1 v1 ((lbS x).insertIdx i bed)) (n2 : NewI (w1.setCell ⟨b, 2, none⟩ v1) w2 v2 ((lpS x).insertIdx i prio)) => (show w2.cell? ⟨b, 3, none⟩ = some vp ∧ w2.frozen? ⟨b, 3, none⟩ = false ∧ (w2.setCell ⟨b, 3, none⟩ v2).cell? ⟨b, 4, none⟩ = some vl ∧ (∃ ao c, v2 = .slice ao ((lpS x).insertIdx i prio).length c) ∧ Calls Try.prog 31 #[vl, .int .i64 (i : Int), .int .i64 0] (w2.setCell ⟨b, 3, none⟩ v2) fun e w' => ∃ v', e = .returned v' ∧ NewI (w2.setCell ⟨b, 3, none⟩ v2) w' v' ((llS x).insertIdx i 0) from by
        obtain ⟨h1, _⟩ := h.setB n1
        have hb2 := h1.below n2.2.1
        obtain ⟨h2, _⟩ := h1.setP n2
        obtain ⟨ao, c, e, _⟩ := ownsRow_form n2.1
        exact ⟨hb2.cells.2.2.2.1, hb2.cells.2.2.2.2.2 3, h2.cells.2.2.2.2.1, ⟨ao, c, e⟩, refPut_any vl (llS x) (by omega) i (by omega) 0 _ h2.ol⟩))
      have STEP4 := Hid.intro (fun (w1 w2 w3 : World) (v1 v2 v3 : Value) (n1 : NewI w w1 v1 ((lbS x).insertIdx i bed)) (n2 : NewI (w1.setCell ⟨b, 2, none⟩ v1) w2 v2 ((lpS x).insertIdx i prio)) (n3 : NewI (w2.setCell ⟨b, 3, none⟩ v2) w3 v3 ((llS x).insertIdx i 0)) => (show w3.cell? ⟨b, 4, none⟩ = some vl ∧ w3.frozen? ⟨b, 4, none⟩ = false ∧ (∃ ao c, v3 = .slice ao ((llS x).insertIdx i 0).length c) ∧ LeftRC S w (w3.setCell ⟨b, 4, none⟩ v3) b { x with beds := x.beds.insertIdx i ⟨bed, prio, 0⟩ } from by
        obtain ⟨h1, _⟩ := h.setB n1
        obtain ⟨h2, _⟩ := h1.setP n2
        have hb3 := h2.below n3.2.1
        obtain ⟨ao, c, e, _⟩ := ownsRow_form n3.1
        refine ⟨hb3.cells.2.2.2.2.1, hb3.cells.2.2.2.2.2 4, ⟨ao, c, e⟩, ?_⟩
        obtain ⟨S', r1, r2, r3⟩ := three h n1 n2 n3
        have q1 : lbS { x with beds := x.beds.insertIdx i ⟨bed, prio, 0⟩ } = (lbS x).insertIdx i bed := map_insertIdx _ _ _ _
        have q2 : lpS { x with beds := x.beds.insertIdx i ⟨bed, prio, 0⟩ } = (lpS x).insertIdx i prio := map_insertIdx _ _ _ _
        have q3 : llS { x with beds := x.beds.insertIdx i ⟨bed, prio, 0⟩ } = (llS x).insertIdx i 0 := map_insertIdx _ _ _ _
        rw [← q1, ← q2, ← q3] at r1
        exact ⟨S', ⟨⟨_, _, _, r1⟩, okA⟩, r2, r3⟩))
      obtain ⟨ao, c, rfl, _⟩ := ownsRow_form h.ob
      obtain ⟨ap, cp, rfl, hzp⟩ := ownsRow_form h.op
      obtain ⟨al, cl', rfl, _⟩ := ownsRow_form h.ol
      have HA := Hid.intro (fun t (ht : t < x.beds.length) (g : Nat) (e : ap = some ⟨g, 0, none⟩) => (show w.cell? ⟨g, t, none⟩ = some (.int .i64 x.beds[t].prio) from by
        subst e
        have q1 := row_at h.op (i := t) (by omega)
        have m1 : (lpS x)[t]'(by omega) = x.beds[t].prio := by simp [lpS]
        rw [m1] at q1
        exact q1))
      rw [l2] at hzp
      have HZ := Hid.intro hzp
      rw [l1] at c2 C1
      rw [l2] at c3
      have n8 : ¬ (8 : Int) ≤ (x.beds.length : Int) := by omega
      have HL1 := Hid.intro l1
      have HL2 := Hid.intro l2
      have HL3 := Hid.intro l3
      rw [l1, l2] at STEP2
      rw [l2, l3] at STEP3
      rw [l3] at STEP4
      obtain ⟨n, hn⟩ : ∃ n, n = x.beds.length := ⟨_, rfl⟩
      have HN := Hid.intro hn
      rw [← hn] at c2 c3 C1 n8 hf STEP2 STEP3 STEP4
      clear h e1 e2 q1 q2 fz okA l1 l2 l3 hzp h8 hat hi hn ok
      go_enter Try.func17, Try.ntmps17
      go_wp2_with fail
      refine FI.out.mono ?_
      rintro e w0 ⟨rfl, rfl⟩
      clear FI
      go_wp2_with fail
      go_loop [7] (fun iv => ∃ t : Nat, t ≤ n ∧ iv = .int .i64 t ∧ ∀ j, (hj : j < x.beds.length) → j < t → prio ≤ x.beds[j].prio) (fun iv => n - (intOf iv).toNat)
      case atStart => exact ⟨0, by omega, rfl, fun j _ hj => absurd hj (Nat.not_lt_zero _)⟩
      case round =>
        obtain ⟨t, ht, rfl, hno⟩ := hrel
        have HNO := Hid.intro hno
        clear hno
        by_cases hgo : ∃ h : t < x.beds.length, prio ≤ x.beds[t].prio
        · obtain ⟨hlt', hge⟩ := hgo
          have hlt : t < n := by rw [HN.out]; exact hlt'
          obtain ⟨g, rfl⟩ := HZ.out.resolve_left (by omega)
          have d0 := HA.out t hlt' g rfl
          have NX : Hid (∀ j, (hj : j < x.beds.length) → j < t + 1 → prio ≤ x.beds[j].prio) := fun j hj h => by
            by_cases q : j < t
            · exact HNO.out j hj q
            · obtain rfl : j = t := by omega
              exact hge
          have t0 : (0 : Int) ≤ (t : Int) := by omega
          have t1 : (t : Int) < (n : Int) := by omega
          generalize x.beds[t].prio = pr at *
          go_wp2
          go_round
          case rel => exact ⟨t + 1, by omega, by go_num, NX.out⟩
          case measure => simp [intOf]; omega
        · have t0 : (0 : Int) ≤ (t : Int) := by omega
          by_cases hlt : t < n
          · have hlt' : t < x.beds.length := by rw [← HN.out]; exact hlt
            have hpr : x.beds[t].prio < prio := by
              by_cases r : x.beds[t].prio < prio
              · exact r
              · exact absurd ⟨hlt', by omega⟩ hgo
            have eat := AT.out t (by omega) HNO.out (.inr ⟨hlt', hpr⟩)
            obtain ⟨g, rfl⟩ := HZ.out.resolve_left (by omega)
            have d0 := HA.out t hlt' g rfl
            have t1 : (t : Int) < (n : Int) := by omega
            have pn : ¬ prio ≤ x.beds[t].prio := by omega
            subst eat
            clear hgo hpr AT
            generalize x.beds[i].prio = pr at *
            go_wp2_with fail
            refine C1.out.mono ?_
            rintro e w1 ⟨v1, rfl, n1⟩
            obtain ⟨s1, s2, s3, ⟨a1, b1, rfl⟩, C2⟩ := STEP2.out w1 v1 n1
            have N1 := Hid.intro n1
            have C2H := Hid.intro C2
            clear C1 STEP2 n1 C2 c2 f2 c3
            go_wp2_with fail
            refine C2H.out.mono ?_
            rintro e w2 ⟨v2, rfl, n2⟩
            obtain ⟨u1, u2, u3, ⟨a2, b2, rfl⟩, C3⟩ := STEP3.out w1 w2 _ v2 N1.out n2
            have N2 := Hid.intro n2
            have C3H := Hid.intro C3
            clear C2H STEP3 n2 C3 s1 s2 s3
            go_wp2_with fail
            refine C3H.out.mono ?_
            rintro e w3 ⟨v3, rfl, n3⟩
            obtain ⟨t1', t2', ⟨a3, b3, rfl⟩, LF⟩ := STEP4.out w1 w2 w3 _ _ v3 N1.out N2.out n3
            have LFH := Hid.intro LF
            clear C3H STEP4 n3 LF u1 u2 u3 N1 N2
            go_wp2
            go_ret
            exact ⟨rfl, LFH.out⟩
          · have tn : t = n := by omega
            have eat := AT.out t (by rw [← HN.out]; exact ht) HNO.out (.inl (by rw [tn]; exact HN.out))
            have t1 : ¬ (t : Int) < (n : Int) := by omega
            subst eat
            clear hgo AT tn
            go_wp2_with fail
            refine C1.out.mono ?_
            rintro e w1 ⟨v1, rfl, n1⟩
            obtain ⟨s1, s2, s3, ⟨a1, b1, rfl⟩, C2⟩ := STEP2.out w1 v1 n1
            have N1 := Hid.intro n1
            have C2H := Hid.intro C2
            clear C1 STEP2 n1 C2 c2 f2 c3
            go_wp2_with fail
            refine C2H.out.mono ?_
            rintro e w2 ⟨v2, rfl, n2⟩
            obtain ⟨u1, u2, u3, ⟨a2, b2, rfl⟩, C3⟩ := STEP3.out w1 w2 _ v2 N1.out n2
            have N2 := Hid.intro n2
            have C3H := Hid.intro C3
            clear C2H STEP3 n2 C3 s1 s2 s3
            go_wp2_with fail
            refine C3H.out.mono ?_
            rintro e w3 ⟨v3, rfl, n3⟩
            obtain ⟨t1', t2', ⟨a3, b3, rfl⟩, LF⟩ := STEP4.out w1 w2 w3 _ _ v3 N1.out N2.out n3
            have LFH := Hid.intro LF
            clear C3H STEP4 n3 LF u1 u2 u3 N1 N2
            go_wp2
            go_ret
            exact ⟨rfl, LFH.out⟩
  · have q1 : addE x bed = 9 := by unfold addE; rw [e2, if_pos rfl]
    have q2 : addC x bed prio = x := by unfold addC; rw [q1, if_neg (by decide)]
    rw [q1, q2]
    rw [e1] at FI
    clear h e1 e2 e3 e4 e5 q1 q2 hi ok l1 l2 l3 fz c2 c3
    go_enter Try.func17, Try.ntmps17
    go_wp2_with fail
    refine FI.out.mono ?_
    rintro e w2 ⟨rfl, rfl⟩
    go_wp2
    go_ret
    exact ⟨rfl, LeftRC.same HC.out⟩

end Go.Proofs.Ythfmgdhhjnngaaa
