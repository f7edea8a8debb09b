/- The document's own answer of layer 16: what comes ahead; the same lists. -/
import Derived.Test.YtbeeigfcchjdlaaPnR1
import Derived.Test.YtbeeigfcchjdlaaPnEq
import Derived.BigQuiet
namespace Go.Proofs.Ytbeeigfcchjdlaa
open Go.RowKit
open Pn

set_option maxRecDepth 100000 in
set_option maxHeartbeats 1000000 in
theorem refAhead16_any (a b : Al) (w : World) :
    Calls Try.prog 37 #[Avv a, Avv b] w fun e w' => e = .returned (.bool (ltA a b)) ∧ Below w.heap.size w w' := by
  have HB := Hid.intro (bel_allocR (bel_allocR (Below.refl w.heap.size w) (Nat.le_refl _) (.cells #[.int .i64 a.bed, .int .i64 a.kind, .int .i64 a.since, .bool a.on, .bool a.acked] 42)) (Nat.le_refl _) (.cells #[.int .i64 b.bed, .int .i64 b.kind, .int .i64 b.since, .bool b.on, .bool b.acked] 42))
  obtain ⟨a0, a1, a2, a3, a4⟩ := a
  obtain ⟨b0, b1, b2, b3, b4⟩ := b
  show Calls Try.prog 37 #[.agg #[.int .i64 a0, .int .i64 a1, .int .i64 a2, .bool a3, .bool a4], .agg #[.int .i64 b0, .int .i64 b1, .int .i64 b2, .bool b3, .bool b4]] w fun e w' => e = .returned (.bool (if a4 ≠ b4 then b4 else if a1 ≠ b1 then decide (a1 < b1) else if a2 ≠ b2 then decide (a2 < b2) else decide (a0 < b0))) ∧ Below w.heap.size w w'
  by_cases h4 : a4 = b4
  · subst h4
    rw [if_neg (by simp)]
    have g4 : ∀ x : Bool, (x != x) = false := by decide
    by_cases h1 : a1 = b1
    · subst h1
      rw [if_neg (by simp)]
      by_cases h2 : a2 = b2
      · subst h2
        rw [if_neg (by simp)]
        by_cases h0 : a0 < b0
        · rw [decide_eq_true h0]
          cases a4
          all_goals
            go_enter Try.func37, Try.ntmps37
            go_wp2
            go_ret
            exact ⟨rfl, HB.out⟩
        · rw [decide_eq_false h0]
          cases a4
          all_goals
            go_enter Try.func37, Try.ntmps37
            go_wp2
            go_ret
            exact ⟨rfl, HB.out⟩
      · rw [if_pos h2]
        have q : (a2 != b2) = true := by rw [bne_iff_ne]; exact h2
        by_cases h0 : a2 < b2
        · rw [decide_eq_true h0]
          clear h2
          cases a4
          all_goals
            go_enter Try.func37, Try.ntmps37
            go_wp2
            go_ret
            exact ⟨rfl, HB.out⟩
        · rw [decide_eq_false h0]
          clear h2
          cases a4
          all_goals
            go_enter Try.func37, Try.ntmps37
            go_wp2
            go_ret
            exact ⟨rfl, HB.out⟩
    · rw [if_pos h1]
      have q : (a1 != b1) = true := by rw [bne_iff_ne]; exact h1
      by_cases h0 : a1 < b1
      · rw [decide_eq_true h0]
        clear h1
        cases a4
        all_goals
          go_enter Try.func37, Try.ntmps37
          go_wp2
          go_ret
          exact ⟨rfl, HB.out⟩
      · rw [decide_eq_false h0]
        clear h1
        cases a4
        all_goals
          go_enter Try.func37, Try.ntmps37
          go_wp2
          go_ret
          exact ⟨rfl, HB.out⟩
  · rw [if_pos h4]
    cases a4 <;> cases b4
    all_goals first
      | exact absurd rfl h4
      | (clear h4
         go_enter Try.func37, Try.ntmps37
         go_wp2
         go_ret
         exact ⟨rfl, HB.out⟩)

/-- The first so many are the same. -/
theorem take_extA {l m : List Al} {k : Nat} (h : l.take k = m.take k) (h1 : k < l.length) (h2 : k < m.length) (e : l[k] = m[k]) : l.take (k + 1) = m.take (k + 1) := by
  rw [List.take_add_one, List.take_add_one, h, List.getElem?_eq_getElem h1, List.getElem?_eq_getElem h2, e]

set_option maxRecDepth 100000 in
set_option maxHeartbeats 1000000 in
theorem refSame16_any (u v : Value) (l m : List Al) (hl : l.length ≤ 1000) (hm : m.length ≤ 1000) (w : World) (h1 : w.ownsRow 0 42 5 u l.length (acells l)) (h2 : w.ownsRow 0 42 5 v m.length (acells m)) :
    Calls Try.prog 22 #[u, v] w fun e w' => e = .returned (.bool (decide (l = m))) ∧ Below w.heap.size w w' := by
  obtain ⟨ao, ca, rfl, z1⟩ := ownsRow_form h1
  obtain ⟨bo, cb, rfl, z2⟩ := ownsRow_form h2
  have C1 : Hid (0 < l.length → ∃ g, ao = some ⟨g, 0, none⟩ ∧ ∀ t, (ht : t < l.length) → AlAt w g (t * 5) l[t]) := fun h0 => by
    obtain ⟨g, rfl⟩ := z1.resolve_left (by omega)
    exact ⟨g, rfl, fun t ht => al_at h1 ht⟩
  have C2 : Hid (0 < m.length → ∃ g, bo = some ⟨g, 0, none⟩ ∧ ∀ t, (ht : t < m.length) → AlAt w g (t * 5) m[t]) := fun h0 => by
    obtain ⟨g, rfl⟩ := z2.resolve_left (by omega)
    exact ⟨g, rfl, fun t ht => al_at h2 ht⟩
  obtain ⟨rs, hrs⟩ : ∃ rs : Bool, rs = decide (l = m) := ⟨_, rfl⟩
  rw [← hrs]
  have HR := Hid.intro hrs
  have EQ := Hid.intro al_eq
  clear z1 z2 h1 h2 hrs
  by_cases hlen : l.length = m.length
  · have hle : ((l.length : Int) != (m.length : Int)) = false := by simp; omega
    obtain ⟨L, hL⟩ : ∃ L, L = l.length := ⟨_, rfl⟩
    have HL := Hid.intro hL
    have HM : Hid (m.length = L) := by show m.length = L; omega
    rw [← hL] at hle hl ⊢
    rw [HM.out] at hle hm ⊢
    clear hlen hL
    go_enter Try.func22, Try.ntmps22
    go_wp2_with fail
    go_loopw [5] (fun i wr => ∃ (k q : Nat), k ≤ L ∧ i = .int .i64 k ∧ l.take k = m.take k ∧ wr = w.drewN q) (fun i _ => L - (intOf i).toNat)
    case atStart => exact ⟨0, 0, by omega, rfl, rfl, rfl⟩
    case round =>
      obtain ⟨k, q, hk, rfl, ht, hwr⟩ := hrel
      have HT := Hid.intro ht
      have HWR := Hid.intro hwr
      clear ht hwr
      by_cases hlt : k < L
      · have k0 : (0 : Int) ≤ (k : Int) := by omega
        have k1 : (k : Int) < (L : Int) := by omega
        have hk1 : k < l.length := by rw [← HL.out]; exact hlt
        have hk2 : k < m.length := by rw [HM.out]; exact hlt
        obtain ⟨pa, rfl, d1⟩ := C1.out (by omega)
        obtain ⟨pb, rfl, d2⟩ := C2.out (by omega)
        obtain ⟨a0, a1, a2, a3, a4⟩ := d1 k hk1
        obtain ⟨b0, b1, b2, b3, b4⟩ := d2 k hk2
        have x0 : wr.cell? ⟨pa, k * 5, none⟩ = some (.int .i64 l[k].bed) := by rw [HWR.out]; exact a0
        have x1 : wr.cell? ⟨pa, k * 5 + 1, none⟩ = some (.int .i64 l[k].kind) := by rw [HWR.out]; exact a1
        have x2 : wr.cell? ⟨pa, k * 5 + 2, none⟩ = some (.int .i64 l[k].since) := by rw [HWR.out]; exact a2
        have x3 : wr.cell? ⟨pa, k * 5 + 3, none⟩ = some (.bool l[k].on) := by rw [HWR.out]; exact a3
        have x4 : wr.cell? ⟨pa, k * 5 + 4, none⟩ = some (.bool l[k].acked) := by rw [HWR.out]; exact a4
        have y0 : wr.cell? ⟨pb, k * 5, none⟩ = some (.int .i64 m[k].bed) := by rw [HWR.out]; exact b0
        have y1 : wr.cell? ⟨pb, k * 5 + 1, none⟩ = some (.int .i64 m[k].kind) := by rw [HWR.out]; exact b1
        have y2 : wr.cell? ⟨pb, k * 5 + 2, none⟩ = some (.int .i64 m[k].since) := by rw [HWR.out]; exact b2
        have y3 : wr.cell? ⟨pb, k * 5 + 3, none⟩ = some (.bool m[k].on) := by rw [HWR.out]; exact b3
        have y4 : wr.cell? ⟨pb, k * 5 + 4, none⟩ = some (.bool m[k].acked) := by rw [HWR.out]; exact b4
        have se := fun (W : World) => EQ.out l[k].bed l[k].kind l[k].since m[k].bed m[k].kind m[k].since l[k].on l[k].acked m[k].on m[k].acked W
        rw [al_beq] at se
        have TK := Hid.intro (fun (e : l[k] = m[k]) => take_extA HT.out hk1 hk2 e)
        have NE : Hid (l[k] ≠ m[k] → rs = false) := fun e => by
          rw [HR.out, decide_eq_false]
          intro q2
          subst q2
          exact e rfl
        have DD : Hid ((decide (l[k] = m[k]) = true → l[k] = m[k]) ∧ (decide (l[k] = m[k]) = false → l[k] ≠ m[k])) := ⟨of_decide_eq_true, of_decide_eq_false⟩
        clear d1 d2 a0 a1 a2 a3 a4 b0 b1 b2 b3 b4
        generalize hdd : decide (l[k] = m[k]) = dd at se DD
        generalize l[k].bed = s0 at x0 se
        generalize l[k].kind = s1 at x1 se
        generalize l[k].since = s2 at x2 se
        generalize l[k].on = s3 at x3 se
        generalize l[k].acked = s4 at x4 se
        generalize m[k].bed = t0 at y0 se
        generalize m[k].kind = t1 at y1 se
        generalize m[k].since = t2 at y2 se
        generalize m[k].on = t3 at y3 se
        generalize m[k].acked = t4 at y4 se
        clear hdd
        cases dd with
        | true =>
          go_wp2_with fail
          go_quiet (fail)
          go_wp2
          go_roundw
          case rel => exact ⟨k + 1, q + nq, by omega, by go_num, TK.out (DD.out.1 trivial), by rw [HWR.out]; simp [World.drewN, Nat.add_assoc]⟩
          case measure => simp [intOf]; omega
        | false =>
          have hrf := NE.out (DD.out.2 rfl)
          subst hrf
          go_wp2_with fail
          go_quiet (fail)
          go_wp2
          go_ret
          exact ⟨rfl, by rw [HWR.out]; exact ⟨rfl, rfl, rfl, Nat.le_refl _, fun _ _ => rfl⟩⟩
      · obtain rfl : k = L := by omega
        have k1 : ¬ (k : Int) < (k : Int) := by omega
        have hrt : rs = true := by
          rw [HR.out, decide_eq_true]
          have := HT.out
          rw [List.take_of_length_le (by rw [← HL.out]; exact Nat.le_refl _), List.take_of_length_le (by rw [HM.out]; exact Nat.le_refl _)] at this
          exact this
        subst hrt
        go_wp2
        go_ret
        exact ⟨rfl, by rw [HWR.out]; exact ⟨rfl, rfl, rfl, Nat.le_refl _, fun _ _ => rfl⟩⟩
  · have hle : ((l.length : Int) != (m.length : Int)) = true := by simp; omega
    have hrf : rs = false := by
      rw [HR.out, decide_eq_false]
      intro q2
      exact hlen (by rw [q2])
    subst hrf
    clear C1 C2 HR EQ hlen
    generalize l.length = L1 at *
    generalize m.length = L2 at *
    go_enter Try.func22, Try.ntmps22
    go_wp2
    go_ret
    exact ⟨rfl, Below.refl _ _⟩

end Go.Proofs.Ytbeeigfcchjdlaa
