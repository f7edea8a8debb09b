/- The document's own answer of layer 9: the same lists. -/
import Derived.Test.YtohedeeajcdjcaaDoorRoVal
import Derived.Laws.StructEq
namespace Go.Proofs.YtohedeeajcdjcaaDoor
open Go.RowKit
open Bt

set_option maxRecDepth 100000 in
theorem seen_eq (a0 a1 a2 a3 b0 b1 b2 b3 : Int) (w : World) :
    (Op.equalIn 10000 41 (.agg #[.int .i64 a0, .int .i64 a1, .int .i64 a2, .int .i64 a3]) (.agg #[.int .i64 b0, .int .i64 b1, .int .i64 b2, .int .i64 b3])).run Tryd.prog w = .ok (a0 == b0 && (a1 == b1 && (a2 == b2 && a3 == b3))) w := by
  have u := Tryd.underlying41
  rw [run_equalIn_agg (P := Tryd.prog) w 9999 41 _ _ (by kernel_rfl) (by kernel_rfl)]
  simp only [Program.fieldsOf, u]
  have p : ∀ (x0 x1 x2 x3 : Int), (part 3 #[.int .i64 x0, .int .i64 x1, .int .i64 x2, .int .i64 x3] 0).run Tryd.prog w = .ok (.int .i64 x0) w ∧ (part 3 #[.int .i64 x0, .int .i64 x1, .int .i64 x2, .int .i64 x3] 1).run Tryd.prog w = .ok (.int .i64 x1) w ∧ (part 3 #[.int .i64 x0, .int .i64 x1, .int .i64 x2, .int .i64 x3] 2).run Tryd.prog w = .ok (.int .i64 x2) w ∧ (part 3 #[.int .i64 x0, .int .i64 x1, .int .i64 x2, .int .i64 x3] 3).run Tryd.prog w = .ok (.int .i64 x3) w := fun x0 x1 x2 x3 => ⟨by kernel_rfl, by kernel_rfl, by kernel_rfl, by kernel_rfl⟩
  have q : ∀ (x y : Int), (Op.equalIn 9999 3 (.int .i64 x) (.int .i64 y)).run Tryd.prog w = .ok (x == y) w := fun x y => run_equalIn_int w 9998 3 .i64 .i64 x y Tryd.underlying3
  obtain ⟨pa0, pa1, pa2, pa3⟩ := p a0 a1 a2 a3
  obtain ⟨pb0, pb1, pb2, pb3⟩ := p b0 b1 b2 b3
  have n0 : ("Tx" ≠ "_") := by decide
  have n1 : ("Ant" ≠ "_") := by decide
  have n2 : ("Rssi" ≠ "_") := by decide
  have n3 : ("Last" ≠ "_") := by decide
  simp only [Op.eqFields, if_pos n0, if_pos n1, if_pos n2, if_pos n3, Sem.run_bind, pa0, pa1, pa2, pa3, pb0, pb1, pb2, pb3, Result.andThen_ok, q, Sem.run_ite, Sem.run_pure]
  generalize (a0 == b0) = e0
  generalize (a1 == b1) = e1
  generalize (a2 == b2) = e2
  generalize (a3 == b3) = e3
  cases e0 <;> cases e1 <;> cases e2 <;> cases e3 <;> rfl

theorem sen_beq (s t : Sen) : (s.tx == t.tx && (s.ant == t.ant && (s.rssi == t.rssi && s.last == t.last))) = decide (s = t) := by
  obtain ⟨a, b, c, d⟩ := s
  obtain ⟨e, f, g, h⟩ := t
  rw [Bool.eq_iff_iff]
  simp only [Bool.and_eq_true, beq_iff_eq, decide_eq_true_eq, Sen.mk.injEq]

/-- The first so many are the same. -/
theorem take_ext {l m : List Sen} {k : Nat} (h : l.take k = m.take k) (h1 : k < l.length) (h2 : k < m.length) (e : l[k] = m[k]) : l.take (k + 1) = m.take (k + 1) := by
  rw [List.take_add_one, List.take_add_one, h, List.getElem?_eq_getElem h1, List.getElem?_eq_getElem h2, e]

set_option maxRecDepth 100000 in
set_option maxHeartbeats 1000000 in
theorem same9_any (R R' : Nat → Prop) (u v : Value) (l m : List Sen) (hl : l.length ≤ 1000) (hm : m.length ≤ 1000) (w : World) (h1 : SensAt R w u l) (h2 : SensAt R' w v m) :
    Calls Tryd.prog 22 #[u, v] w fun e w' => e = .returned (.bool (decide (l = m))) ∧ Below w.heap.size w w' := by
  obtain ⟨ao, ca, rfl, c1⟩ := h1
  obtain ⟨bo, cb, rfl, c2⟩ := h2
  have C1 := Hid.intro c1
  have C2 := Hid.intro c2
  obtain ⟨rs, hrs⟩ : ∃ rs : Bool, rs = decide (l = m) := ⟨_, rfl⟩
  rw [← hrs]
  have HR := Hid.intro hrs
  have EQ := Hid.intro seen_eq
  clear c1 c2 hrs
  by_cases hlen : l.length = m.length
  · have hle : ((l.length : Int) != (m.length : Int)) = false := by simp; omega
    obtain ⟨L, hL⟩ : ∃ L, L = l.length := ⟨_, rfl⟩
    have HL := Hid.intro hL
    have HM : Hid (m.length = L) := by show m.length = L; omega
    rw [← hL] at hle hl ⊢
    rw [HM.out] at hle hm ⊢
    clear hlen hL
    go_enter Tryd.func22, Tryd.ntmps22
    go_wp2_with fail
    go_loopw [5] (fun i wr => ∃ (k q : Nat), k ≤ L ∧ i = .int .i64 k ∧ l.take k = m.take k ∧ wr = w.drewN q) (fun i _ => L - (intOf i).toNat)
    case atStart => exact ⟨0, 0, by omega, rfl, rfl, rfl⟩
    case round =>
      obtain ⟨k, q, hk, rfl, ht, hwr⟩ := hrel
      have HT := Hid.intro ht
      have HWR := Hid.intro hwr
      clear ht hwr
      by_cases hlt : k < L
      · have k0 : (0 : Int) ≤ (k : Int) := by omega
        have k1 : (k : Int) < (L : Int) := by omega
        have hk1 : k < l.length := by rw [← HL.out]; exact hlt
        have hk2 : k < m.length := by rw [HM.out]; exact hlt
        obtain ⟨pa, oa, rfl, _, d1⟩ := C1.out (by omega)
        obtain ⟨pb, ob, rfl, _, d2⟩ := C2.out (by omega)
        obtain ⟨a0, a1, a2, a3⟩ := d1 k hk1
        obtain ⟨b0, b1, b2, b3⟩ := d2 k hk2
        have x0 : wr.cell? ⟨pa, oa + k * 4, none⟩ = some (.int .i64 l[k].tx) := by rw [HWR.out]; exact a0
        have x1 : wr.cell? ⟨pa, oa + k * 4 + 1, none⟩ = some (.int .i64 l[k].ant) := by rw [HWR.out]; exact a1
        have x2 : wr.cell? ⟨pa, oa + k * 4 + 2, none⟩ = some (.int .i64 l[k].rssi) := by rw [HWR.out]; exact a2
        have x3 : wr.cell? ⟨pa, oa + k * 4 + 3, none⟩ = some (.int .i64 l[k].last) := by rw [HWR.out]; exact a3
        have y0 : wr.cell? ⟨pb, ob + k * 4, none⟩ = some (.int .i64 m[k].tx) := by rw [HWR.out]; exact b0
        have y1 : wr.cell? ⟨pb, ob + k * 4 + 1, none⟩ = some (.int .i64 m[k].ant) := by rw [HWR.out]; exact b1
        have y2 : wr.cell? ⟨pb, ob + k * 4 + 2, none⟩ = some (.int .i64 m[k].rssi) := by rw [HWR.out]; exact b2
        have y3 : wr.cell? ⟨pb, ob + k * 4 + 3, none⟩ = some (.int .i64 m[k].last) := by rw [HWR.out]; exact b3
        have se := fun (W : World) => EQ.out l[k].tx l[k].ant l[k].rssi l[k].last m[k].tx m[k].ant m[k].rssi m[k].last W
        rw [sen_beq] at se
        have TK := Hid.intro (fun (e : l[k] = m[k]) => take_ext HT.out hk1 hk2 e)
        have NE : Hid (l[k] ≠ m[k] → rs = false) := fun e => by
          rw [HR.out, decide_eq_false]
          intro q2
          subst q2
          exact e rfl
        have DD : Hid ((decide (l[k] = m[k]) = true → l[k] = m[k]) ∧ (decide (l[k] = m[k]) = false → l[k] ≠ m[k])) := ⟨of_decide_eq_true, of_decide_eq_false⟩
        clear d1 d2 a0 a1 a2 a3 b0 b1 b2 b3
        generalize hdd : decide (l[k] = m[k]) = dd at se DD
        generalize l[k].tx = t1 at x0 se
        generalize l[k].ant = t2 at x1 se
        generalize l[k].rssi = t3 at x2 se
        generalize l[k].last = t4 at x3 se
        generalize m[k].tx = t5 at y0 se
        generalize m[k].ant = t6 at y1 se
        generalize m[k].rssi = t7 at y2 se
        generalize m[k].last = t8 at y3 se
        clear hdd
        cases dd with
        | true =>
          go_wp2_with fail
          go_quiet (fail)
          go_wp2
          go_roundw
          case rel => exact ⟨k + 1, q + nq, by omega, by go_num, TK.out (DD.out.1 trivial), by rw [HWR.out]; simp [World.drewN, Nat.add_assoc]⟩
          case measure => simp [intOf]; omega
        | false =>
          have hrf := NE.out (DD.out.2 rfl)
          subst hrf
          go_wp2_with fail
          go_quiet (fail)
          go_wp2
          go_ret
          exact ⟨rfl, by rw [HWR.out]; exact below_drewN (below_drewN (Below.refl _ w) q) _⟩
      · obtain rfl : k = L := by omega
        have k1 : ¬ (k : Int) < (k : Int) := by omega
        have hrt : rs = true := by
          rw [HR.out, decide_eq_true]
          have := HT.out
          rw [List.take_of_length_le (by rw [← HL.out]; exact Nat.le_refl _), List.take_of_length_le (by rw [HM.out]; exact Nat.le_refl _)] at this
          exact this
        subst hrt
        go_wp2
        go_ret
        exact ⟨rfl, by rw [HWR.out]; exact below_drewN (Below.refl _ w) q⟩
  · have hle : ((l.length : Int) != (m.length : Int)) = true := by simp; omega
    have hrf : rs = false := by
      rw [HR.out, decide_eq_false]
      intro q2
      exact hlen (by rw [q2])
    subst hrf
    clear C1 C2 HR EQ hlen
    generalize l.length = L1 at *
    generalize m.length = L2 at *
    go_enter Tryd.func22, Tryd.ntmps22
    go_wp2
    go_ret
    exact ⟨rfl, Below.refl _ _⟩

end Go.Proofs.YtohedeeajcdjcaaDoor
