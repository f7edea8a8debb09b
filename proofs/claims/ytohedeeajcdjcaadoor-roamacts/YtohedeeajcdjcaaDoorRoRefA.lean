/- The document's own table of layer 9 in memory, and its Home. -/
import Derived.Test.YtohedeeajcdjcaaDoorRoInts
namespace Go.Proofs.YtohedeeajcdjcaaDoor
open Go.RowKit
open Bt

/-- The document's table at rb; what it lists lies in R. -/
def RT (R : Nat → Prop) (w : World) (rb : Nat) (x : Tab) : Prop :=
  w.cell? ⟨rb, 0, none⟩ = some (.int .i64 (x.room : Int)) ∧ w.cell? ⟨rb, 1, none⟩ = some (.int .i64 (x.age : Int)) ∧ w.cell? ⟨rb, 2, none⟩ = some (.int .i64 (x.margin : Int)) ∧ ∃ v, w.cell? ⟨rb, 3, none⟩ = some v ∧ SensAt R w v x.l

theorem RT.below {R : Nat → Prop} {w w' : World} {rb : Nat} {x : Tab} (h : RT R w rb x) (hb : Below w.heap.size w w') : RT R w' rb x := by
  obtain ⟨h0, h1, h2, v, h3, h4⟩ := h
  exact ⟨(hb.cell (cell_lt h0)).trans h0, (hb.cell (cell_lt h1)).trans h1, (hb.cell (cell_lt h2)).trans h2, v, (hb.cell (cell_lt h3)).trans h3, h4.below hb⟩

theorem find_at {l : List Sen} {tx : Int} {k : Nat} (hk : k < l.length) (h : ∀ j, (hj : j < l.length) → j < k → l[j].tx ≠ tx) (e : l[k].tx = tx) : findT l tx = some k := by
  unfold findT
  rw [List.findIdx?_eq_some_iff_getElem]
  exact ⟨hk, by simpa using e, fun j hj => by simpa using h j (Nat.lt_trans hj hk) hj⟩

theorem find_no {l : List Sen} {tx : Int} (h : ∀ j, (hj : j < l.length) → l[j].tx ≠ tx) : findT l tx = none := by
  unfold findT
  rw [List.findIdx?_eq_none_iff]
  intro s hs
  obtain ⟨j, hj, rfl⟩ := List.getElem_of_mem hs
  simpa using h j hj

theorem home_at {x : Tab} {tx : Int} {k : Nat} (hk : k < x.l.length) (h : ∀ j, (hj : j < x.l.length) → j < k → x.l[j].tx ≠ tx) (e : x.l[k].tx = tx) : homeA x tx = x.l[k].ant ∧ homeB x tx = true := by
  have hf := find_at hk h e
  unfold homeA homeB
  rw [hf]
  refine ⟨?_, rfl⟩
  show (x.l.getD k ⟨0, 0, 0, 0⟩).ant = _
  simp [hk]

theorem home_no {x : Tab} {tx : Int} (h : ∀ j, (hj : j < x.l.length) → x.l[j].tx ≠ tx) : homeA x tx = 0 ∧ homeB x tx = false := by
  have hf := find_no h
  unfold homeA homeB
  rw [hf]
  exact ⟨rfl, rfl⟩

set_option maxRecDepth 100000 in
set_option maxHeartbeats 1000000 in
theorem refHome_any (R : Nat → Prop) (rb : Nat) (x : Tab) (tx : Int) (hl : x.l.length ≤ 1000) (w : World) (h : RT R w rb x) :
    Calls Tryd.prog 21 #[.pointer (some ⟨rb, 0, none⟩), .int .i64 tx] w fun e w' => e = .returned (.tuple #[.int .i64 (homeA x tx), .bool (homeB x tx)]) ∧ Below w.heap.size w w' := by
  obtain ⟨_, _, _, v, h3, ao, cap, rfl, hc⟩ := h
  have HC := Hid.intro hc
  have H3 := Hid.intro h3
  obtain ⟨L, hL⟩ : ∃ L, L = x.l.length := ⟨_, rfl⟩
  have HL := Hid.intro hL
  obtain ⟨hA, ehA⟩ : ∃ hA, hA = homeA x tx := ⟨_, rfl⟩
  obtain ⟨hB, ehB⟩ : ∃ hB, hB = homeB x tx := ⟨_, rfl⟩
  have EA := Hid.intro ehA
  have EB := Hid.intro ehB
  rw [← ehA, ← ehB]
  rw [← hL] at hl H3
  clear hc h3 hL ehA ehB
  go_enter Tryd.func21, Tryd.ntmps21
  go_wp2_with fail
  go_loopw [6] (fun i wr => ∃ k : Nat, k ≤ L ∧ i = .int .i64 k ∧ (∀ j, (hj : j < x.l.length) → j < k → x.l[j].tx ≠ tx) ∧ Below w.heap.size w wr) (fun i _ => L - (intOf i).toNat)
  case atStart => exact ⟨0, by omega, rfl, fun j _ hj => by omega, Below.refl _ _⟩
  case round =>
    obtain ⟨k, hk, rfl, hN, hB0⟩ := hrel
    have HN := Hid.intro hN
    have HB0 := Hid.intro hB0
    have c3 := (hB0.cell (cell_lt H3.out)).trans H3.out
    clear hN hB0
    by_cases hlt : k < L
    · have k0 : (0 : Int) ≤ (k : Int) := by omega
      have k1 : (k : Int) < (L : Int) := by omega
      have hk1 : k < x.l.length := by rw [← HL.out]; exact hlt
      obtain ⟨pb, po, rfl, _, hq⟩ := HC.out (by omega)
      have q0 := (HB0.out.cell (cell_lt (hq k hk1).1)).trans (hq k hk1).1
      have q1 := (HB0.out.cell (cell_lt (hq k hk1).2.1)).trans (hq k hk1).2.1
      have YES : Hid (x.l[k].tx = tx → hA = x.l[k].ant ∧ hB = true) := fun e => by rw [EA.out, EB.out]; exact home_at hk1 HN.out e
      have NO : Hid (x.l[k].tx ≠ tx → ∀ j, (hj : j < x.l.length) → j < k + 1 → x.l[j].tx ≠ tx) := fun e j hj hj2 => by
        by_cases q : j < k
        · exact HN.out j hj q
        · obtain rfl : j = k := by omega
          exact e
      generalize x.l[k].tx = t0 at q0 YES NO
      generalize x.l[k].ant = t1 at q1 YES
      clear hq
      by_cases e : t0 = tx
      · obtain ⟨rfl, rfl⟩ := YES.out e
        subst e
        go_wp2
        go_ret2
        exact ⟨rfl, HB0.out⟩
      · have N2 := Hid.intro (NO.out e)
        go_wp2
        go_roundw
        case rel => exact ⟨k + 1, by omega, by go_num, N2.out, HB0.out⟩
        case measure => simp [intOf]; omega
    · have k1 : ¬ (k : Int) < (L : Int) := by omega
      obtain ⟨e1, e2⟩ := home_no (x := x) (tx := tx) (fun j hj => HN.out j hj (by have := HL.out; omega))
      have e3 : hA = 0 := by rw [EA.out]; exact e1
      have e4 : hB = false := by rw [EB.out]; exact e2
      subst e3 e4
      clear e1 e2
      go_wp2
      go_ret2
      exact ⟨rfl, HB0.out⟩

end Go.Proofs.YtohedeeajcdjcaaDoor
