/- Package roam: a table in memory; within, May, New, mayBeHeard. -/
import Derived.Test.YtohedeeajcdjcaaDoorRoMem
import Derived.Test.YtohedeeajcdjcaaDoorFrmP
namespace Go.Proofs.YtohedeeajcdjcaaDoor
open Go.RowKit
open Bt

/-- A table: its own block, and its list's. -/
structure TS (S : Nat → Prop) (w : World) (b : Nat) (v : Value) (x : Tab) : Prop where
  head : w.heap[b]? = some (.cells #[.int .i64 (x.room : Int), .int .i64 (x.age : Int), .int .i64 (x.margin : Int), v] 53 (0, 0))
  own : w.ownsRow 0 41 4 v x.l.length (scells x.l)
  inB : S b
  inV : ∀ k, v.ownBlock = some k → S k ∧ k ≠ b
  lt : ∀ k, S k → k < w.heap.size
  ok : x.Ok

def Tabl (S : Nat → Prop) (w : World) (b : Nat) (x : Tab) : Prop := ∃ v, TS S w b v x

variable {S : Nat → Prop} {w w' : World} {b : Nat} {v : Value} {x : Tab}

theorem TS.kept {T : Nat → Prop} (h : TS S w b v x) (hc : Chg T w w') (hT : ∀ k, S k → ¬ T k) : TS S w' b v x :=
  ⟨(hc.block b (h.lt b h.inB) (hT b h.inB)).trans h.head, ownsRow_keep h.own fun k hk => hc.block k (World.ownsRow.lt h.own k hk).2 (hT k (h.inV k hk).1),
    h.inB, h.inV, fun k hk => Nat.lt_of_lt_of_le (h.lt k hk) hc.size, h.ok⟩

theorem TS.below (h : TS S w b v x) (hb : Below w.heap.size w w') : TS S w' b v x := h.kept (below_chg hb) (fun _ _ => id)

theorem Tabl.ok (h : Tabl S w b x) : x.Ok := by
  obtain ⟨v, h⟩ := h
  exact h.ok

theorem Tabl.lt (h : Tabl S w b x) : ∀ k, S k → k < w.heap.size := by
  obtain ⟨v, h⟩ := h
  exact h.lt

theorem Tabl.kept {T : Nat → Prop} (h : Tabl S w b x) (hc : Chg T w w') (hT : ∀ k, S k → ¬ T k) : Tabl S w' b x := by
  obtain ⟨v, h⟩ := h
  exact ⟨v, h.kept hc hT⟩

/-- What a call leaves: but for the table's own blocks, and new ones, all as it was. -/
def LeftT (S : Nat → Prop) (w w' : World) (b : Nat) (x : Tab) : Prop := ∃ S', Tabl S' w' b x ∧ Chg S w w' ∧ ∀ k, S' k → S k ∨ w.heap.size ≤ k

theorem LeftT.same (h : TS S w b v x) (hb : Below w.heap.size w w') : LeftT S w w' b x :=
  ⟨S, ⟨v, h.below hb⟩, (below_chg hb).mono (fun _ q _ => q.elim), fun _ q => .inl q⟩

theorem LeftT.over {w5 : World} (h : LeftT S w5 w' b x) (hb : Below w.heap.size w w5) : LeftT S w w' b x := by
  obtain ⟨S', h1, h2, h3⟩ := h
  refine ⟨S', h1, ((below_chg hb).mono (fun _ q _ => q.elim)).trans h2 (fun _ q _ => q), fun k hk => ?_⟩
  have := hb.size
  rcases h3 k hk with q | q
  · exact .inl q
  · exact .inr (by omega)

theorem TS.cells (h : TS S w b v x) : w.cell? ⟨b, 0, none⟩ = some (.int .i64 (x.room : Int)) ∧ w.cell? ⟨b, 1, none⟩ = some (.int .i64 (x.age : Int)) ∧ w.cell? ⟨b, 2, none⟩ = some (.int .i64 (x.margin : Int)) ∧ w.cell? ⟨b, 3, none⟩ = some v :=
  ⟨by rw [cell_of_row w _ 0 _ _ _ h.head]; rfl, by rw [cell_of_row w _ 1 _ _ _ h.head]; rfl, by rw [cell_of_row w _ 2 _ _ _ h.head]; rfl, by rw [cell_of_row w _ 3 _ _ _ h.head]; rfl⟩

theorem TS.form (h : TS S w b v x) : ∃ ao c, v = .slice ao x.l.length c ∧ (x.l.length = 0 ∨ ∃ g, ao = some ⟨g, 0, none⟩) := ownsRow_form h.own

theorem TS.sen {g c : Nat} (h : TS S w b (.slice (some ⟨g, 0, none⟩) x.l.length c) x) {i : Nat} (hi : i < x.l.length) : w.cell? ⟨g, i * 4, none⟩ = some (.int .i64 x.l[i].tx) ∧ w.cell? ⟨g, i * 4 + 1, none⟩ = some (.int .i64 x.l[i].ant) ∧ w.cell? ⟨g, i * 4 + 2, none⟩ = some (.int .i64 x.l[i].rssi) ∧ w.cell? ⟨g, i * 4 + 3, none⟩ = some (.int .i64 x.l[i].last) := by
  have hl := scells_length x.l
  have q : ∀ j, j < 4 → w.cell? ⟨g, i * 4 + j, none⟩ = (scell x.l[i])[j]? := fun j hj => by
    rw [h.own.cellAt (i * 4 + j) (by omega)]
    exact scells_at x.l hi hj
  exact ⟨q 0 (by omega), q 1 (by omega), q 2 (by omega), q 3 (by omega)⟩

/-- Is a number within two others? -/
def inR (n f t : Int) : Bool := decide (f ≤ n) && decide (n ≤ t)

theorem owithin_any (n f t : Int) (w : World) :
    Calls Tryd.prog 25 #[.int .i64 n, .int .i64 f, .int .i64 t] w fun e w' => e = .returned (.bool (inR n f t)) ∧ w = w' := by
  by_cases h1 : f ≤ n
  · by_cases h2 : n ≤ t
    · have e : inR n f t = true := by simp [inR, h1, h2]
      rw [e]
      clear e
      go_enter Tryd.func25, Tryd.ntmps25
      go_wp2
      go_ret
      exact ⟨rfl, rfl⟩
    · have e : inR n f t = false := by simp [inR]; omega
      rw [e]
      clear e
      go_enter Tryd.func25, Tryd.ntmps25
      go_wp2
      go_ret
      exact ⟨rfl, rfl⟩
  · have e : inR n f t = false := by simp [inR]; omega
    rw [e]
    clear e
    go_enter Tryd.func25, Tryd.ntmps25
    go_wp2
    go_ret
    exact ⟨rfl, rfl⟩

theorem mayR_in (r a m : Int) : mayR r a m = (inR r 1 8 && (inR a 1 1000 && inR m 0 127)) := by
  unfold mayR inR
  simp only [Bool.and_assoc]

set_option maxRecDepth 100000 in
set_option maxHeartbeats 1000000 in
theorem omay_any (r a m : Int) (w : World) :
    Calls Tryd.prog 14 #[Rm r a m] w fun e w' => e = .returned (.bool (mayR r a m)) ∧ Below w.heap.size w w' := by
  rw [mayR_in]
  have H1 := Hid.intro (owithin_any r 1 8)
  have H2 := Hid.intro (owithin_any a 1 1000)
  have H3 := Hid.intro (owithin_any m 0 127)
  have HB := Hid.intro ((Below.refl _ w).alloc (Nat.le_refl _) (.cells #[.int .i64 r, .int .i64 a, .int .i64 m] 23))
  rcases e1 : inR r 1 8 with _ | _
  · rw [e1] at H1
    clear e1
    go_enter Tryd.func14, Tryd.ntmps14
    go_wp2_with fail
    refine (H1.out _).mono ?_
    rintro e w1 ⟨rfl, rfl⟩
    clear H1
    go_wp2
    go_ret
    exact ⟨rfl, HB.out⟩
  · rw [e1] at H1
    clear e1
    rcases e2 : inR a 1 1000 with _ | _
    · rw [e2] at H2
      clear e2
      go_enter Tryd.func14, Tryd.ntmps14
      go_wp2_with fail
      refine (H1.out _).mono ?_
      rintro e w1 ⟨rfl, rfl⟩
      clear H1
      go_wp2_with fail
      refine (H2.out _).mono ?_
      rintro e w1 ⟨rfl, rfl⟩
      clear H2
      go_wp2
      go_ret
      exact ⟨rfl, HB.out⟩
    · rw [e2] at H2
      clear e2
      generalize inR m 0 127 = r3 at H3 ⊢
      go_enter Tryd.func14, Tryd.ntmps14
      go_wp2_with fail
      refine (H1.out _).mono ?_
      rintro e w1 ⟨rfl, rfl⟩
      clear H1
      go_wp2_with fail
      refine (H2.out _).mono ?_
      rintro e w1 ⟨rfl, rfl⟩
      clear H2
      go_wp2_with fail
      refine (H3.out _).mono ?_
      rintro e w1 ⟨rfl, rfl⟩
      clear H3
      go_wp2
      go_ret
      exact ⟨rfl, HB.out⟩

theorem onew_no (r a m : Int) (h : mayR r a m = false) (w : World) :
    Calls Tryd.prog 11 #[Rm r a m] w fun e w' => e = .returned (.pointer none) ∧ Below w.heap.size w w' := by
  have B0H := Hid.intro ((Below.refl _ w).alloc (Nat.le_refl _) (.cells #[.int .i64 r, .int .i64 a, .int .i64 m] 23))
  have MA := Hid.intro (omay_any r a m (w.alloc (.cells #[.int .i64 r, .int .i64 a, .int .i64 m] 23)))
  rw [h] at MA
  clear h
  go_enter Tryd.func11, Tryd.ntmps11
  go_wp2_with fail
  refine MA.out.mono ?_
  rintro e w1 ⟨rfl, B1⟩
  have BB := Hid.intro (B0H.out.trans (B1.mono B0H.out.size))
  clear B1 MA
  go_wp2
  go_ret
  exact ⟨rfl, BB.out⟩

theorem tabl_new {r a m : Nat} (h : mayR r a m = true) (w2 : World) :
    Tabl (fun k => k = w2.heap.size) (w2.alloc (.cells #[.int .i64 (r : Int), .int .i64 (a : Int), .int .i64 (m : Int), .slice none 0 0] 53)) w2.heap.size (tab0 r a m) := by
  refine ⟨.slice none 0 0, heap_alloc_new _ _, World.ownsRow_nil _ _ _ _, rfl, fun k hk => by simp [Value.ownBlock] at hk, fun k hk => ?_, tab0_ok h⟩
  rw [hk]
  simp

theorem onew_yes (r a m : Nat) (h : mayR r a m = true) (w : World) :
    Calls Tryd.prog 11 #[Rm r a m] w fun e w' => ∃ b F, e = .returned (.pointer (some ⟨b, 0, none⟩)) ∧ Tabl F w' b (tab0 r a m) ∧ (∀ k, F k → w.heap.size ≤ k) ∧ Below w.heap.size w w' := by
  have B0 := (Below.refl _ w).alloc (Nat.le_refl _) (.cells #[.int .i64 (r : Int), .int .i64 (a : Int), .int .i64 (m : Int)] 23)
  have g0 := heap_alloc_new w (.cells #[.int .i64 (r : Int), .int .i64 (a : Int), .int .i64 (m : Int)] 23)
  have B0H := Hid.intro B0
  have G0 := Hid.intro g0
  have MA := Hid.intro (omay_any r a m (w.alloc (.cells #[.int .i64 (r : Int), .int .i64 (a : Int), .int .i64 (m : Int)] 23)))
  have FIN := Hid.intro (fun (w2 : World) => tabl_new h w2)
  have hsz := World.size_alloc w (.cells #[.int .i64 (r : Int), .int .i64 (a : Int), .int .i64 (m : Int)] 23)
  rw [h] at MA
  clear B0 g0 h
  go_enter Tryd.func11, Tryd.ntmps11
  go_wp2_with fail
  refine MA.out.mono ?_
  rintro e w2 ⟨rfl, B2⟩
  have G2 := Hid.intro ((B2.block w.heap.size (by omega)).trans G0.out)
  have BC := Hid.intro (B0H.out.trans (B2.mono B0H.out.size))
  clear B2 MA G0
  have c0 : w2.cell? ⟨w.heap.size, 0, none⟩ = some (.int .i64 (r : Int)) := by rw [cell_of_row _ _ 0 _ _ _ G2.out]; rfl
  have c1 : w2.cell? ⟨w.heap.size, 1, none⟩ = some (.int .i64 (a : Int)) := by rw [cell_of_row _ _ 1 _ _ _ G2.out]; rfl
  have c2 : w2.cell? ⟨w.heap.size, 2, none⟩ = some (.int .i64 (m : Int)) := by rw [cell_of_row _ _ 2 _ _ _ G2.out]; rfl
  go_wp2
  go_ret
  exact ⟨_, _, rfl, FIN.out _, fun k hk => by rw [hk]; exact BC.out.size, BC.out.alloc BC.out.size _⟩

theorem omayBe_any (tx ant rssi : Int) (w : World) (hw : Wid w) :
    Calls Tryd.prog 26 #[.int .i64 tx, .int .i64 ant, .int .i64 rssi] w fun e w' => e = .returned (.bool (isRx tx ant rssi)) ∧ Below w.heap.size w w' := by
  have RH := Hid.intro (right_any tx 0 ant rssi 0 none 0 0 w hw)
  rw [show isFrm tx 0 ant rssi 0 0 = isRx tx ant rssi from rfl] at RH
  generalize isRx tx ant rssi = r at RH ⊢
  clear hw
  go_enter Tryd.func26, Tryd.ntmps26
  go_wp2_with fail
  refine RH.out.mono ?_
  rintro e w1 ⟨rfl, B1⟩
  clear RH
  go_wp2
  go_ret
  exact ⟨rfl, B1⟩

end Go.Proofs.YtohedeeajcdjcaaDoor
