/- Package roam: isOf and its closure, slices.IndexFunc, Home. -/
import Derived.Test.YtohedeeajcdjcaaDoorRoK1
namespace Go.Proofs.YtohedeeajcdjcaaDoor
open Go.RowKit
open Bt

/-- The closure that finds a transmitter. -/
abbrev ofF (bt : Nat) : Value := .func (.func 30) #[] #[.pointer (some ⟨bt, 0, none⟩)]

/-- One that is followed, as a value. -/
abbrev Sv (s : Sen) : Value := .agg #[.int .i64 s.tx, .int .i64 s.ant, .int .i64 s.rssi, .int .i64 s.last]

theorem isOf_any (tx : Int) (w : World) :
    Calls Tryd.prog 24 #[.int .i64 tx] w fun e w' => e = .returned (ofF w.heap.size) ∧ w' = w.alloc (.cells #[.int .i64 tx] 3) := by
  go_enter Tryd.func24, Tryd.ntmps24
  go_wp2
  go_ret
  exact ⟨rfl, rfl⟩

theorem isOf1_any (s : Sen) (tx : Int) (bt : Nat) (w : World) (hc : w.cell? ⟨bt, 0, none⟩ = some (.int .i64 tx)) :
    Calls Tryd.prog 30 #[Sv s, .pointer (some ⟨bt, 0, none⟩)] w fun e w' => e = .returned (.bool (decide (s.tx = tx))) ∧ Below w.heap.size w w' := by
  obtain ⟨a, b, c, d⟩ := s
  show Calls Tryd.prog 30 #[.agg #[.int .i64 a, .int .i64 b, .int .i64 c, .int .i64 d], .pointer (some ⟨bt, 0, none⟩)] w fun e w' => e = .returned (.bool (decide (a = tx))) ∧ Below w.heap.size w w'
  have hB : bt < w.heap.size := cell_lt hc
  have hne : bt ≠ w.heap.size := by omega
  have hd : (w.alloc (.cells #[.int .i64 a, .int .i64 b, .int .i64 c, .int .i64 d] 41)).cell? ⟨bt, 0, none⟩ = some (.int .i64 tx) := cell_chg (below_chg ((Below.refl _ w).alloc (Nat.le_refl _) _)) hc id
  have HB := Hid.intro ((Below.refl _ w).alloc (Nat.le_refl _) (.cells #[.int .i64 a, .int .i64 b, .int .i64 c, .int .i64 d] 41))
  go_enter Tryd.func30, Tryd.ntmps30
  go_wp2
  go_ret
  exact ⟨rfl, HB.out⟩

/-- Where one is, as a number; -1: nowhere. -/
def placeT (l : List Sen) (tx : Int) : Int := match findT l tx with
  | some i => (i : Int)
  | none => -1

theorem findT_hit {l : List Sen} {tx : Int} {i : Nat} (hi : i < l.length) (h : l[i].tx = tx) (hn : ∀ j, (hj : j < i) → (l[j]'(Nat.lt_trans hj hi)).tx ≠ tx) : findT l tx = some i := by
  unfold findT
  rw [List.findIdx?_eq_some_iff_getElem]
  exact ⟨hi, by simpa using h, fun j hj => by simpa using hn j hj⟩

theorem findT_miss {l : List Sen} {tx : Int} (hn : ∀ j, (hj : j < l.length) → l[j].tx ≠ tx) : findT l tx = none := by
  unfold findT
  rw [List.findIdx?_eq_none_iff]
  intro s hs
  obtain ⟨j, hj, rfl⟩ := List.getElem_of_mem hs
  simpa using hn j hj

set_option maxRecDepth 100000 in
set_option maxHeartbeats 1000000 in
theorem ifunc_any (g c : Nat) (l : List Sen) (hl : l.length ≤ 100) (tx : Int) (bt : Nat) (w : World) (hc : w.cell? ⟨bt, 0, none⟩ = some (.int .i64 tx))
    (hs : ∀ t, (ht : t < l.length) → w.cell? ⟨g, t * 4, none⟩ = some (.int .i64 l[t].tx) ∧ w.cell? ⟨g, t * 4 + 1, none⟩ = some (.int .i64 l[t].ant) ∧ w.cell? ⟨g, t * 4 + 2, none⟩ = some (.int .i64 l[t].rssi) ∧ w.cell? ⟨g, t * 4 + 3, none⟩ = some (.int .i64 l[t].last)) :
    Calls Tryd.prog 23 #[.slice (some ⟨g, 0, none⟩) l.length c, ofF bt] w fun e w' => e = .returned (.int .i64 (placeT l tx)) ∧ Below w.heap.size w w' := by
  have HS := Hid.intro hs
  have HC := Hid.intro hc
  clear hs hc
  go_enter Tryd.func23, Tryd.ntmps23
  go_wp2_with fail
  go_loopw [8] (fun i ws => ∃ t : Nat, t ≤ l.length ∧ i = .int .i64 t ∧ Below w.heap.size w ws ∧ ∀ j, (hj : j < l.length) → j < t → l[j].tx ≠ tx) (fun i _ => l.length - (intOf i).toNat)
  case atStart => exact ⟨0, by omega, rfl, Below.refl _ w, fun j _ hj => absurd hj (Nat.not_lt_zero _)⟩
  case round =>
    obtain ⟨t, ht, rfl, hB, hno⟩ := hrel
    have HNO := Hid.intro hno
    have BH := Hid.intro hB
    clear hno
    by_cases hlt : t < l.length
    · obtain ⟨q0, q1, q2, q3⟩ := HS.out t hlt
      have hc := HC.out
      have c0 := cell_chg (below_chg hB) q0 id
      have c1 := cell_chg (below_chg hB) q1 id
      have c2 := cell_chg (below_chg hB) q2 id
      have c3 := cell_chg (below_chg hB) q3 id
      have CL := Hid.intro (isOf1_any l[t] tx bt wr (cell_chg (below_chg hB) hc id))
      have HIT := Hid.intro (fun (e : l[t].tx = tx) => findT_hit hlt e (fun j hj => HNO.out j (by omega) hj))
      have t1 : (t : Int) < (l.length : Int) := by omega
      have t0 : (0 : Int) ≤ (t : Int) := by omega
      obtain ⟨s, hs⟩ : ∃ s, s = l[t] := ⟨_, rfl⟩
      have HSS := Hid.intro hs
      rw [← hs] at CL HIT c0 c1 c2 c3
      clear q0 q1 q2 q3 hc hB hs
      by_cases e : s.tx = tx
      · rw [decide_eq_true e] at CL
        have HP : Hid (placeT l tx = (t : Int)) := by unfold placeT; rw [HIT.out e]; rfl
        clear HIT e
        go_wp2_with fail
        refine CL.out.mono ?_
        rintro e w3 ⟨rfl, B3⟩
        have B3w := Hid.intro (BH.out.trans (B3.mono BH.out.size))
        clear CL B3 BH c0 c1 c2 c3
        go_wp2
        go_ret
        exact ⟨by rw [HP.out]; rfl, B3w.out⟩
      · rw [decide_eq_false e] at CL
        have NX : Hid (∀ j, (hj : j < l.length) → j < t + 1 → l[j].tx ≠ tx) := fun j hj h => by
          by_cases q : j < t
          · exact HNO.out j hj q
          · obtain rfl : j = t := by omega
            rw [← HSS.out]; exact e
        clear HIT e
        go_wp2_with fail
        refine CL.out.mono ?_
        rintro e w3 ⟨rfl, B3⟩
        have B3w := Hid.intro (BH.out.trans (B3.mono BH.out.size))
        clear CL B3 BH c0 c1 c2 c3 HNO
        go_wp2
        go_roundw
        case rel => exact ⟨t + 1, by omega, by go_num, B3w.out, NX.out⟩
        case measure => simp [intOf]; omega
    · obtain rfl : t = l.length := by omega
      have k1 : ¬ (l.length : Int) < (l.length : Int) := by omega
      have HP : Hid (placeT l tx = -1) := by
        unfold placeT
        rw [findT_miss (fun j hj => HNO.out j hj hj)]
        rfl
      clear HNO hB
      go_wp2
      go_ret
      exact ⟨by rw [HP.out]; rfl, BH.out⟩

theorem homeA_at {x : Tab} {tx : Int} {i : Nat} (h : findT x.l tx = some i) (hi : i < x.l.length) : homeA x tx = x.l[i].ant ∧ homeB x tx = true := by
  unfold homeA homeB
  rw [h]
  exact ⟨by simp [hi], rfl⟩

theorem homeA_no {x : Tab} {tx : Int} (h : findT x.l tx = none) : homeA x tx = 0 ∧ homeB x tx = false := by
  unfold homeA homeB
  rw [h]
  exact ⟨rfl, rfl⟩

theorem ohome_nil (tx : Int) (w : World) :
    Calls Tryd.prog 13 #[.pointer none, .int .i64 tx] w fun e w' => e = .returned (.tuple #[.int .i64 0, .bool false]) ∧ Below w.heap.size w w' := by
  go_enter Tryd.func13, Tryd.ntmps13
  go_wp2
  go_ret2
  exact ⟨rfl, Below.refl _ _⟩

theorem ifunc_nil (ao : Option Addr) (c : Nat) (v : Value) (w : World) :
    Calls Tryd.prog 23 #[.slice ao 0 c, v] w fun e w' => e = .returned (.int .i64 (-1)) ∧ Below w.heap.size w w' := by
  go_enter Tryd.func23, Tryd.ntmps23
  go_wp2_with fail
  go_loopw [8] (fun i ws => i = .int .i64 0 ∧ Below w.heap.size w ws) (fun _ _ => 0)
  case atStart => exact ⟨rfl, Below.refl _ w⟩
  case round =>
    obtain ⟨rfl, hB⟩ := hrel
    go_wp2
    go_ret
    exact ⟨rfl, hB⟩

/-- IndexFunc over a table's list. -/
theorem TS.find {S : Nat → Prop} {w : World} {b : Nat} {v : Value} {x : Tab} (h : TS S w b v x) (tx : Int) (bt : Nat) (hc : w.cell? ⟨bt, 0, none⟩ = some (.int .i64 tx)) :
    Calls Tryd.prog 23 #[v, ofF bt] w fun e w' => e = .returned (.int .i64 (placeT x.l tx)) ∧ Below w.heap.size w w' := by
  obtain ⟨ao, c, rfl, hf⟩ := h.form
  have hlen := h.ok.few
  have hroom := (mayR_true h.ok.may).2.1
  rcases Nat.eq_zero_or_pos x.l.length with q | q
  · have e : x.l = [] := List.eq_nil_of_length_eq_zero q
    rw [e]
    exact ifunc_nil ao c _ w
  · obtain ⟨g, rfl⟩ := hf.resolve_left (by omega)
    exact ifunc_any g c x.l (by omega) tx bt w hc (fun t ht => h.sen ht)

theorem isOf_of (tx : Int) (w : World) :
    Calls Tryd.prog 24 #[.int .i64 tx] w fun e w' => ∃ bt, e = .returned (ofF bt) ∧ w'.cell? ⟨bt, 0, none⟩ = some (.int .i64 tx) ∧ Below w.heap.size w w' := by
  refine (isOf_any tx w).mono ?_
  rintro e w' ⟨rfl, rfl⟩
  exact ⟨_, rfl, by rw [cell_of_row _ _ 0 _ _ _ (heap_alloc_new w _)]; rfl, (Below.refl _ w).alloc (Nat.le_refl _) _⟩

set_option maxRecDepth 100000 in
set_option maxHeartbeats 1000000 in
theorem ohome_any (b : Nat) (tx : Int) (F : Nat → Prop) (x : Tab) (w : World) (hc : Tabl F w b x) :
    Calls Tryd.prog 13 #[.pointer (some ⟨b, 0, none⟩), .int .i64 tx] w fun e w' => e = .returned (.tuple #[.int .i64 (homeA x tx), .bool (homeB x tx)]) ∧ Below w.heap.size w w' := by
  obtain ⟨v, h⟩ := hc
  have OF := Hid.intro (isOf_of tx w.drew)
  have HH := Hid.intro h
  have c3 := h.cells.2.2.2
  have FI := Hid.intro (fun (W : World) (B : Below w.heap.size w W) (bt : Nat) hc => (h.below B).find tx bt hc)
  have hlen := h.ok.few
  have hroom := (mayR_true h.ok.may).2.1
  cases hf : findT x.l tx with
  | none =>
    have e := homeA_no hf
    rw [show placeT x.l tx = -1 by unfold placeT; rw [hf]] at FI
    rw [e.1, e.2]
    clear e hf h hlen hroom
    go_enter Tryd.func13, Tryd.ntmps13
    go_wp2_with fail
    go_region_held3 (fun w' => w'.cell? ⟨b, 3, none⟩ = some v)
      (first | exact below_cell E2 c3 | exact below_cell E1 c3 | go_keep)
      (first
        | (go_at_call 24; refine OF.out.mono ?_; rintro e w1 ⟨bt, rfl, k1, B1⟩; have E1 : Below w.heap.size w w1 := below_undrew B1; clear B1)
        | (go_at_call 23; refine (FI.out _ E1 bt k1).mono ?_; rintro e w2 ⟨rfl, B2⟩; have E2 := E1.trans (B2.mono E1.size); clear B2))
    all_goals
      clear FI OF k1 E1 c3
      go_wp2
      go_ret2
      exact ⟨rfl, E2⟩
  | some i =>
    obtain ⟨hi, hz1, hz2⟩ := findT_some hf
    clear hz1 hz2
    have e := homeA_at hf hi
    rw [show placeT x.l tx = (i : Int) by unfold placeT; rw [hf]] at FI
    rw [e.1, e.2]
    obtain ⟨ao, c, rfl, hfm⟩ := h.form
    obtain ⟨g, rfl⟩ := hfm.resolve_left (by omega)
    have q1 := (h.sen hi).2.1
    have i1 : (i : Int) < (x.l.length : Int) := by omega
    have i0 : (0 : Int) ≤ (i : Int) := by omega
    generalize x.l[i].ant = an at q1 ⊢
    clear e hf h HH hfm
    generalize x.l.length = L at *
    go_enter Tryd.func13, Tryd.ntmps13
    go_wp2_with fail
    go_region_held3 (fun w' => w'.cell? ⟨b, 3, none⟩ = some (.slice (some ⟨g, 0, none⟩) L c))
      (first | exact below_cell E2 c3 | exact below_cell E1 c3 | go_keep)
      (first
        | (go_at_call 24; refine OF.out.mono ?_; rintro e w1 ⟨bt, rfl, k1, B1⟩; have E1 : Below w.heap.size w w1 := below_undrew B1; clear B1)
        | (go_at_call 23; refine (FI.out _ E1 bt k1).mono ?_; rintro e w2 ⟨rfl, B2⟩; have E2 := E1.trans (B2.mono E1.size); clear B2))
    all_goals
      have d3 := below_cell E2 c3
      have d1 := below_cell E2 q1
      clear FI OF k1 E1 c3 q1
      go_wp2
      go_ret2
      exact ⟨rfl, E2⟩

end Go.Proofs.YtohedeeajcdjcaaDoor
