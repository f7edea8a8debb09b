/- Package edf: Drop's closure, slices.IndexFunc, slices.DeleteFunc of a line. -/
import Derived.Test.YtgcpkploeobafaaEdK9
namespace Go.Proofs.Ytgcpkploeobafaa
open Go.RowKit
open Bt

/-- The closure that finds a bed's jobs. -/
abbrev delF (bt : Nat) : Value := .func (.func 28) #[] #[.pointer (some ⟨bt, 0, none⟩)]

/-- Is it the bed's? -/
def isBd (bed : Int) (a : It) : Bool := decide (a.job.bed = bed)

theorem eclo_any (a : It) (bed : Int) (bt : Nat) (w : World) (hc : w.cell? ⟨bt, 0, none⟩ = some (.int .i64 bed)) :
    Calls Try.prog 28 #[Wv a, .pointer (some ⟨bt, 0, none⟩)] w fun e w' => e = .returned (.bool (isBd bed a)) ∧ Below w.heap.size w w' := by
  obtain ⟨⟨a0, a1, a2, a3, a4, a5, a6⟩, na⟩ := a
  show Calls Try.prog 28 #[.agg #[.int .i64 a0, .int .i64 a1, .int .i64 a2, .int .i64 a3, .int .i64 a4, .int .i64 a5, .int .i64 a6, .int .i64 (na : Int)], .pointer (some ⟨bt, 0, none⟩)] w fun e w' => e = .returned (.bool (decide (a0 = bed))) ∧ Below w.heap.size w w'
  have hB : bt < w.heap.size := cell_lt hc
  have hne : bt ≠ w.heap.size := by omega
  have hd : (w.alloc (.cells #[.int .i64 a0, .int .i64 a1, .int .i64 a2, .int .i64 a3, .int .i64 a4, .int .i64 a5, .int .i64 a6, .int .i64 (na : Int)] 56)).cell? ⟨bt, 0, none⟩ = some (.int .i64 bed) := cell_chg (below_chg ((Below.refl _ w).alloc (Nat.le_refl _) _)) hc id
  have HB := Hid.intro ((Below.refl _ w).alloc (Nat.le_refl _) (.cells #[.int .i64 a0, .int .i64 a1, .int .i64 a2, .int .i64 a3, .int .i64 a4, .int .i64 a5, .int .i64 a6, .int .i64 (na : Int)] 56))
  go_enter Try.func28, Try.ntmps28
  go_wp2
  go_ret
  exact ⟨rfl, HB.out⟩

/-- Where the first of them is; -1: nowhere. -/
def posW (l : List It) (bed : Int) : Int := match l.findIdx? (isBd bed) with
  | some i => (i : Int)
  | none => -1

theorem posW_hit {l : List It} {bed : Int} {i : Nat} (hi : i < l.length) (h : isBd bed l[i] = true) (hn : ∀ j, (hj : j < i) → isBd bed (l[j]'(Nat.lt_trans hj hi)) = false) : posW l bed = (i : Int) := by
  have e : l.findIdx? (isBd bed) = some i := by
    rw [List.findIdx?_eq_some_iff_getElem]
    exact ⟨hi, h, fun j hj => by rw [hn j hj]; simp⟩
  unfold posW
  rw [e]

theorem posW_miss {l : List It} {bed : Int} (hn : ∀ j, (hj : j < l.length) → isBd bed l[j] = false) : posW l bed = -1 := by
  have e : l.findIdx? (isBd bed) = none := by
    rw [List.findIdx?_eq_none_iff]
    intro s hs
    obtain ⟨j, hj, rfl⟩ := List.getElem_of_mem hs
    exact hn j hj
  unfold posW
  rw [e]

theorem posW_all {l : List It} {bed : Int} : (posW l bed = -1 ∧ ∀ a ∈ l, isBd bed a = false) ∨ ∃ i : Nat, ∃ hi : i < l.length, posW l bed = (i : Int) ∧ isBd bed l[i] = true ∧ ∀ a ∈ l.take i, isBd bed a = false := by
  unfold posW
  cases q : l.findIdx? (isBd bed) with
  | none => exact .inl ⟨rfl, by rw [List.findIdx?_eq_none_iff] at q; exact q⟩
  | some i =>
    rw [List.findIdx?_eq_some_iff_getElem] at q
    obtain ⟨hi, h1, h2⟩ := q
    refine .inr ⟨i, hi, rfl, h1, fun a ha => ?_⟩
    obtain ⟨j, hj, rfl⟩ := List.getElem_of_mem ha
    have hj' : j < i := by rw [List.length_take] at hj; omega
    rw [List.getElem_take]
    have := h2 j hj'
    simpa using this

set_option maxRecDepth 100000 in
set_option maxHeartbeats 1000000 in
theorem wifunc_any (g c : Nat) (l : List It) (hl : l.length ≤ 100) (bed : Int) (bt : Nat) (w : World) (hc : w.cell? ⟨bt, 0, none⟩ = some (.int .i64 bed))
    (own : w.ownsRow 0 56 8 (.slice (some ⟨g, 0, none⟩) l.length c) l.length (wcells l)) :
    Calls Try.prog 35 #[.slice (some ⟨g, 0, none⟩) l.length c, delF bt] w fun e w' => e = .returned (.int .i64 (posW l bed)) ∧ Below w.heap.size w w' := by
  have HS := Hid.intro (fun t (ht : t < l.length) => wt_of_owns own ht)
  have HC := Hid.intro hc
  obtain ⟨P, hP⟩ : ∃ P, P = posW l bed := ⟨_, rfl⟩
  have HQ := Hid.intro hP
  rw [← hP]
  clear own hc hP
  go_enter Try.func35, Try.ntmps35
  go_wp2_with fail
  go_loopw [8] (fun i ws => ∃ t : Nat, t ≤ l.length ∧ i = .int .i64 t ∧ Below w.heap.size w ws ∧ ∀ j, (hj : j < l.length) → j < t → isBd bed l[j] = false) (fun i _ => l.length - (intOf i).toNat)
  case atStart => exact ⟨0, by omega, rfl, Below.refl _ w, fun j _ hj => absurd hj (Nat.not_lt_zero _)⟩
  case round =>
    obtain ⟨t, ht, rfl, hB, hno⟩ := hrel
    have HNO := Hid.intro hno
    have BH := Hid.intro hB
    clear hno
    by_cases hlt : t < l.length
    · obtain ⟨c0, c1, c2, c3, c4, c5, c6, c7⟩ := (HS.out t hlt).chg (below_chg hB) id
      have CL := Hid.intro (eclo_any l[t] bed bt wr (cell_chg (below_chg hB) HC.out id))
      have HIT := Hid.intro (fun (e : isBd bed l[t] = true) => posW_hit hlt e (fun j hj => HNO.out j (by omega) hj))
      have NXT := Hid.intro (fun (e : isBd bed l[t] = false) j (hj : j < l.length) (h : j < t + 1) => (show isBd bed l[j] = false from by
        by_cases q : j < t
        · exact HNO.out j hj q
        · obtain rfl : j = t := by omega
          exact e))
      have t1 : (t : Int) < (l.length : Int) := by omega
      have t0 : (0 : Int) ≤ (t : Int) := by omega
      generalize isBd bed l[t] = r at *
      generalize l[t] = s at *
      obtain ⟨⟨a0, a1, a2, a3, a4, a5, a6⟩, na⟩ := s
      simp only at c0 c1 c2 c3 c4 c5 c6 c7
      clear hB
      cases r with
      | true =>
        have HP : Hid (P = (t : Int)) := by rw [Hid, HQ.out]; exact HIT.out rfl
        clear HIT NXT
        go_wp2_with fail
        refine CL.out.mono ?_
        rintro e w3 ⟨rfl, B3⟩
        have B3w := Hid.intro (BH.out.trans (B3.mono BH.out.size))
        clear CL B3 BH c0 c1 c2 c3 c4 c5 c6 c7
        go_wp2
        go_ret
        exact ⟨by rw [HP.out]; rfl, B3w.out⟩
      | false =>
        have NX := Hid.intro (NXT.out rfl)
        clear HIT NXT
        go_wp2_with fail
        refine CL.out.mono ?_
        rintro e w3 ⟨rfl, B3⟩
        have B3w := Hid.intro (BH.out.trans (B3.mono BH.out.size))
        clear CL B3 BH c0 c1 c2 c3 c4 c5 c6 c7 HNO
        go_wp2
        go_roundw
        case rel => exact ⟨t + 1, by omega, by go_num, B3w.out, NX.out⟩
        case measure => simp [intOf]; omega
    · obtain rfl : t = l.length := by omega
      have t1 : ¬ (l.length : Int) < (l.length : Int) := by omega
      have HP : Hid (P = -1) := by rw [Hid, HQ.out]; exact posW_miss (fun j hj => HNO.out j hj hj)
      go_wp2
      go_ret
      exact ⟨by rw [HP.out]; rfl, BH.out⟩

/-- Cells written from a place on: what lies ahead stays. -/
theorem owns_setCells {g c n : Nat} : ∀ (vs : List Value) (o : Nat) (w : World) (xs : List Value), w.ownsRow 0 56 8 (.slice (some ⟨g, 0, none⟩) n c) n xs → ∀ o0, o0 ≤ o → ∃ xs', (w.setCells g o vs).ownsRow 0 56 8 (.slice (some ⟨g, 0, none⟩) n c) n xs' ∧ xs'.take o0 = xs.take o0
  | [], _, _, xs, h, _, _ => ⟨xs, h, rfl⟩
  | v :: vs, o, w, xs, h, o0, ho => by
    obtain ⟨xs', h1, h2⟩ := owns_setCells vs (o + 1) (w.setCell ⟨g, o, none⟩ v) (xs.set o v) (World.ownsRow.stored h o v).1 o0 (by omega)
    refine ⟨xs', h1, ?_⟩
    rw [h2, List.take_set_of_le ho]

theorem chg_setCellsW {g : Nat} : ∀ (vs : List Value) (o : Nat) (w : World), Chg (fun k => k = g) w (w.setCells g o vs)
  | [], _, w => Chg.refl _ w
  | v :: vs, o, w => ((Chg.refl (fun k => k = g) w).setCell (p := ⟨g, o, none⟩) (fun _ => rfl) v).trans (chg_setCellsW vs (o + 1) _) (fun _ q _ => q)

/-- The first ones of a row alone. -/
theorem owns_cut {w : World} {g c n i : Nat} {xs : List Value} {l : List It} (h : w.ownsRow 0 56 8 (.slice (some ⟨g, 0, none⟩) n c) n xs) (hi : i ≤ n) (hl : l.length = i) (hx : xs.take (i * 8) = wcells l) : w.ownsRow 0 56 8 (.slice (some ⟨g, 0, none⟩) i c) i (wcells l) := by
  refine ⟨by rw [wcells_length, hl], ?_⟩
  rcases h.2 with ⟨hv, _⟩ | ⟨g', cap, cur, hv, hb, hg, hn, hm, hs, ht⟩
  · cases hv
  · simp only [Value.slice.injEq, Option.some.injEq, Addr.mk.injEq] at hv
    obtain ⟨⟨rfl, _, _⟩, _, rfl⟩ := hv
    refine .inr ⟨g, c, cur, rfl, hb, hg, by omega, hm, hs, ?_⟩
    rw [← hx, ← ht, List.take_take, Nat.min_eq_left (by omega)]

/-- The cells of so many zero ones. -/
def zerosW (n : Nat) : List Value := (Builtin.zeroCells #[.int .i64 0, .int .i64 0, .int .i64 0, .int .i64 0, .int .i64 0, .int .i64 0, .int .i64 0, .int .i64 0] n).toList

theorem zerosW_length (n : Nat) : (zerosW n).length = n * 8 := by simp [zerosW, Builtin.zeroCells]

theorem zerosW_one (n : Nat) : ∀ v ∈ zerosW n, v.oneCell' = true := by
  intro v hv
  simp only [zerosW, Builtin.zeroCells, Array.toList_map, Array.toList_range, List.mem_map, List.mem_range] at hv
  obtain ⟨i, _, rfl⟩ := hv
  have h8 : i % 8 < 8 := Nat.mod_lt _ (by decide)
  show Value.oneCell' (#[.int .i64 0, .int .i64 0, .int .i64 0, .int .i64 0, .int .i64 0, .int .i64 0, .int .i64 0, .int .i64 0][i % 8]!) = true
  generalize i % 8 = r at h8
  match r, h8 with
  | 0, _ => rfl
  | 1, _ => rfl
  | 2, _ => rfl
  | 3, _ => rfl
  | 4, _ => rfl
  | 5, _ => rfl
  | 6, _ => rfl
  | 7, _ => rfl

theorem run_clear_wait (w : World) (g o n c : Nat) (ty : TypeId) (hn : 0 < n) (hc : ∀ j, j < n * 8 → (w.cell? ⟨g, o + j, none⟩).isSome = true) (hf : ∀ j, w.frozen? ⟨g, j, none⟩ = false) :
    (Builtin.clear_ #[51] ty #[.slice (some ⟨g, o, none⟩) n c]).run Try.prog w = .ok (.tuple #[]) (w.setCells g o (zerosW n)) := by
  have hst := run_storeCells_cells (P := Try.prog) g o (zerosW n) 0 w (fun j hj => by rw [Nat.add_zero]; exact hc j (by rw [zerosW_length] at hj; exact hj)) (fun j _ => hf _) (zerosW_one n)
  simp only [Nat.add_zero] at hst
  obtain ⟨m, rfl⟩ : ∃ m, n = m + 1 := ⟨n - 1, by omega⟩
  simp [Builtin.clear_, run_underlying Try.underlying51, Value.cells, zerosW] at hst ⊢
  simp [hst]

end Go.Proofs.Ytgcpkploeobafaa
