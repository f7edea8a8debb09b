/- Package watch: Remove's closure, slices.IndexFunc, slices.DeleteFunc, Remove. -/
import Derived.Test.YtngfgahdiobcmaaWtK3
namespace Go.Proofs.Ytngfgahdiobcmaa
open Go.RowKit
open Bt

/-- The closure that finds a bed's jobs. -/
abbrev delW (bt : Nat) : Value := .func (.func 28) #[] #[.pointer (some ⟨bt, 0, none⟩)]

/-- A bed as a value. -/
abbrev Wvv (a : Wb) : Value := .agg #[.int .i64 a.bed, .int .i64 a.most, .int .i64 a.last, .bool a.lost]

theorem WbAt.chg {S : Nat → Prop} {w w' : World} {b o : Nat} {a : Wb} (h : WbAt w b o a) (hc : Chg S w w') (hb : ¬ S b) : WbAt w' b o a := ⟨cell_chg hc h.1 hb, cell_chg hc h.2.1 hb, cell_chg hc h.2.2.1 hb, cell_chg hc h.2.2.2 hb⟩

/-- A bed's four cells written. -/
def setWC (w : World) (g o : Nat) (a : Wb) : World := (((w.setCell ⟨g, o, none⟩ (.int .i64 a.bed)).setCell ⟨g, o + 1, none⟩ (.int .i64 a.most)).setCell ⟨g, o + 2, none⟩ (.int .i64 a.last)).setCell ⟨g, o + 3, none⟩ (.bool a.lost)

theorem wcells15_put (l : List Wb) {i : Nat} (hi : i < l.length) (s : Wb) :
    (((((wcells15 l).set (i * 4) (.int .i64 s.bed)).set (i * 4 + 1) (.int .i64 s.most)).set (i * 4 + 2) (.int .i64 s.last)).set (i * 4 + 3) (.bool s.lost)) = wcells15 (l.set i s) := by
  have h0 := wcells15_set l (i := i) (k := 0) (y := { l[i] with bed := s.bed }) (v := .int .i64 s.bed) hi (by omega) rfl
  rw [Nat.add_zero] at h0
  rw [h0]
  have hi1 : i < (l.set i { l[i] with bed := s.bed }).length := by simpa using hi
  rw [wcells15_set _ (k := 1) (y := { l[i] with bed := s.bed, most := s.most }) hi1 (by omega) (by simp [wcell15]), List.set_set]
  have hi2 : i < (l.set i { l[i] with bed := s.bed, most := s.most }).length := by simpa using hi
  rw [wcells15_set _ (k := 2) (y := { l[i] with bed := s.bed, most := s.most, last := s.last }) hi2 (by omega) (by simp [wcell15]), List.set_set]
  have hi3 : i < (l.set i { l[i] with bed := s.bed, most := s.most, last := s.last }).length := by simpa using hi
  rw [wcells15_set _ (k := 3) (y := s) hi3 (by omega) (by simp [wcell15]), List.set_set]

theorem owns_setWC {w : World} {g c n i : Nat} {l : List Wb} (hi : i < l.length) (h : w.ownsRow 0 58 4 (.slice (some ⟨g, 0, none⟩) n c) n (wcells15 l)) (a : Wb) : (setWC w g (i * 4) a).ownsRow 0 58 4 (.slice (some ⟨g, 0, none⟩) n c) n (wcells15 (l.set i a)) := by
  rw [← wcells15_put l hi a]
  exact (World.ownsRow.stored (World.ownsRow.stored (World.ownsRow.stored (World.ownsRow.stored h _ _).1 _ _).1 _ _).1 _ _).1

theorem chg_setWC (w : World) (g o : Nat) (a : Wb) : Chg (fun k => k = g) w (setWC w g o a) :=
  ((((Chg.refl (fun k => k = g) w).setCell (p := ⟨g, o, none⟩) (fun _ => rfl) _).setCell (p := ⟨g, o + 1, none⟩) (fun _ => rfl) _).setCell (p := ⟨g, o + 2, none⟩) (fun _ => rfl) _).setCell (p := ⟨g, o + 3, none⟩) (fun _ => rfl) _

theorem wclo_any (a : Wb) (bed : Int) (bt : Nat) (w : World) (hc : w.cell? ⟨bt, 0, none⟩ = some (.int .i64 bed)) :
    Calls Try.prog 28 #[Wvv a, .pointer (some ⟨bt, 0, none⟩)] w fun e w' => e = .returned (.bool (isWb bed a)) ∧ Below w.heap.size w w' := by
  obtain ⟨a0, a1, a2, a3⟩ := a
  show Calls Try.prog 28 #[.agg #[.int .i64 a0, .int .i64 a1, .int .i64 a2, .bool a3], .pointer (some ⟨bt, 0, none⟩)] w fun e w' => e = .returned (.bool (isWb bed ⟨a0, a1, a2, a3⟩)) ∧ Below w.heap.size w w'
  have hB : bt < w.heap.size := cell_lt hc
  have hne : bt ≠ w.heap.size := by omega
  have hd : (w.alloc (.cells #[.int .i64 a0, .int .i64 a1, .int .i64 a2, .bool a3] 58)).cell? ⟨bt, 0, none⟩ = some (.int .i64 bed) := cell_chg (below_chg ((Below.refl _ w).alloc (Nat.le_refl _) _)) hc id
  have HB := Hid.intro ((Below.refl _ w).alloc (Nat.le_refl _) (.cells #[.int .i64 a0, .int .i64 a1, .int .i64 a2, .bool a3] 58))
  go_enter Try.func28, Try.ntmps28
  go_wp2
  go_ret
  exact ⟨rfl, HB.out⟩

/-- Where the first of them is; -1: nowhere. -/
def posD (l : List Wb) (bed : Int) : Int := match l.findIdx? (isWb bed) with
  | some i => (i : Int)
  | none => -1

theorem posD_hit {l : List Wb} {bed : Int} {i : Nat} (hi : i < l.length) (h : isWb bed l[i] = true) (hn : ∀ j, (hj : j < i) → isWb bed (l[j]'(Nat.lt_trans hj hi)) = false) : posD l bed = (i : Int) := by
  have e : l.findIdx? (isWb bed) = some i := by
    rw [List.findIdx?_eq_some_iff_getElem]
    exact ⟨hi, h, fun j hj => by rw [hn j hj]; simp⟩
  unfold posD
  rw [e]

theorem posD_miss {l : List Wb} {bed : Int} (hn : ∀ j, (hj : j < l.length) → isWb bed l[j] = false) : posD l bed = -1 := by
  have e : l.findIdx? (isWb bed) = none := by
    rw [List.findIdx?_eq_none_iff]
    intro s hs
    obtain ⟨j, hj, rfl⟩ := List.getElem_of_mem hs
    exact hn j hj
  unfold posD
  rw [e]

theorem posD_all {l : List Wb} {bed : Int} : (posD l bed = -1 ∧ ∀ a ∈ l, isWb bed a = false) ∨ ∃ i : Nat, ∃ hi : i < l.length, posD l bed = (i : Int) ∧ isWb bed l[i] = true ∧ ∀ a ∈ l.take i, isWb bed a = false := by
  unfold posD
  cases q : l.findIdx? (isWb bed) with
  | none => exact .inl ⟨rfl, by rw [List.findIdx?_eq_none_iff] at q; exact q⟩
  | some i =>
    rw [List.findIdx?_eq_some_iff_getElem] at q
    obtain ⟨hi, h1, h2⟩ := q
    refine .inr ⟨i, hi, rfl, h1, fun a ha => ?_⟩
    obtain ⟨j, hj, rfl⟩ := List.getElem_of_mem ha
    have hj' : j < i := by rw [List.length_take] at hj; omega
    rw [List.getElem_take]
    have := h2 j hj'
    simpa using this

set_option maxRecDepth 100000 in
set_option maxHeartbeats 1000000 in
theorem wifunc_any (g c : Nat) (l : List Wb) (hl : l.length ≤ 100) (bed : Int) (bt : Nat) (w : World) (hc : w.cell? ⟨bt, 0, none⟩ = some (.int .i64 bed))
    (own : w.ownsRow 0 58 4 (.slice (some ⟨g, 0, none⟩) l.length c) l.length (wcells15 l)) :
    Calls Try.prog 32 #[.slice (some ⟨g, 0, none⟩) l.length c, delW bt] w fun e w' => e = .returned (.int .i64 (posD l bed)) ∧ Below w.heap.size w w' := by
  have HS := Hid.intro (fun t (ht : t < l.length) => ws_at own ht)
  have HC := Hid.intro hc
  obtain ⟨P, hP⟩ : ∃ P, P = posD l bed := ⟨_, rfl⟩
  have HQ := Hid.intro hP
  rw [← hP]
  clear own hc hP
  go_enter Try.func32, Try.ntmps32
  go_wp2_with fail
  go_loopw [8] (fun i ws => ∃ t : Nat, t ≤ l.length ∧ i = .int .i64 t ∧ Below w.heap.size w ws ∧ ∀ j, (hj : j < l.length) → j < t → isWb bed l[j] = false) (fun i _ => l.length - (intOf i).toNat)
  case atStart => exact ⟨0, by omega, rfl, Below.refl _ w, fun j _ hj => absurd hj (Nat.not_lt_zero _)⟩
  case round =>
    obtain ⟨t, ht, rfl, hB, hno⟩ := hrel
    have HNO := Hid.intro hno
    have BH := Hid.intro hB
    clear hno
    by_cases hlt : t < l.length
    · obtain ⟨c0, c1, c2, c3⟩ := (HS.out t hlt).chg (below_chg hB) id
      have CL := Hid.intro (wclo_any l[t] bed bt wr (cell_chg (below_chg hB) HC.out id))
      have HIT := Hid.intro (fun (e : isWb bed l[t] = true) => posD_hit hlt e (fun j hj => HNO.out j (by omega) hj))
      have NXT := Hid.intro (fun (e : isWb bed l[t] = false) j (hj : j < l.length) (h : j < t + 1) => (show isWb bed l[j] = false from by
        by_cases q : j < t
        · exact HNO.out j hj q
        · obtain rfl : j = t := by omega
          exact e))
      have t1 : (t : Int) < (l.length : Int) := by omega
      have t0 : (0 : Int) ≤ (t : Int) := by omega
      generalize isWb bed l[t] = r at *
      generalize l[t] = s at *
      obtain ⟨a0, a1, a2, a3⟩ := s
      simp only at c0 c1 c2 c3
      clear hB
      cases r with
      | true =>
        have HP : Hid (P = (t : Int)) := by rw [Hid, HQ.out]; exact HIT.out rfl
        clear HIT NXT
        go_wp2_with fail
        refine CL.out.mono ?_
        rintro e w3 ⟨rfl, B3⟩
        have B3w := Hid.intro (BH.out.trans (B3.mono BH.out.size))
        clear CL B3 BH c0 c1 c2 c3
        go_wp2
        go_ret
        exact ⟨by rw [HP.out]; rfl, B3w.out⟩
      | false =>
        have NX := Hid.intro (NXT.out rfl)
        clear HIT NXT
        go_wp2_with fail
        refine CL.out.mono ?_
        rintro e w3 ⟨rfl, B3⟩
        have B3w := Hid.intro (BH.out.trans (B3.mono BH.out.size))
        clear CL B3 BH c0 c1 c2 c3 HNO
        go_wp2
        go_roundw
        case rel => exact ⟨t + 1, by omega, by go_num, B3w.out, NX.out⟩
        case measure => simp [intOf]; omega
    · obtain rfl : t = l.length := by omega
      have t1 : ¬ (l.length : Int) < (l.length : Int) := by omega
      have HP : Hid (P = -1) := by rw [Hid, HQ.out]; exact posD_miss (fun j hj => HNO.out j hj hj)
      go_wp2
      go_ret
      exact ⟨by rw [HP.out]; rfl, BH.out⟩

/-- Cells written from a place on: what lies ahead stays. -/
theorem owns_setCellsW {g c n : Nat} : ∀ (vs : List Value) (o : Nat) (w : World) (xs : List Value), w.ownsRow 0 58 4 (.slice (some ⟨g, 0, none⟩) n c) n xs → ∀ o0, o0 ≤ o → ∃ xs', (w.setCells g o vs).ownsRow 0 58 4 (.slice (some ⟨g, 0, none⟩) n c) n xs' ∧ xs'.take o0 = xs.take o0
  | [], _, _, xs, h, _, _ => ⟨xs, h, rfl⟩
  | v :: vs, o, w, xs, h, o0, ho => by
    obtain ⟨xs', h1, h2⟩ := owns_setCellsW vs (o + 1) (w.setCell ⟨g, o, none⟩ v) (xs.set o v) (World.ownsRow.stored h o v).1 o0 (by omega)
    refine ⟨xs', h1, ?_⟩
    rw [h2, List.take_set_of_le ho]

theorem chg_setCellsW {g : Nat} : ∀ (vs : List Value) (o : Nat) (w : World), Chg (fun k => k = g) w (w.setCells g o vs)
  | [], _, w => Chg.refl _ w
  | v :: vs, o, w => ((Chg.refl (fun k => k = g) w).setCell (p := ⟨g, o, none⟩) (fun _ => rfl) v).trans (chg_setCellsW vs (o + 1) _) (fun _ q _ => q)

/-- The first ones of a row alone. -/
theorem owns_cutW {w : World} {g c n i : Nat} {xs : List Value} {l : List Wb} (h : w.ownsRow 0 58 4 (.slice (some ⟨g, 0, none⟩) n c) n xs) (hi : i ≤ n) (hl : l.length = i) (hx : xs.take (i * 4) = wcells15 l) : w.ownsRow 0 58 4 (.slice (some ⟨g, 0, none⟩) i c) i (wcells15 l) := by
  refine ⟨by rw [wcells15_length, hl], ?_⟩
  rcases h.2 with ⟨hv, _⟩ | ⟨g', cap, cur, hv, hb, hg, hn, hm, hs, ht⟩
  · cases hv
  · simp only [Value.slice.injEq, Option.some.injEq, Addr.mk.injEq] at hv
    obtain ⟨⟨rfl, _, _⟩, _, rfl⟩ := hv
    refine .inr ⟨g, c, cur, rfl, hb, hg, by omega, hm, hs, ?_⟩
    rw [← hx, ← ht, List.take_take, Nat.min_eq_left (by omega)]

/-- The cells of so many zero ones. -/
def zerosW (n : Nat) : List Value := (Builtin.zeroCells #[.int .i64 0, .int .i64 0, .int .i64 0, .bool false] n).toList

theorem zerosW_length (n : Nat) : (zerosW n).length = n * 4 := by simp [zerosW, Builtin.zeroCells]

theorem zerosW_one (n : Nat) : ∀ v ∈ zerosW n, v.oneCell' = true := by
  intro v hv
  simp only [zerosW, Builtin.zeroCells, Array.toList_map, Array.toList_range, List.mem_map, List.mem_range] at hv
  obtain ⟨i, _, rfl⟩ := hv
  have h2 : i % 4 < 4 := Nat.mod_lt _ (by decide)
  show Value.oneCell' (#[.int .i64 0, .int .i64 0, .int .i64 0, .bool false][i % 4]!) = true
  generalize i % 4 = r at h2
  match r, h2 with
  | 0, _ => rfl
  | 1, _ => rfl
  | 2, _ => rfl
  | 3, _ => rfl

theorem run_clear_wat (w : World) (g o n c : Nat) (ty : TypeId) (hn : 0 < n) (hc : ∀ j, j < n * 4 → (w.cell? ⟨g, o + j, none⟩).isSome = true) (hf : ∀ j, w.frozen? ⟨g, j, none⟩ = false) :
    (Builtin.clear_ #[54] ty #[.slice (some ⟨g, o, none⟩) n c]).run Try.prog w = .ok (.tuple #[]) (w.setCells g o (zerosW n)) := by
  have hst := run_storeCells_cells (P := Try.prog) g o (zerosW n) 0 w (fun j hj => by rw [Nat.add_zero]; exact hc j (by rw [zerosW_length] at hj; exact hj)) (fun j _ => hf _) (zerosW_one n)
  simp only [Nat.add_zero] at hst
  obtain ⟨m, rfl⟩ : ∃ m, n = m + 1 := ⟨n - 1, by omega⟩
  simp [Builtin.clear_, run_underlying Try.underlying54, Value.cells, zerosW] at hst ⊢
  simp [hst]

/-- A deletion under way: the first i places hold those of the first j that stay; from j on all is as it was. -/
structure DelAW (g c : Nat) (l : List Wb) (bed : Int) (i j : Nat) (ws : World) (m : List Wb) : Prop where
  own : ws.ownsRow 0 58 4 (.slice (some ⟨g, 0, none⟩) l.length c) l.length (wcells15 m)
  len : m.length = l.length
  head : m.take i = remWt (l.take j) bed
  tail : ∀ k, j ≤ k → (hk : k < l.length) → m[k]'(by rw [len]; exact hk) = l[k]
  lt : i < j
  le : j ≤ l.length

theorem rem_take {l : List Wb} {bed : Int} {j : Nat} (h : j < l.length) : remWt (l.take (j + 1)) bed = remWt (l.take j) bed ++ (if isWb bed l[j] = true then [] else [l[j]]) := by
  unfold remWt
  rw [List.take_add_one, List.getElem?_eq_getElem h, List.filter_append]
  congr 1
  simp only [Option.toList_some]
  cases q : isWb bed l[j] <;> simp [q]

theorem DelAW.skip {g c : Nat} {l m : List Wb} {bed : Int} {i j : Nat} {ws : World} (h : DelAW g c l bed i j ws m) (hj : j < l.length) (hd : isWb bed l[j] = true) : DelAW g c l bed i (j + 1) ws m :=
  ⟨h.own, h.len, by rw [h.head, rem_take hj, if_pos hd, List.append_nil], fun k hk hk2 => h.tail k (by omega) hk2, by have := h.lt; omega, by omega⟩

theorem DelAW.put {g c : Nat} {l m : List Wb} {bed : Int} {i j : Nat} {ws w' : World} (h : DelAW g c l bed i j ws m) (hj : j < l.length) (hd : isWb bed l[j] = false)
    (own : w'.ownsRow 0 58 4 (.slice (some ⟨g, 0, none⟩) l.length c) l.length (wcells15 (m.set i l[j]))) : DelAW g c l bed (i + 1) (j + 1) w' (m.set i l[j]) := by
  have hi := h.lt
  have hl := h.len
  refine ⟨own, by rw [List.length_set, hl], ?_, fun k hk hk2 => ?_, by omega, by omega⟩
  · rw [rem_take hj, hd, ← h.head, List.take_add_one, List.getElem?_set_self (by omega), List.take_set_of_le (Nat.le_refl _)]
    simp
  · rw [List.getElem_set_ne (by omega)]
    exact h.tail k (by omega) hk2

set_option maxRecDepth 100000 in
set_option maxHeartbeats 4000000 in
theorem wdel_in (g c : Nat) (l : List Wb) (hl : l.length ≤ 100) (hcap : l.length ≤ c) (bed : Int) (bt : Nat) (hbg : bt ≠ g) (i0 : Nat) (hi0 : i0 < l.length) (hp : posD l bed = (i0 : Int)) (hd : isWb bed l[i0] = true) (hno : ∀ a ∈ l.take i0, isWb bed a = false) (w : World) (hc : w.cell? ⟨bt, 0, none⟩ = some (.int .i64 bed))
    (own : w.ownsRow 0 58 4 (.slice (some ⟨g, 0, none⟩) l.length c) l.length (wcells15 l)) :
    Calls Try.prog 27 #[.slice (some ⟨g, 0, none⟩) l.length c, delW bt] w fun e w' => e = .returned (.slice (some ⟨g, 0, none⟩) (remWt l bed).length c) ∧ w'.ownsRow 0 58 4 (.slice (some ⟨g, 0, none⟩) (remWt l bed).length c) (remWt l bed).length (wcells15 (remWt l bed)) ∧ Chg (fun k => k = g) w w' := by
  have IX := Hid.intro (wifunc_any g c l hl bed bt w hc own)
  rw [hp] at IX
  have HK : remWt (l.take (i0 + 1)) bed = l.take i0 := by
    rw [rem_take hi0, if_pos hd, List.append_nil]
    unfold remWt
    rw [List.filter_eq_self]
    intro a ha
    rw [hno a ha]
    rfl
  have ST := Hid.intro (fun (W : World) (B : Below w.heap.size w W) => (⟨ownsRow_keep own fun k hk => B.block k (World.ownsRow.lt own k hk).2, rfl, HK.symm, fun _ _ _ => rfl, by omega, by omega⟩ : DelAW g c l bed i0 (i0 + 1) W l))
  have HC := Hid.intro hc
  obtain ⟨L, hL⟩ : ∃ L, L = l.length := ⟨_, rfl⟩
  have HL := Hid.intro hL
  obtain ⟨KL, hKL⟩ : ∃ KL, KL = (remWt l bed).length := ⟨_, rfl⟩
  have HKL := Hid.intro hKL
  rw [← hL] at hl hcap hi0 IX ⊢
  rw [← hKL]
  have i1 : (i0 : Int) < (L : Int) := by omega
  have im : ¬ (i0 : Int) = -1 := by omega
  clear own hc hp hd hno HK hL hKL
  go_enter Try.func27, Try.ntmps27
  go_wp2_with fail
  refine IX.out.mono ?_
  rintro e w1 ⟨rfl, B1⟩
  have D1 := Hid.intro (ST.out w1 B1)
  have C1 := Hid.intro ((below_chg B1).mono (T := fun k => k = g) (fun _ f _ => f.elim))
  clear IX ST B1
  go_wp2_with fail
  go_loopw [5, 6] (fun iv jv ws => ∃ (i j : Nat) (m : List Wb), j ≤ L ∧ i < j ∧ iv = .int .i64 i ∧ jv = .int .i64 j ∧ DelAW g c l bed i j ws m ∧ Chg (fun k => k = g) w ws) (fun _ jv _ => L - (intOf jv).toNat)
  case atStart => exact ⟨i0, i0 + 1, l, by omega, by omega, rfl, by go_num, D1.out, C1.out⟩
  case round =>
    clear D1 C1
    obtain ⟨i, j, m, hjL, hij, rfl, rfl, hD, hC⟩ := hrel
    have DH := Hid.intro hD
    have CH := Hid.intro hC
    clear hD hC
    by_cases hlt : j < L
    · have hlt' : j < l.length := by rw [← HL.out]; exact hlt
      have j0 : (0 : Int) ≤ (j : Int) := by omega
      have j1 : (j : Int) < (L : Int) := by omega
      have ii0 : (0 : Int) ≤ (i : Int) := by omega
      have ii1 : (i : Int) < (L : Int) := by omega
      have ow := DH.out.own
      rw [← DH.out.len] at ow
      have hw := ws_at ow (t := j) (by rw [DH.out.len]; exact hlt')
      rw [DH.out.tail j (Nat.le_refl _) hlt'] at hw
      have wi := ws_at ow (t := i) (by rw [DH.out.len]; omega)
      have SK := Hid.intro (fun (e : isWb bed l[j] = true) => DH.out.skip hlt' e)
      have PU := Hid.intro (fun (e : isWb bed l[j] = false) (w' : World) o => DH.out.put (w' := w') hlt' e o)
      have CK := Hid.intro (fun (W : World) (hh : W.cell? ⟨bt, 0, none⟩ = some (.int .i64 bed)) => wclo_any l[j] bed bt W hh)
      generalize isWb bed l[j] = r at *
      generalize l[j] = s at *
      obtain ⟨a0, a1, a2, a3⟩ := s
      obtain ⟨c0, c1, c2, c3⟩ := hw
      simp only at c0 c1 c2 c3
      have BN := (Below.refl _ wr).alloc (Nat.le_refl _) (.cells #[.int .i64 a0, .int .i64 a1, .int .i64 a2, .bool a3] 58)
      have BNH := Hid.intro BN
      have hB0 := cell_chg CH.out HC.out hbg
      have CL := Hid.intro (CK.out _ (cell_chg (below_chg BN) hB0 id))
      have gl : g < wr.heap.size := (World.ownsRow.lt ow g rfl).2
      have gn := Hid.intro (heap_alloc_new wr (.cells #[.int .i64 a0, .int .i64 a1, .int .i64 a2, .bool a3] 58))
      cases r with
      | true =>
        have SKH := Hid.intro (SK.out rfl)
        clear PU SK ow wi CK BN hB0
        go_wp2_with fail
        refine CL.out.mono ?_
        rintro e w3 ⟨rfl, B3⟩
        have B4 := BNH.out.trans (B3.mono BNH.out.size)
        have FIN := Hid.intro (show DelAW g c l bed i (j + 1) w3 m ∧ Chg (fun k => k = g) w w3 from
          ⟨⟨ownsRow_keep SKH.out.own fun k hk => B4.block k (World.ownsRow.lt SKH.out.own k hk).2, SKH.out.len, SKH.out.head, SKH.out.tail, SKH.out.lt, SKH.out.le⟩, CH.out.trans (below_chg B4) (fun _ f _ => f.elim)⟩)
        clear CL B3 B4 SKH CH DH
        go_wp2
        go_roundw
        case rel =>
          refine ⟨_, _, _, _, _, _, _, _, _, _, _, _, _, _, _, _, _, _, _, _, _, _, _, ?_, rfl⟩
          exact ⟨i, j + 1, m, by omega, by omega, rfl, by go_num, FIN.out.1, FIN.out.2⟩
        case measure => simp [intOf]; omega
      | false =>
        have PUH := Hid.intro (PU.out rfl)
        have OWH := Hid.intro DH.out.own
        rw [← HL.out] at OWH
        have bng : ¬ wr.heap.size = g := by omega
        have gbn : ¬ g = wr.heap.size := by omega
        clear PU SK ow CK BN hB0
        go_wp2_with fail
        refine CL.out.mono ?_
        rintro e w3 ⟨rfl, B3⟩
        have B4 := BNH.out.trans (B3.mono BNH.out.size)
        have O3 := ownsRow_keep OWH.out fun k hk => B4.block k (World.ownsRow.lt OWH.out k hk).2
        have fz : ∀ o, w3.frozen? ⟨g, o, none⟩ = false := fun o => O3.frozenAt o
        have w3i := wi.chg (below_chg B4) id
        generalize m[i]'(by rw [DH.out.len]; omega) = b at w3i
        obtain ⟨b0, b1, b2, b3⟩ := b
        obtain ⟨e0, e1, e2, e3⟩ := w3i
        simp only at e0 e1 e2 e3
        have gn3 := (B3.block _ (lt_of_heap gn.out)).trans gn.out
        have d0 : w3.cell? ⟨wr.heap.size, 0, none⟩ = some (.int .i64 a0) := by rw [cell_of_row _ _ 0 _ _ _ gn3]; rfl
        have d1 : w3.cell? ⟨wr.heap.size, 1, none⟩ = some (.int .i64 a1) := by rw [cell_of_row _ _ 1 _ _ _ gn3]; rfl
        have d2 : w3.cell? ⟨wr.heap.size, 2, none⟩ = some (.int .i64 a2) := by rw [cell_of_row _ _ 2 _ _ _ gn3]; rfl
        have d3 : w3.cell? ⟨wr.heap.size, 3, none⟩ = some (.bool a3) := by rw [cell_of_row _ _ 3 _ _ _ gn3]; rfl
        have FIN := Hid.intro (show DelAW g c l bed (i + 1) (j + 1) (setWC w3 g (i * 4) ⟨a0, a1, a2, a3⟩) (m.set i ⟨a0, a1, a2, a3⟩) ∧ Chg (fun k => k = g) w (setWC w3 g (i * 4) ⟨a0, a1, a2, a3⟩) from
          ⟨PUH.out _ (by rw [← HL.out]; exact owns_setWC (by rw [DH.out.len]; omega) O3 _), (CH.out.trans (below_chg B4) (fun _ f _ => f.elim)).trans (chg_setWC w3 g (i * 4) _) (fun _ z _ => z)⟩)
        clear CL B3 B4 CH DH O3 gn3 gn PUH OWH BNH wi c0 c1 c2 c3 gl
        generalize wr.heap.size = bn at *
        go_wp2
        go_roundw
        case rel =>
          refine ⟨_, _, _, _, _, _, _, _, _, _, _, _, _, _, _, _, _, _, _, _, _, _, _, ?_, rfl⟩
          exact ⟨i + 1, j + 1, _, by omega, by omega, by go_num, by go_num, FIN.out.1, FIN.out.2⟩
        case measure => simp [intOf]; omega
    · obtain rfl : j = L := by omega
      have j1 : ¬ (j : Int) < (j : Int) := by omega
      have OWH := Hid.intro DH.out.own
      rw [← HL.out] at OWH
      have hd := DH.out.head
      have tl : l.take j = l := List.take_of_length_le (by rw [← HL.out]; exact Nat.le_refl _)
      rw [tl] at hd
      clear tl
      have hKi : KL = i := by
        rw [HKL.out, ← hd, List.length_take, DH.out.len, ← HL.out]
        omega
      have fz : ∀ o, wr.frozen? ⟨g, o, none⟩ = false := fun o => OWH.out.frozenAt o
      have hcl := fun ty => run_clear_wat wr g (i * 4) (j - i) (c - i) ty (by omega) (fun t ht => by
        have := OWH.out.cellAt (i * 4 + t) (by omega)
        rw [this]
        have hl2 := wcells15_length m
        rw [DH.out.len, ← HL.out] at hl2
        rw [List.getElem?_eq_getElem (by omega)]
        rfl) fz
      have FIN : Hid ((wr.setCells g (i * 4) (zerosW (j - i))).ownsRow 0 58 4 (.slice (some ⟨g, 0, none⟩) i c) i (wcells15 (remWt l bed)) ∧ Chg (fun k => k = g) w (wr.setCells g (i * 4) (zerosW (j - i)))) := by
        obtain ⟨xs', o1, o2⟩ := owns_setCellsW (zerosW (j - i)) (i * 4) wr _ OWH.out (i * 4) (Nat.le_refl _)
        refine ⟨owns_cutW o1 (by omega) (by rw [← HKL.out]; exact hKi) ?_, CH.out.trans (chg_setCellsW _ _ _) (fun _ z _ => z)⟩
        rw [o2, ← hd]
        have hsp : wcells15 m = wcells15 (m.take i) ++ wcells15 (m.drop i) := by rw [← wcells15_append, List.take_append_drop]
        rw [hsp, List.take_append_of_le_length (by rw [wcells15_length, List.length_take, DH.out.len, ← HL.out]; omega), List.take_of_length_le (by rw [wcells15_length, List.length_take, DH.out.len, ← HL.out]; omega)]
      subst hKi
      generalize wr.setCells g (KL * 4) (zerosW (j - KL)) = wz at *
      have k0 : (0 : Int) ≤ (KL : Int) := by omega
      have k1 : (KL : Int) ≤ (j : Int) := by omega
      have k2 : (KL : Int) ≤ (c : Int) := by omega
      have k3 : KL < c := by omega
      clear OWH hd CH DH fz
      go_wp2
      go_ret
      exact ⟨rfl, FIN.out⟩

theorem wdel_none (v : Value) (l : List Wb) (hl : l.length ≤ 100) (bed : Int) (bt : Nat) (hp : ∀ a ∈ l, isWb bed a = false) (w : World) (hc : w.cell? ⟨bt, 0, none⟩ = some (.int .i64 bed)) (own : w.ownsRow 0 58 4 v l.length (wcells15 l)) :
    Calls Try.prog 27 #[v, delW bt] w fun e w' => e = .returned v ∧ Below w.heap.size w w' := by
  have IX : Hid (Calls Try.prog 32 #[v, delW bt] w fun e w' => e = .returned (.int .i64 (-1)) ∧ Below w.heap.size w w') := by
    rcases own.2 with ⟨hv, h0⟩ | ⟨g, cap, cur, hv, _⟩
    · subst hv
      clear own
      rw [Hid]
      go_enter Try.func32, Try.ntmps32
      go_wp2_with fail
      go_loopw [8] (fun i ws => i = .int .i64 0 ∧ ws = w) (fun i _ => (intOf i).toNat)
      case atStart => exact ⟨rfl, rfl⟩
      case round =>
        obtain ⟨rfl, rfl⟩ := hrel
        go_wp2
        go_ret
        exact ⟨rfl, Below.refl _ _⟩
    · subst hv
      have q := wifunc_any g cap l hl bed bt w hc own
      rw [posD_miss (fun j hj => hp _ (List.getElem_mem hj))] at q
      exact q
  obtain ⟨ao, c, rfl, _⟩ := ownsRow_form own
  clear own hp hc
  go_enter Try.func27, Try.ntmps27
  go_wp2_with fail
  refine IX.out.mono ?_
  rintro e w1 ⟨rfl, B1⟩
  have BH := Hid.intro B1
  clear B1 IX
  go_wp2
  go_ret
  exact ⟨rfl, BH.out⟩

/-- What a deletion leaves. -/
def DelEW (w w' : World) (v v' : Value) (l : List Wb) : Prop := v'.ownBlock = v.ownBlock ∧ w'.ownsRow 0 58 4 v' l.length (wcells15 l) ∧ Chg (fun k => v.ownBlock = some k) w w'

theorem wdel_any (v : Value) (l : List Wb) (hl : l.length ≤ 100) (bed : Int) (bt : Nat) (hbv : v.ownBlock ≠ some bt) (w : World) (hc : w.cell? ⟨bt, 0, none⟩ = some (.int .i64 bed)) (own : w.ownsRow 0 58 4 v l.length (wcells15 l)) :
    Calls Try.prog 27 #[v, delW bt] w fun e w' => ∃ v', e = .returned v' ∧ DelEW w w' v v' (remWt l bed) := by
  rcases posD_all (l := l) (bed := bed) with ⟨hp, hall⟩ | ⟨i, hi, hp, hd, hno⟩
  · have e : remWt l bed = l := by
      unfold remWt
      rw [List.filter_eq_self]
      intro a ha
      rw [hall a ha]
      rfl
    rw [e]
    refine (wdel_none v l hl bed bt hall w hc own).mono ?_
    rintro e w' ⟨rfl, B⟩
    exact ⟨v, rfl, rfl, ownsRow_keep own fun k hk => B.block k (World.ownsRow.lt own k hk).2, (below_chg B).mono (fun _ f _ => f.elim)⟩
  · rcases own.2 with ⟨hv, h0⟩ | ⟨g, cap, cur, hv, _, _, hcap, _⟩
    · omega
    · subst hv
      refine (wdel_in g cap l hl hcap bed bt (fun q => hbv (by rw [q]; rfl)) i hi hp hd hno w hc own).mono ?_
      rintro e w' ⟨rfl, O, C⟩
      exact ⟨_, rfl, rfl, O, C.mono (fun k hk _ => by rw [hk]; rfl)⟩

end Go.Proofs.Ytngfgahdiobcmaa
