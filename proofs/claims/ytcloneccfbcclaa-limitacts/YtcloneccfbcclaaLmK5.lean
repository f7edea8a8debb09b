/- Package limit: Drop's first closure, slices.IndexFunc, slices.DeleteFunc of owners. -/
import Derived.Test.YtcloneccfbcclaaLmK2
namespace Go.Proofs.Ytcloneccfbcclaa
open Go.RowKit
open Bt

/-- The closure that finds a bed's jobs. -/
abbrev delO (bt : Nat) : Value := .func (.func 29) #[] #[.pointer (some ⟨bt, 0, none⟩)]

/-- Is it the bed's? -/
def isBO (bed : Int) (a : Int × Int) : Bool := decide (a.1 = bed)

theorem lclo_any (a : Int × Int) (bed : Int) (bt : Nat) (w : World) (hc : w.cell? ⟨bt, 0, none⟩ = some (.int .i64 bed)) :
    Calls Try.prog 29 #[ownV a, .pointer (some ⟨bt, 0, none⟩)] w fun e w' => e = .returned (.bool (isBO bed a)) ∧ Below w.heap.size w w' := by
  obtain ⟨a0, a1⟩ := a
  show Calls Try.prog 29 #[.agg #[.int .i64 a0, .int .i64 a1], .pointer (some ⟨bt, 0, none⟩)] w fun e w' => e = .returned (.bool (decide (a0 = bed))) ∧ Below w.heap.size w w'
  have hB : bt < w.heap.size := cell_lt hc
  have hne : bt ≠ w.heap.size := by omega
  have hd : (w.alloc (.cells #[.int .i64 a0, .int .i64 a1] 62)).cell? ⟨bt, 0, none⟩ = some (.int .i64 bed) := cell_chg (below_chg ((Below.refl _ w).alloc (Nat.le_refl _) _)) hc id
  have HB := Hid.intro ((Below.refl _ w).alloc (Nat.le_refl _) (.cells #[.int .i64 a0, .int .i64 a1] 62))
  go_enter Try.func29, Try.ntmps29
  go_wp2
  go_ret
  exact ⟨rfl, HB.out⟩

/-- Where the first of them is; -1: nowhere. -/
def posO (l : List (Int × Int)) (bed : Int) : Int := match l.findIdx? (isBO bed) with
  | some i => (i : Int)
  | none => -1

theorem posO_hit {l : List (Int × Int)} {bed : Int} {i : Nat} (hi : i < l.length) (h : isBO bed l[i] = true) (hn : ∀ j, (hj : j < i) → isBO bed (l[j]'(Nat.lt_trans hj hi)) = false) : posO l bed = (i : Int) := by
  have e : l.findIdx? (isBO bed) = some i := by
    rw [List.findIdx?_eq_some_iff_getElem]
    exact ⟨hi, h, fun j hj => by rw [hn j hj]; simp⟩
  unfold posO
  rw [e]

theorem posO_miss {l : List (Int × Int)} {bed : Int} (hn : ∀ j, (hj : j < l.length) → isBO bed l[j] = false) : posO l bed = -1 := by
  have e : l.findIdx? (isBO bed) = none := by
    rw [List.findIdx?_eq_none_iff]
    intro s hs
    obtain ⟨j, hj, rfl⟩ := List.getElem_of_mem hs
    exact hn j hj
  unfold posO
  rw [e]

theorem posO_all {l : List (Int × Int)} {bed : Int} : (posO l bed = -1 ∧ ∀ a ∈ l, isBO bed a = false) ∨ ∃ i : Nat, ∃ hi : i < l.length, posO l bed = (i : Int) ∧ isBO bed l[i] = true ∧ ∀ a ∈ l.take i, isBO bed a = false := by
  unfold posO
  cases q : l.findIdx? (isBO bed) with
  | none => exact .inl ⟨rfl, by rw [List.findIdx?_eq_none_iff] at q; exact q⟩
  | some i =>
    rw [List.findIdx?_eq_some_iff_getElem] at q
    obtain ⟨hi, h1, h2⟩ := q
    refine .inr ⟨i, hi, rfl, h1, fun a ha => ?_⟩
    obtain ⟨j, hj, rfl⟩ := List.getElem_of_mem ha
    have hj' : j < i := by rw [List.length_take] at hj; omega
    rw [List.getElem_take]
    have := h2 j hj'
    simpa using this

set_option maxRecDepth 100000 in
set_option maxHeartbeats 1000000 in
theorem lifunc_any (g c : Nat) (l : List (Int × Int)) (hl : l.length ≤ 100) (bed : Int) (bt : Nat) (w : World) (hc : w.cell? ⟨bt, 0, none⟩ = some (.int .i64 bed))
    (own : w.ownsRow 0 62 2 (.slice (some ⟨g, 0, none⟩) l.length c) l.length (ocells l)) :
    Calls Try.prog 37 #[.slice (some ⟨g, 0, none⟩) l.length c, delO bt] w fun e w' => e = .returned (.int .i64 (posO l bed)) ∧ Below w.heap.size w w' := by
  have HS := Hid.intro (fun t (ht : t < l.length) => ow_of_owns own ht)
  have HC := Hid.intro hc
  obtain ⟨P, hP⟩ : ∃ P, P = posO l bed := ⟨_, rfl⟩
  have HQ := Hid.intro hP
  rw [← hP]
  clear own hc hP
  go_enter Try.func37, Try.ntmps37
  go_wp2_with fail
  go_loopw [8] (fun i ws => ∃ t : Nat, t ≤ l.length ∧ i = .int .i64 t ∧ Below w.heap.size w ws ∧ ∀ j, (hj : j < l.length) → j < t → isBO bed l[j] = false) (fun i _ => l.length - (intOf i).toNat)
  case atStart => exact ⟨0, by omega, rfl, Below.refl _ w, fun j _ hj => absurd hj (Nat.not_lt_zero _)⟩
  case round =>
    obtain ⟨t, ht, rfl, hB, hno⟩ := hrel
    have HNO := Hid.intro hno
    have BH := Hid.intro hB
    clear hno
    by_cases hlt : t < l.length
    · obtain ⟨c0, c1⟩ := (HS.out t hlt).chg (below_chg hB) id
      have CL := Hid.intro (lclo_any l[t] bed bt wr (cell_chg (below_chg hB) HC.out id))
      have HIT := Hid.intro (fun (e : isBO bed l[t] = true) => posO_hit hlt e (fun j hj => HNO.out j (by omega) hj))
      have NXT := Hid.intro (fun (e : isBO bed l[t] = false) j (hj : j < l.length) (h : j < t + 1) => (show isBO bed l[j] = false from by
        by_cases q : j < t
        · exact HNO.out j hj q
        · obtain rfl : j = t := by omega
          exact e))
      have t1 : (t : Int) < (l.length : Int) := by omega
      have t0 : (0 : Int) ≤ (t : Int) := by omega
      generalize isBO bed l[t] = r at *
      generalize l[t] = s at *
      obtain ⟨a0, a1⟩ := s
      simp only at c0 c1
      clear hB
      cases r with
      | true =>
        have HP : Hid (P = (t : Int)) := by rw [Hid, HQ.out]; exact HIT.out rfl
        clear HIT NXT
        go_wp2_with fail
        refine CL.out.mono ?_
        rintro e w3 ⟨rfl, B3⟩
        have B3w := Hid.intro (BH.out.trans (B3.mono BH.out.size))
        clear CL B3 BH c0 c1
        go_wp2
        go_ret
        exact ⟨by rw [HP.out]; rfl, B3w.out⟩
      | false =>
        have NX := Hid.intro (NXT.out rfl)
        clear HIT NXT
        go_wp2_with fail
        refine CL.out.mono ?_
        rintro e w3 ⟨rfl, B3⟩
        have B3w := Hid.intro (BH.out.trans (B3.mono BH.out.size))
        clear CL B3 BH c0 c1 HNO
        go_wp2
        go_roundw
        case rel => exact ⟨t + 1, by omega, by go_num, B3w.out, NX.out⟩
        case measure => simp [intOf]; omega
    · obtain rfl : t = l.length := by omega
      have t1 : ¬ (l.length : Int) < (l.length : Int) := by omega
      have HP : Hid (P = -1) := by rw [Hid, HQ.out]; exact posO_miss (fun j hj => HNO.out j hj hj)
      go_wp2
      go_ret
      exact ⟨by rw [HP.out]; rfl, BH.out⟩

/-- Cells written from a place on: what lies ahead stays. -/
theorem owns_setCellsO {g c n : Nat} : ∀ (vs : List Value) (o : Nat) (w : World) (xs : List Value), w.ownsRow 0 62 2 (.slice (some ⟨g, 0, none⟩) n c) n xs → ∀ o0, o0 ≤ o → ∃ xs', (w.setCells g o vs).ownsRow 0 62 2 (.slice (some ⟨g, 0, none⟩) n c) n xs' ∧ xs'.take o0 = xs.take o0
  | [], _, _, xs, h, _, _ => ⟨xs, h, rfl⟩
  | v :: vs, o, w, xs, h, o0, ho => by
    obtain ⟨xs', h1, h2⟩ := owns_setCellsO vs (o + 1) (w.setCell ⟨g, o, none⟩ v) (xs.set o v) (World.ownsRow.stored h o v).1 o0 (by omega)
    refine ⟨xs', h1, ?_⟩
    rw [h2, List.take_set_of_le ho]

theorem chg_setCellsO {g : Nat} : ∀ (vs : List Value) (o : Nat) (w : World), Chg (fun k => k = g) w (w.setCells g o vs)
  | [], _, w => Chg.refl _ w
  | v :: vs, o, w => ((Chg.refl (fun k => k = g) w).setCell (p := ⟨g, o, none⟩) (fun _ => rfl) v).trans (chg_setCellsO vs (o + 1) _) (fun _ q _ => q)

/-- The first ones of a row alone. -/
theorem owns_cutO {w : World} {g c n i : Nat} {xs : List Value} {l : List (Int × Int)} (h : w.ownsRow 0 62 2 (.slice (some ⟨g, 0, none⟩) n c) n xs) (hi : i ≤ n) (hl : l.length = i) (hx : xs.take (i * 2) = ocells l) : w.ownsRow 0 62 2 (.slice (some ⟨g, 0, none⟩) i c) i (ocells l) := by
  refine ⟨by rw [ocells_length, hl], ?_⟩
  rcases h.2 with ⟨hv, _⟩ | ⟨g', cap, cur, hv, hb, hg, hn, hm, hs, ht⟩
  · cases hv
  · simp only [Value.slice.injEq, Option.some.injEq, Addr.mk.injEq] at hv
    obtain ⟨⟨rfl, _, _⟩, _, rfl⟩ := hv
    refine .inr ⟨g, c, cur, rfl, hb, hg, by omega, hm, hs, ?_⟩
    rw [← hx, ← ht, List.take_take, Nat.min_eq_left (by omega)]

/-- The cells of so many zero ones. -/
def zerosO (n : Nat) : List Value := (Builtin.zeroCells #[.int .i64 0, .int .i64 0] n).toList

theorem zerosO_length (n : Nat) : (zerosO n).length = n * 2 := by simp [zerosO, Builtin.zeroCells]

theorem zerosO_one (n : Nat) : ∀ v ∈ zerosO n, v.oneCell' = true := by
  intro v hv
  simp only [zerosO, Builtin.zeroCells, Array.toList_map, Array.toList_range, List.mem_map, List.mem_range] at hv
  obtain ⟨i, _, rfl⟩ := hv
  have h2 : i % 2 < 2 := Nat.mod_lt _ (by decide)
  show Value.oneCell' (#[.int .i64 0, .int .i64 0][i % 2]!) = true
  generalize i % 2 = r at h2
  match r, h2 with
  | 0, _ => rfl
  | 1, _ => rfl

theorem run_clear_own (w : World) (g o n c : Nat) (ty : TypeId) (hn : 0 < n) (hc : ∀ j, j < n * 2 → (w.cell? ⟨g, o + j, none⟩).isSome = true) (hf : ∀ j, w.frozen? ⟨g, j, none⟩ = false) :
    (Builtin.clear_ #[58] ty #[.slice (some ⟨g, o, none⟩) n c]).run Try.prog w = .ok (.tuple #[]) (w.setCells g o (zerosO n)) := by
  have hst := run_storeCells_cells (P := Try.prog) g o (zerosO n) 0 w (fun j hj => by rw [Nat.add_zero]; exact hc j (by rw [zerosO_length] at hj; exact hj)) (fun j _ => hf _) (zerosO_one n)
  simp only [Nat.add_zero] at hst
  obtain ⟨m, rfl⟩ : ∃ m, n = m + 1 := ⟨n - 1, by omega⟩
  simp [Builtin.clear_, run_underlying Try.underlying58, Value.cells, zerosO] at hst ⊢
  simp [hst]

/-- Those that stay. -/
def keptO (l : List (Int × Int)) (bed : Int) : List (Int × Int) := l.filter (fun a => !isBO bed a)

/-- A deletion under way: the first i places hold those of the first j that stay; from j on all is as it was. -/
structure DelAO (g c : Nat) (l : List (Int × Int)) (bed : Int) (i j : Nat) (ws : World) (m : List (Int × Int)) : Prop where
  own : ws.ownsRow 0 62 2 (.slice (some ⟨g, 0, none⟩) l.length c) l.length (ocells m)
  len : m.length = l.length
  head : m.take i = keptO (l.take j) bed
  tail : ∀ k, j ≤ k → (hk : k < l.length) → m[k]'(by rw [len]; exact hk) = l[k]
  lt : i < j
  le : j ≤ l.length

theorem keptO_take {l : List (Int × Int)} {bed : Int} {j : Nat} (h : j < l.length) : keptO (l.take (j + 1)) bed = keptO (l.take j) bed ++ (if isBO bed l[j] = true then [] else [l[j]]) := by
  unfold keptO
  rw [List.take_add_one, List.getElem?_eq_getElem h, List.filter_append]
  congr 1
  simp only [Option.toList_some]
  cases q : isBO bed l[j] <;> simp [q]

theorem DelAO.skip {g c : Nat} {l m : List (Int × Int)} {bed : Int} {i j : Nat} {ws : World} (h : DelAO g c l bed i j ws m) (hj : j < l.length) (hd : isBO bed l[j] = true) : DelAO g c l bed i (j + 1) ws m :=
  ⟨h.own, h.len, by rw [h.head, keptO_take hj, if_pos hd, List.append_nil], fun k hk hk2 => h.tail k (by omega) hk2, by have := h.lt; omega, by omega⟩

theorem DelAO.put {g c : Nat} {l m : List (Int × Int)} {bed : Int} {i j : Nat} {ws w' : World} (h : DelAO g c l bed i j ws m) (hj : j < l.length) (hd : isBO bed l[j] = false)
    (own : w'.ownsRow 0 62 2 (.slice (some ⟨g, 0, none⟩) l.length c) l.length (ocells (m.set i l[j]))) : DelAO g c l bed (i + 1) (j + 1) w' (m.set i l[j]) := by
  have hi := h.lt
  have hl := h.len
  refine ⟨own, by rw [List.length_set, hl], ?_, fun k hk hk2 => ?_, by omega, by omega⟩
  · rw [keptO_take hj, hd, ← h.head, List.take_add_one, List.getElem?_set_self (by omega), List.take_set_of_le (Nat.le_refl _)]
    simp
  · rw [List.getElem_set_ne (by omega)]
    exact h.tail k (by omega) hk2

set_option maxRecDepth 100000 in
set_option maxHeartbeats 4000000 in
theorem ldel_in (g c : Nat) (l : List (Int × Int)) (hl : l.length ≤ 100) (hcap : l.length ≤ c) (bed : Int) (bt : Nat) (hbg : bt ≠ g) (i0 : Nat) (hi0 : i0 < l.length) (hp : posO l bed = (i0 : Int)) (hd : isBO bed l[i0] = true) (hno : ∀ a ∈ l.take i0, isBO bed a = false) (w : World) (hc : w.cell? ⟨bt, 0, none⟩ = some (.int .i64 bed))
    (own : w.ownsRow 0 62 2 (.slice (some ⟨g, 0, none⟩) l.length c) l.length (ocells l)) :
    Calls Try.prog 28 #[.slice (some ⟨g, 0, none⟩) l.length c, delO bt] w fun e w' => e = .returned (.slice (some ⟨g, 0, none⟩) (keptO l bed).length c) ∧ w'.ownsRow 0 62 2 (.slice (some ⟨g, 0, none⟩) (keptO l bed).length c) (keptO l bed).length (ocells (keptO l bed)) ∧ Chg (fun k => k = g) w w' := by
  have IX := Hid.intro (lifunc_any g c l hl bed bt w hc own)
  rw [hp] at IX
  have HK : keptO (l.take (i0 + 1)) bed = l.take i0 := by
    rw [keptO_take hi0, if_pos hd, List.append_nil]
    unfold keptO
    rw [List.filter_eq_self]
    intro a ha
    rw [hno a ha]
    rfl
  have ST := Hid.intro (fun (W : World) (B : Below w.heap.size w W) => (⟨ownsRow_keep own fun k hk => B.block k (World.ownsRow.lt own k hk).2, rfl, HK.symm, fun _ _ _ => rfl, by omega, by omega⟩ : DelAO g c l bed i0 (i0 + 1) W l))
  have HC := Hid.intro hc
  obtain ⟨L, hL⟩ : ∃ L, L = l.length := ⟨_, rfl⟩
  have HL := Hid.intro hL
  obtain ⟨KL, hKL⟩ : ∃ KL, KL = (keptO l bed).length := ⟨_, rfl⟩
  have HKL := Hid.intro hKL
  rw [← hL] at hl hcap hi0 IX ⊢
  rw [← hKL]
  have i1 : (i0 : Int) < (L : Int) := by omega
  have im : ¬ (i0 : Int) = -1 := by omega
  clear own hc hp hd hno HK hL hKL
  go_enter Try.func28, Try.ntmps28
  go_wp2_with fail
  refine IX.out.mono ?_
  rintro e w1 ⟨rfl, B1⟩
  have D1 := Hid.intro (ST.out w1 B1)
  have C1 := Hid.intro ((below_chg B1).mono (T := fun k => k = g) (fun _ f _ => f.elim))
  clear IX ST B1
  go_wp2_with fail
  go_loopw [5, 6] (fun iv jv ws => ∃ (i j : Nat) (m : List (Int × Int)), j ≤ L ∧ i < j ∧ iv = .int .i64 i ∧ jv = .int .i64 j ∧ DelAO g c l bed i j ws m ∧ Chg (fun k => k = g) w ws) (fun _ jv _ => L - (intOf jv).toNat)
  case atStart => exact ⟨i0, i0 + 1, l, by omega, by omega, rfl, by go_num, D1.out, C1.out⟩
  case round =>
    clear D1 C1
    obtain ⟨i, j, m, hjL, hij, rfl, rfl, hD, hC⟩ := hrel
    have DH := Hid.intro hD
    have CH := Hid.intro hC
    clear hD hC
    by_cases hlt : j < L
    · have hlt' : j < l.length := by rw [← HL.out]; exact hlt
      have j0 : (0 : Int) ≤ (j : Int) := by omega
      have j1 : (j : Int) < (L : Int) := by omega
      have ii0 : (0 : Int) ≤ (i : Int) := by omega
      have ii1 : (i : Int) < (L : Int) := by omega
      have ow := DH.out.own
      rw [← DH.out.len] at ow
      have hw := ow_of_owns ow (i := j) (by rw [DH.out.len]; exact hlt')
      rw [DH.out.tail j (Nat.le_refl _) hlt'] at hw
      have wi := ow_of_owns ow (i := i) (by rw [DH.out.len]; omega)
      have SK := Hid.intro (fun (e : isBO bed l[j] = true) => DH.out.skip hlt' e)
      have PU := Hid.intro (fun (e : isBO bed l[j] = false) (w' : World) o => DH.out.put (w' := w') hlt' e o)
      have CK := Hid.intro (fun (W : World) (hh : W.cell? ⟨bt, 0, none⟩ = some (.int .i64 bed)) => lclo_any l[j] bed bt W hh)
      generalize isBO bed l[j] = r at *
      generalize l[j] = s at *
      obtain ⟨a0, a1⟩ := s
      obtain ⟨c0, c1⟩ := hw
      simp only at c0 c1
      have BN := (Below.refl _ wr).alloc (Nat.le_refl _) (.cells #[.int .i64 a0, .int .i64 a1] 62)
      have BNH := Hid.intro BN
      have hB0 := cell_chg CH.out HC.out hbg
      have CL := Hid.intro (CK.out _ (cell_chg (below_chg BN) hB0 id))
      have gl : g < wr.heap.size := (World.ownsRow.lt ow g rfl).2
      have gn := Hid.intro (heap_alloc_new wr (.cells #[.int .i64 a0, .int .i64 a1] 62))
      cases r with
      | true =>
        have SKH := Hid.intro (SK.out rfl)
        clear PU SK ow wi CK BN hB0
        go_wp2_with fail
        refine CL.out.mono ?_
        rintro e w3 ⟨rfl, B3⟩
        have B4 := BNH.out.trans (B3.mono BNH.out.size)
        have FIN := Hid.intro (show DelAO g c l bed i (j + 1) w3 m ∧ Chg (fun k => k = g) w w3 from
          ⟨⟨ownsRow_keep SKH.out.own fun k hk => B4.block k (World.ownsRow.lt SKH.out.own k hk).2, SKH.out.len, SKH.out.head, SKH.out.tail, SKH.out.lt, SKH.out.le⟩, CH.out.trans (below_chg B4) (fun _ f _ => f.elim)⟩)
        clear CL B3 B4 SKH CH DH
        go_wp2
        go_roundw
        case rel =>
          refine ⟨_, _, _, _, _, _, _, _, _, _, _, _, _, _, _, _, _, _, _, _, _, _, _, ?_, rfl⟩
          exact ⟨i, j + 1, m, by omega, by omega, rfl, by go_num, FIN.out.1, FIN.out.2⟩
        case measure => simp [intOf]; omega
      | false =>
        have PUH := Hid.intro (PU.out rfl)
        have OWH := Hid.intro DH.out.own
        rw [← HL.out] at OWH
        have bng : ¬ wr.heap.size = g := by omega
        have gbn : ¬ g = wr.heap.size := by omega
        clear PU SK ow CK BN hB0
        go_wp2_with fail
        refine CL.out.mono ?_
        rintro e w3 ⟨rfl, B3⟩
        have B4 := BNH.out.trans (B3.mono BNH.out.size)
        have O3 := ownsRow_keep OWH.out fun k hk => B4.block k (World.ownsRow.lt OWH.out k hk).2
        have fz : ∀ o, w3.frozen? ⟨g, o, none⟩ = false := fun o => O3.frozenAt o
        have w3i := wi.chg (below_chg B4) id
        generalize m[i]'(by rw [DH.out.len]; omega) = b at w3i
        obtain ⟨b0, b1⟩ := b
        obtain ⟨e0, e1⟩ := w3i
        simp only at e0 e1
        have gn3 := (B3.block _ (lt_of_heap gn.out)).trans gn.out
        have d0 : w3.cell? ⟨wr.heap.size, 0, none⟩ = some (.int .i64 a0) := by rw [cell_of_row _ _ 0 _ _ _ gn3]; rfl
        have d1 : w3.cell? ⟨wr.heap.size, 1, none⟩ = some (.int .i64 a1) := by rw [cell_of_row _ _ 1 _ _ _ gn3]; rfl
        have FIN := Hid.intro (show DelAO g c l bed (i + 1) (j + 1) (setOC w3 g (i * 2) ⟨a0, a1⟩) (m.set i ⟨a0, a1⟩) ∧ Chg (fun k => k = g) w (setOC w3 g (i * 2) ⟨a0, a1⟩) from
          ⟨PUH.out _ (by rw [← HL.out]; exact owns_setOC O3 _), (CH.out.trans (below_chg B4) (fun _ f _ => f.elim)).trans (chg_setOC w3 g (i * 2) _) (fun _ z _ => z)⟩)
        clear CL B3 B4 CH DH O3 gn3 gn PUH OWH BNH wi c0 c1 gl
        generalize wr.heap.size = bn at *
        go_wp2
        go_roundw
        case rel =>
          refine ⟨_, _, _, _, _, _, _, _, _, _, _, _, _, _, _, _, _, _, _, _, _, _, _, ?_, rfl⟩
          exact ⟨i + 1, j + 1, _, by omega, by omega, by go_num, by go_num, FIN.out.1, FIN.out.2⟩
        case measure => simp [intOf]; omega
    · obtain rfl : j = L := by omega
      have j1 : ¬ (j : Int) < (j : Int) := by omega
      have OWH := Hid.intro DH.out.own
      rw [← HL.out] at OWH
      have hd := DH.out.head
      have tl : l.take j = l := List.take_of_length_le (by rw [← HL.out]; exact Nat.le_refl _)
      rw [tl] at hd
      clear tl
      have hKi : KL = i := by
        rw [HKL.out, ← hd, List.length_take, DH.out.len, ← HL.out]
        omega
      have fz : ∀ o, wr.frozen? ⟨g, o, none⟩ = false := fun o => OWH.out.frozenAt o
      have hcl := fun ty => run_clear_own wr g (i * 2) (j - i) (c - i) ty (by omega) (fun t ht => by
        have := OWH.out.cellAt (i * 2 + t) (by omega)
        rw [this]
        have hl2 := ocells_length m
        rw [DH.out.len, ← HL.out] at hl2
        rw [List.getElem?_eq_getElem (by omega)]
        rfl) fz
      have FIN : Hid ((wr.setCells g (i * 2) (zerosO (j - i))).ownsRow 0 62 2 (.slice (some ⟨g, 0, none⟩) i c) i (ocells (keptO l bed)) ∧ Chg (fun k => k = g) w (wr.setCells g (i * 2) (zerosO (j - i)))) := by
        obtain ⟨xs', o1, o2⟩ := owns_setCellsO (zerosO (j - i)) (i * 2) wr _ OWH.out (i * 2) (Nat.le_refl _)
        refine ⟨owns_cutO o1 (by omega) (by rw [← HKL.out]; exact hKi) ?_, CH.out.trans (chg_setCellsO _ _ _) (fun _ z _ => z)⟩
        rw [o2, ← hd]
        have hsp : ocells m = ocells (m.take i) ++ ocells (m.drop i) := by rw [← ocells_append, List.take_append_drop]
        rw [hsp, List.take_append_of_le_length (by rw [ocells_length, List.length_take, DH.out.len, ← HL.out]; omega), List.take_of_length_le (by rw [ocells_length, List.length_take, DH.out.len, ← HL.out]; omega)]
      subst hKi
      generalize wr.setCells g (KL * 2) (zerosO (j - KL)) = wz at *
      have k0 : (0 : Int) ≤ (KL : Int) := by omega
      have k1 : (KL : Int) ≤ (j : Int) := by omega
      have k2 : (KL : Int) ≤ (c : Int) := by omega
      have k3 : KL < c := by omega
      clear OWH hd CH DH fz
      go_wp2
      go_ret
      exact ⟨rfl, FIN.out⟩

theorem ldel_none (v : Value) (l : List (Int × Int)) (hl : l.length ≤ 100) (bed : Int) (bt : Nat) (hp : ∀ a ∈ l, isBO bed a = false) (w : World) (hc : w.cell? ⟨bt, 0, none⟩ = some (.int .i64 bed)) (own : w.ownsRow 0 62 2 v l.length (ocells l)) :
    Calls Try.prog 28 #[v, delO bt] w fun e w' => e = .returned v ∧ Below w.heap.size w w' := by
  have IX : Hid (Calls Try.prog 37 #[v, delO bt] w fun e w' => e = .returned (.int .i64 (-1)) ∧ Below w.heap.size w w') := by
    rcases own.2 with ⟨hv, h0⟩ | ⟨g, cap, cur, hv, _⟩
    · subst hv
      clear own
      rw [Hid]
      go_enter Try.func37, Try.ntmps37
      go_wp2_with fail
      go_loopw [8] (fun i ws => i = .int .i64 0 ∧ ws = w) (fun i _ => (intOf i).toNat)
      case atStart => exact ⟨rfl, rfl⟩
      case round =>
        obtain ⟨rfl, rfl⟩ := hrel
        go_wp2
        go_ret
        exact ⟨rfl, Below.refl _ _⟩
    · subst hv
      have q := lifunc_any g cap l hl bed bt w hc own
      rw [posO_miss (fun j hj => hp _ (List.getElem_mem hj))] at q
      exact q
  obtain ⟨ao, c, rfl, _⟩ := ownsRow_form own
  clear own hp hc
  go_enter Try.func28, Try.ntmps28
  go_wp2_with fail
  refine IX.out.mono ?_
  rintro e w1 ⟨rfl, B1⟩
  have BH := Hid.intro B1
  clear B1 IX
  go_wp2
  go_ret
  exact ⟨rfl, BH.out⟩

/-- What a deletion leaves. -/
def DelEO (w w' : World) (v v' : Value) (l : List (Int × Int)) : Prop := v'.ownBlock = v.ownBlock ∧ w'.ownsRow 0 62 2 v' l.length (ocells l) ∧ Chg (fun k => v.ownBlock = some k) w w'

theorem ldel_any (v : Value) (l : List (Int × Int)) (hl : l.length ≤ 100) (bed : Int) (bt : Nat) (hbv : v.ownBlock ≠ some bt) (w : World) (hc : w.cell? ⟨bt, 0, none⟩ = some (.int .i64 bed)) (own : w.ownsRow 0 62 2 v l.length (ocells l)) :
    Calls Try.prog 28 #[v, delO bt] w fun e w' => ∃ v', e = .returned v' ∧ DelEO w w' v v' (keptO l bed) := by
  rcases posO_all (l := l) (bed := bed) with ⟨hp, hall⟩ | ⟨i, hi, hp, hd, hno⟩
  · have e : keptO l bed = l := by
      unfold keptO
      rw [List.filter_eq_self]
      intro a ha
      rw [hall a ha]
      rfl
    rw [e]
    refine (ldel_none v l hl bed bt hall w hc own).mono ?_
    rintro e w' ⟨rfl, B⟩
    exact ⟨v, rfl, rfl, ownsRow_keep own fun k hk => B.block k (World.ownsRow.lt own k hk).2, (below_chg B).mono (fun _ f _ => f.elim)⟩
  · rcases own.2 with ⟨hv, h0⟩ | ⟨g, cap, cur, hv, _, _, hcap, _⟩
    · omega
    · subst hv
      refine (ldel_in g cap l hl hcap bed bt (fun q => hbv (by rw [q]; rfl)) i hi hp hd hno w hc own).mono ?_
      rintro e w' ⟨rfl, O, C⟩
      exact ⟨_, rfl, rfl, O, C.mono (fun k hk _ => by rw [hk]; rfl)⟩

end Go.Proofs.Ytcloneccfbcclaa
