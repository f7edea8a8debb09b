/- slices.DeleteFunc over a row of alarms of one's own, by whatever predicate. -/
import Derived.Test.YtbeeigfcchjdlaaPnIx
namespace Go.Proofs.Ytbeeigfcchjdlaa
open Go.RowKit
open Pn

/-- Those that a deletion leaves. -/
def delA (p : Al → Bool) (l : List Al) : List Al := l.filter fun x => !p x

/-- Cells written from a place on: what lies ahead stays. -/
theorem owns_setCellsA {g c n : Nat} : ∀ (vs : List Value) (o : Nat) (w : World) (xs : List Value), w.ownsRow 0 48 5 (.slice (some ⟨g, 0, none⟩) n c) n xs → ∀ o0, o0 ≤ o → ∃ xs', (w.setCells g o vs).ownsRow 0 48 5 (.slice (some ⟨g, 0, none⟩) n c) n xs' ∧ xs'.take o0 = xs.take o0
  | [], _, _, xs, h, _, _ => ⟨xs, h, rfl⟩
  | v :: vs, o, w, xs, h, o0, ho => by
    obtain ⟨xs', h1, h2⟩ := owns_setCellsA vs (o + 1) (w.setCell ⟨g, o, none⟩ v) (xs.set o v) (World.ownsRow.stored h o v).1 o0 (by omega)
    refine ⟨xs', h1, ?_⟩
    rw [h2, List.take_set_of_le ho]

theorem chg_setCellsA {g : Nat} : ∀ (vs : List Value) (o : Nat) (w : World), Chg (fun k => k = g) w (w.setCells g o vs)
  | [], _, w => Chg.refl _ w
  | v :: vs, o, w => ((Chg.refl (fun k => k = g) w).setCell (p := ⟨g, o, none⟩) (fun _ => rfl) v).trans (chg_setCellsA vs (o + 1) _) (fun _ q _ => q)

/-- The first ones of a row alone. -/
theorem owns_cutA {w : World} {g c n i : Nat} {xs : List Value} {l : List Al} (h : w.ownsRow 0 48 5 (.slice (some ⟨g, 0, none⟩) n c) n xs) (hi : i ≤ n) (hl : l.length = i) (hx : xs.take (i * 5) = acells l) : w.ownsRow 0 48 5 (.slice (some ⟨g, 0, none⟩) i c) i (acells l) := by
  refine ⟨by rw [acells_length, hl], ?_⟩
  rcases h.2 with ⟨hv, _⟩ | ⟨g', cap, cur, hv, hb, hg, hn, hm, hs, ht⟩
  · cases hv
  · simp only [Value.slice.injEq, Option.some.injEq, Addr.mk.injEq] at hv
    obtain ⟨⟨rfl, _, _⟩, _, rfl⟩ := hv
    refine .inr ⟨g, c, cur, rfl, hb, hg, by omega, hm, hs, ?_⟩
    rw [← hx, ← ht, List.take_take, Nat.min_eq_left (by omega)]

/-- The cells of so many zero ones. -/
def zerosA (n : Nat) : List Value := (Builtin.zeroCells #[.int .i64 0, .int .i64 0, .int .i64 0, .bool false, .bool false] n).toList

theorem zerosA_length (n : Nat) : (zerosA n).length = n * 5 := by simp [zerosA, Builtin.zeroCells]

theorem zerosA_one (n : Nat) : ∀ v ∈ zerosA n, v.oneCell' = true := by
  intro v hv
  simp only [zerosA, Builtin.zeroCells, Array.toList_map, Array.toList_range, List.mem_map, List.mem_range] at hv
  obtain ⟨i, _, rfl⟩ := hv
  have h2 : i % 5 < 5 := Nat.mod_lt _ (by decide)
  show Value.oneCell' (#[.int .i64 0, .int .i64 0, .int .i64 0, .bool false, .bool false][i % 5]!) = true
  generalize i % 5 = r at h2
  match r, h2 with
  | 0, _ => rfl
  | 1, _ => rfl
  | 2, _ => rfl
  | 3, _ => rfl
  | 4, _ => rfl

theorem run_clear_al (w : World) (g o n c : Nat) (ty : TypeId) (hn : 0 < n) (hc : ∀ j, j < n * 5 → (w.cell? ⟨g, o + j, none⟩).isSome = true) (hf : ∀ j, w.frozen? ⟨g, j, none⟩ = false) :
    (Builtin.clear_ #[45] ty #[.slice (some ⟨g, o, none⟩) n c]).run Try.prog w = .ok (.tuple #[]) (w.setCells g o (zerosA n)) := by
  have hst := run_storeCells_cells (P := Try.prog) g o (zerosA n) 0 w (fun j hj => by rw [Nat.add_zero]; exact hc j (by rw [zerosA_length] at hj; exact hj)) (fun j _ => hf _) (zerosA_one n)
  simp only [Nat.add_zero] at hst
  obtain ⟨m, rfl⟩ : ∃ m, n = m + 1 := ⟨n - 1, by omega⟩
  simp [Builtin.clear_, run_underlying Try.underlying45, Value.cells, zerosA] at hst ⊢
  simp [hst]

/-- A deletion under way: the first i places hold those of the first j that stay; from j on all is as it was. -/
structure DelAA (g c : Nat) (l : List Al) (p : Al → Bool) (i j : Nat) (ws : World) (m : List Al) : Prop where
  own : ws.ownsRow 0 48 5 (.slice (some ⟨g, 0, none⟩) l.length c) l.length (acells m)
  len : m.length = l.length
  head : m.take i = delA p (l.take j)
  tail : ∀ k, j ≤ k → (hk : k < l.length) → m[k]'(by rw [len]; exact hk) = l[k]
  lt : i < j
  le : j ≤ l.length

theorem delA_take {l : List Al} {p : Al → Bool} {j : Nat} (h : j < l.length) : delA p (l.take (j + 1)) = delA p (l.take j) ++ (if p l[j] = true then [] else [l[j]]) := by
  unfold delA
  rw [List.take_add_one, List.getElem?_eq_getElem h, List.filter_append]
  congr 1
  simp only [Option.toList_some]
  cases q : p l[j] <;> simp [q]

theorem DelAA.skip {g c : Nat} {l m : List Al} {p : Al → Bool} {i j : Nat} {ws : World} (h : DelAA g c l p i j ws m) (hj : j < l.length) (hd : p l[j] = true) : DelAA g c l p i (j + 1) ws m :=
  ⟨h.own, h.len, by rw [h.head, delA_take hj, if_pos hd, List.append_nil], fun k hk hk2 => h.tail k (by omega) hk2, by have := h.lt; omega, by omega⟩

theorem DelAA.put {g c : Nat} {l m : List Al} {p : Al → Bool} {i j : Nat} {ws w' : World} (h : DelAA g c l p i j ws m) (hj : j < l.length) (hd : p l[j] = false)
    (own : w'.ownsRow 0 48 5 (.slice (some ⟨g, 0, none⟩) l.length c) l.length (acells (m.set i l[j]))) : DelAA g c l p (i + 1) (j + 1) w' (m.set i l[j]) := by
  have hi := h.lt
  have hl := h.len
  refine ⟨own, by rw [List.length_set, hl], ?_, fun k hk hk2 => ?_, by omega, by omega⟩
  · rw [delA_take hj, hd, ← h.head, List.take_add_one, List.getElem?_set_self (by omega), List.take_set_of_le (Nat.le_refl _)]
    simp
  · rw [List.getElem_set_ne (by omega)]
    exact h.tail k (by omega) hk2

set_option maxRecDepth 100000 in
set_option maxHeartbeats 4000000 in
theorem pdel_in (gf : Nat) (cb : Array Value) (p : Al → Bool) (eg : ∀ args w, (callFunc gf args).run Try.prog w = .ok (.enter gf args) w) (g c : Nat) (l : List Al) (hl : l.length ≤ 100) (hcap : l.length ≤ c) (i0 : Nat) (hi0 : i0 < l.length) (hp : posA p l = (i0 : Int)) (hd : p l[i0] = true) (hno : ∀ a ∈ l.take i0, p a = false) (w : World) (hc : Pred gf cb p g w)
    (own : w.ownsRow 0 48 5 (.slice (some ⟨g, 0, none⟩) l.length c) l.length (acells l)) :
    Calls Try.prog 40 #[.slice (some ⟨g, 0, none⟩) l.length c, .func (.func gf) #[] cb] w fun e w' => e = .returned (.slice (some ⟨g, 0, none⟩) (delA p l).length c) ∧ w'.ownsRow 0 48 5 (.slice (some ⟨g, 0, none⟩) (delA p l).length c) (delA p l).length (acells (delA p l)) ∧ Chg (fun k => k = g) w w' := by
  have IX := Hid.intro (pifunc_any gf cb p eg g c l hl w hc own)
  rw [hp] at IX
  have HK : delA p (l.take (i0 + 1)) = l.take i0 := by
    rw [delA_take hi0, if_pos hd, List.append_nil]
    unfold delA
    rw [List.filter_eq_self]
    intro a ha
    rw [hno a ha]
    rfl
  have ST := Hid.intro (fun (W : World) (B : Below w.heap.size w W) => (⟨ownsRow_keep own fun k hk => B.block k (World.ownsRow.lt own k hk).2, rfl, HK.symm, fun _ _ _ => rfl, by omega, by omega⟩ : DelAA g c l p i0 (i0 + 1) W l))
  have HC := Hid.intro hc
  obtain ⟨L, hL⟩ : ∃ L, L = l.length := ⟨_, rfl⟩
  have HL := Hid.intro hL
  obtain ⟨KL, hKL⟩ : ∃ KL, KL = (delA p l).length := ⟨_, rfl⟩
  have HKL := Hid.intro hKL
  rw [← hL] at hl hcap hi0 IX ⊢
  rw [← hKL]
  have i1 : (i0 : Int) < (L : Int) := by omega
  have im : ¬ (i0 : Int) = -1 := by omega
  clear own hc hp hd hno HK hL hKL
  go_enter Try.func40, Try.ntmps40
  go_wp2_with fail
  refine IX.out.mono ?_
  rintro e w1 ⟨rfl, B1⟩
  have D1 := Hid.intro (ST.out w1 B1)
  have C1 := Hid.intro ((below_chg B1).mono (T := fun k => k = g) (fun _ f _ => f.elim))
  clear IX ST B1
  go_wp2_with fail
  go_loopw [5, 6] (fun iv jv ws => ∃ (i j : Nat) (m : List Al), j ≤ L ∧ i < j ∧ iv = .int .i64 i ∧ jv = .int .i64 j ∧ DelAA g c l p i j ws m ∧ Chg (fun k => k = g) w ws) (fun _ jv _ => L - (intOf jv).toNat)
  case atStart => exact ⟨i0, i0 + 1, l, by omega, by omega, rfl, by go_num, D1.out, C1.out⟩
  case round =>
    clear D1 C1
    obtain ⟨i, j, m, hjL, hij, rfl, rfl, hD, hC⟩ := hrel
    have DH := Hid.intro hD
    have CH := Hid.intro hC
    clear hD hC
    by_cases hlt : j < L
    · have hlt' : j < l.length := by rw [← HL.out]; exact hlt
      have j0 : (0 : Int) ≤ (j : Int) := by omega
      have j1 : (j : Int) < (L : Int) := by omega
      have ii0 : (0 : Int) ≤ (i : Int) := by omega
      have ii1 : (i : Int) < (L : Int) := by omega
      have ow := DH.out.own
      rw [← DH.out.len] at ow
      have hw := al_at ow (t := j) (by rw [DH.out.len]; exact hlt')
      rw [DH.out.tail j (Nat.le_refl _) hlt'] at hw
      have wi := al_at ow (t := i) (by rw [DH.out.len]; omega)
      have SK := Hid.intro (fun (e : p l[j] = true) => DH.out.skip hlt' e)
      have PU := Hid.intro (fun (e : p l[j] = false) (w' : World) o => DH.out.put (w' := w') hlt' e o)
      have CK := Hid.intro (fun (W : World) hW => HC.out l[j] W hW)
      generalize p l[j] = r at *
      generalize l[j] = s at *
      obtain ⟨a0, a1, a2, a3, a4⟩ := s
      obtain ⟨c0, c1, c2, c3, c4⟩ := hw
      simp only at c0 c1 c2 c3 c4
      have BN := (Below.refl _ wr).alloc (Nat.le_refl _) (.cells #[.int .i64 a0, .int .i64 a1, .int .i64 a2, .bool a3, .bool a4] 48)
      have BNH := Hid.intro BN
      have CL := Hid.intro (CK.out _ (CH.out.trans (below_chgA BN) (fun _ q _ => q)))
      have gl : g < wr.heap.size := (World.ownsRow.lt ow g rfl).2
      have gn := Hid.intro (heap_alloc_new wr (.cells #[.int .i64 a0, .int .i64 a1, .int .i64 a2, .bool a3, .bool a4] 48))
      cases r with
      | true =>
        have SKH := Hid.intro (SK.out rfl)
        clear PU SK ow wi CK BN
        go_wp2_with fail
        refine CL.out.mono ?_
        rintro e w3 ⟨rfl, B3⟩
        have B4 := BNH.out.trans (B3.mono BNH.out.size)
        have FIN := Hid.intro (show DelAA g c l p i (j + 1) w3 m ∧ Chg (fun k => k = g) w w3 from
          ⟨⟨ownsRow_keep SKH.out.own fun k hk => B4.block k (World.ownsRow.lt SKH.out.own k hk).2, SKH.out.len, SKH.out.head, SKH.out.tail, SKH.out.lt, SKH.out.le⟩, CH.out.trans (below_chg B4) (fun _ f _ => f.elim)⟩)
        clear CL B3 B4 SKH CH DH
        go_wp2
        go_roundw
        case rel =>
          refine ⟨_, _, _, _, _, _, _, _, _, _, _, _, _, _, _, _, _, _, _, _, _, _, _, ?_, rfl⟩
          exact ⟨i, j + 1, m, by omega, by omega, rfl, by go_num, FIN.out.1, FIN.out.2⟩
        case measure => simp [intOf]; omega
      | false =>
        have PUH := Hid.intro (PU.out rfl)
        have OWH := Hid.intro DH.out.own
        rw [← HL.out] at OWH
        have bng : ¬ wr.heap.size = g := by omega
        have gbn : ¬ g = wr.heap.size := by omega
        clear PU SK ow CK BN
        go_wp2_with fail
        refine CL.out.mono ?_
        rintro e w3 ⟨rfl, B3⟩
        have B4 := BNH.out.trans (B3.mono BNH.out.size)
        have O3 := ownsRow_keep OWH.out fun k hk => B4.block k (World.ownsRow.lt OWH.out k hk).2
        have fz : ∀ o, w3.frozen? ⟨g, o, none⟩ = false := fun o => O3.frozenAt o
        have w3i := wi.chg (below_chg B4) id
        generalize m[i]'(by rw [DH.out.len]; omega) = b at w3i
        obtain ⟨b0, b1, b2, b3, b4⟩ := b
        obtain ⟨e0, e1, e2, e3, e4⟩ := w3i
        simp only at e0 e1 e2 e3 e4
        have gn3 := (B3.block _ (lt_of_heap gn.out)).trans gn.out
        have d0 : w3.cell? ⟨wr.heap.size, 0, none⟩ = some (.int .i64 a0) := by rw [cell_of_row _ _ 0 _ _ _ gn3]; rfl
        have d1 : w3.cell? ⟨wr.heap.size, 1, none⟩ = some (.int .i64 a1) := by rw [cell_of_row _ _ 1 _ _ _ gn3]; rfl
        have d2 : w3.cell? ⟨wr.heap.size, 2, none⟩ = some (.int .i64 a2) := by rw [cell_of_row _ _ 2 _ _ _ gn3]; rfl
        have d3 : w3.cell? ⟨wr.heap.size, 3, none⟩ = some (.bool a3) := by rw [cell_of_row _ _ 3 _ _ _ gn3]; rfl
        have d4 : w3.cell? ⟨wr.heap.size, 4, none⟩ = some (.bool a4) := by rw [cell_of_row _ _ 4 _ _ _ gn3]; rfl
        have FIN := Hid.intro (show DelAA g c l p (i + 1) (j + 1) (setAC w3 g (i * 5) ⟨a0, a1, a2, a3, a4⟩) (m.set i ⟨a0, a1, a2, a3, a4⟩) ∧ Chg (fun k => k = g) w (setAC w3 g (i * 5) ⟨a0, a1, a2, a3, a4⟩) from
          ⟨PUH.out _ (by rw [← HL.out]; exact owns_setAC (by rw [DH.out.len]; omega) O3 _), (CH.out.trans (below_chg B4) (fun _ f _ => f.elim)).trans (chg_setAC w3 g (i * 5) _) (fun _ z _ => z)⟩)
        clear CL B3 B4 CH DH O3 gn3 gn PUH OWH BNH wi c0 c1 c2 c3 c4 gl
        generalize wr.heap.size = bn at *
        go_wp2
        go_roundw
        case rel =>
          refine ⟨_, _, _, _, _, _, _, _, _, _, _, _, _, _, _, _, _, _, _, _, _, _, _, ?_, rfl⟩
          exact ⟨i + 1, j + 1, _, by omega, by omega, by go_num, by go_num, FIN.out.1, FIN.out.2⟩
        case measure => simp [intOf]; omega
    · obtain rfl : j = L := by omega
      have j1 : ¬ (j : Int) < (j : Int) := by omega
      have OWH := Hid.intro DH.out.own
      rw [← HL.out] at OWH
      have hd := DH.out.head
      have tl : l.take j = l := List.take_of_length_le (by rw [← HL.out]; exact Nat.le_refl _)
      rw [tl] at hd
      clear tl
      have hKi : KL = i := by
        rw [HKL.out, ← hd, List.length_take, DH.out.len, ← HL.out]
        omega
      have fz : ∀ o, wr.frozen? ⟨g, o, none⟩ = false := fun o => OWH.out.frozenAt o
      have hcl := fun ty => run_clear_al wr g (i * 5) (j - i) (c - i) ty (by omega) (fun t ht => by
        have := OWH.out.cellAt (i * 5 + t) (by omega)
        rw [this]
        have hl2 := acells_length m
        rw [DH.out.len, ← HL.out] at hl2
        rw [List.getElem?_eq_getElem (by omega)]
        rfl) fz
      have FIN : Hid ((wr.setCells g (i * 5) (zerosA (j - i))).ownsRow 0 48 5 (.slice (some ⟨g, 0, none⟩) i c) i (acells (delA p l)) ∧ Chg (fun k => k = g) w (wr.setCells g (i * 5) (zerosA (j - i)))) := by
        obtain ⟨xs', o1, o2⟩ := owns_setCellsA (zerosA (j - i)) (i * 5) wr _ OWH.out (i * 5) (Nat.le_refl _)
        refine ⟨owns_cutA o1 (by omega) (by rw [← HKL.out]; exact hKi) ?_, CH.out.trans (chg_setCellsA _ _ _) (fun _ z _ => z)⟩
        rw [o2, ← hd]
        have hsp : acells m = acells (m.take i) ++ acells (m.drop i) := by rw [← acells_append, List.take_append_drop]
        rw [hsp, List.take_append_of_le_length (by rw [acells_length, List.length_take, DH.out.len, ← HL.out]; omega), List.take_of_length_le (by rw [acells_length, List.length_take, DH.out.len, ← HL.out]; omega)]
      subst hKi
      generalize wr.setCells g (KL * 5) (zerosA (j - KL)) = wz at *
      have k0 : (0 : Int) ≤ (KL : Int) := by omega
      have k1 : (KL : Int) ≤ (j : Int) := by omega
      have k2 : (KL : Int) ≤ (c : Int) := by omega
      have k3 : KL < c := by omega
      clear OWH hd CH DH fz
      go_wp2
      go_ret
      exact ⟨rfl, FIN.out⟩

theorem pdel_none (gf : Nat) (cb : Array Value) (p : Al → Bool) (eg : ∀ args w, (callFunc gf args).run Try.prog w = .ok (.enter gf args) w) (v : Value) (l : List Al) (hl : l.length ≤ 100) (hp : ∀ a ∈ l, p a = false) (w : World) (hc : Pred gf cb p (blkA v) w) (own : w.ownsRow 0 48 5 v l.length (acells l)) :
    Calls Try.prog 40 #[v, .func (.func gf) #[] cb] w fun e w' => e = .returned v ∧ Below w.heap.size w w' := by
  have IX := Hid.intro (pifunc_all gf cb p eg v l hl w hc own)
  rw [posA_miss (fun j hj => hp _ (List.getElem_mem hj))] at IX
  obtain ⟨ao, c, rfl, _⟩ := ownsRow_form own
  clear own hp hc
  go_enter Try.func40, Try.ntmps40
  go_wp2_with fail
  refine IX.out.mono ?_
  rintro e w1 ⟨rfl, B1⟩
  have BH := Hid.intro B1
  clear B1 IX
  go_wp2
  go_ret
  exact ⟨rfl, BH.out⟩

/-- What a deletion leaves. -/
def DelEA (w w' : World) (v v' : Value) (l : List Al) : Prop := v'.ownBlock = v.ownBlock ∧ w'.ownsRow 0 48 5 v' l.length (acells l) ∧ Chg (fun k => v.ownBlock = some k) w w'

theorem pdel_any (gf : Nat) (cb : Array Value) (p : Al → Bool) (eg : ∀ args w, (callFunc gf args).run Try.prog w = .ok (.enter gf args) w) (v : Value) (l : List Al) (hl : l.length ≤ 100) (w : World) (hc : Pred gf cb p (blkA v) w) (own : w.ownsRow 0 48 5 v l.length (acells l)) :
    Calls Try.prog 40 #[v, .func (.func gf) #[] cb] w fun e w' => ∃ ao c, e = .returned (.slice ao (delA p l).length c) ∧ DelEA w w' v (.slice ao (delA p l).length c) (delA p l) := by
  rcases posA_ways p l with ⟨hp, _, hall⟩ | ⟨i, hi, hp, _, hd, hno⟩
  · have e : delA p l = l := by
      unfold delA
      rw [List.filter_eq_self]
      intro a ha
      rw [hall a ha]
      rfl
    rw [e]
    obtain ⟨ao, c, rfl, _⟩ := ownsRow_form own
    refine (pdel_none gf cb p eg _ l hl hall w hc own).mono ?_
    rintro e w' ⟨rfl, B⟩
    exact ⟨ao, c, rfl, rfl, ownsRow_keep own fun k hk => B.block k (World.ownsRow.lt own k hk).2, (below_chg B).mono (fun _ f _ => f.elim)⟩
  · rcases own.2 with ⟨hv, h0⟩ | ⟨g, cap, cur, hv, _, _, hcap, _⟩
    · omega
    · subst hv
      refine (pdel_in gf cb p eg g cap l hl hcap i hi hp hd hno w hc own).mono ?_
      rintro e w' ⟨rfl, O, C⟩
      exact ⟨_, _, rfl, rfl, O, C.mono (fun k hk _ => by rw [hk]; rfl)⟩

end Go.Proofs.Ytbeeigfcchjdlaa
