/- Package edf: slices.DeleteFunc of a line, Drop. -/
import Derived.Test.YtgcpkploeobafaaEdKa
import Derived.Test.YtgcpkploeobafaaHpI
namespace Go.Proofs.Ytgcpkploeobafaa
open Go.RowKit
open Bt

/-- Those that stay. -/
def keptW (l : List It) (bed : Int) : List It := l.filter (fun a => !isBd bed a)

/-- A deletion under way: the first i places hold those of the first j that stay; from j on all is as it was. -/
structure DelA (g c : Nat) (l : List It) (bed : Int) (i j : Nat) (ws : World) (m : List It) : Prop where
  own : ws.ownsRow 0 56 8 (.slice (some ⟨g, 0, none⟩) l.length c) l.length (wcells m)
  len : m.length = l.length
  head : m.take i = keptW (l.take j) bed
  tail : ∀ k, j ≤ k → (hk : k < l.length) → m[k]'(by rw [len]; exact hk) = l[k]
  lt : i < j
  le : j ≤ l.length

theorem keptW_take {l : List It} {bed : Int} {j : Nat} (h : j < l.length) : keptW (l.take (j + 1)) bed = keptW (l.take j) bed ++ (if isBd bed l[j] = true then [] else [l[j]]) := by
  unfold keptW
  rw [List.take_add_one, List.getElem?_eq_getElem h, List.filter_append]
  congr 1
  simp only [Option.toList_some]
  cases q : isBd bed l[j] <;> simp [q]

theorem DelA.skip {g c : Nat} {l m : List It} {bed : Int} {i j : Nat} {ws : World} (h : DelA g c l bed i j ws m) (hj : j < l.length) (hd : isBd bed l[j] = true) : DelA g c l bed i (j + 1) ws m :=
  ⟨h.own, h.len, by rw [h.head, keptW_take hj, if_pos hd, List.append_nil], fun k hk hk2 => h.tail k (by omega) hk2, by have := h.lt; omega, by omega⟩

theorem DelA.put {g c : Nat} {l m : List It} {bed : Int} {i j : Nat} {ws w' : World} (h : DelA g c l bed i j ws m) (hj : j < l.length) (hd : isBd bed l[j] = false)
    (own : w'.ownsRow 0 56 8 (.slice (some ⟨g, 0, none⟩) l.length c) l.length (wcells (m.set i l[j]))) : DelA g c l bed (i + 1) (j + 1) w' (m.set i l[j]) := by
  have hi := h.lt
  have hl := h.len
  refine ⟨own, by rw [List.length_set, hl], ?_, fun k hk hk2 => ?_, by omega, by omega⟩
  · rw [keptW_take hj, hd, ← h.head, List.take_add_one, List.getElem?_set_self (by omega), List.take_set_of_le (Nat.le_refl _)]
    simp
  · rw [List.getElem_set_ne (by omega)]
    exact h.tail k (by omega) hk2

set_option maxRecDepth 100000 in
set_option maxHeartbeats 4000000 in
theorem edel_in (g c : Nat) (l : List It) (hl : l.length ≤ 100) (hcap : l.length ≤ c) (bed : Int) (bt : Nat) (hbg : bt ≠ g) (i0 : Nat) (hi0 : i0 < l.length) (hp : posW l bed = (i0 : Int)) (hd : isBd bed l[i0] = true) (hno : ∀ a ∈ l.take i0, isBd bed a = false) (w : World) (hc : w.cell? ⟨bt, 0, none⟩ = some (.int .i64 bed))
    (own : w.ownsRow 0 56 8 (.slice (some ⟨g, 0, none⟩) l.length c) l.length (wcells l)) :
    Calls Try.prog 27 #[.slice (some ⟨g, 0, none⟩) l.length c, delF bt] w fun e w' => e = .returned (.slice (some ⟨g, 0, none⟩) (keptW l bed).length c) ∧ w'.ownsRow 0 56 8 (.slice (some ⟨g, 0, none⟩) (keptW l bed).length c) (keptW l bed).length (wcells (keptW l bed)) ∧ Chg (fun k => k = g) w w' := by
  have IX := Hid.intro (wifunc_any g c l hl bed bt w hc own)
  rw [hp] at IX
  have HK : keptW (l.take (i0 + 1)) bed = l.take i0 := by
    rw [keptW_take hi0, if_pos hd, List.append_nil]
    unfold keptW
    rw [List.filter_eq_self]
    intro a ha
    rw [hno a ha]
    rfl
  have ST := Hid.intro (fun (W : World) (B : Below w.heap.size w W) => (⟨ownsRow_keep own fun k hk => B.block k (World.ownsRow.lt own k hk).2, rfl, HK.symm, fun _ _ _ => rfl, by omega, by omega⟩ : DelA g c l bed i0 (i0 + 1) W l))
  have HC := Hid.intro hc
  obtain ⟨L, hL⟩ : ∃ L, L = l.length := ⟨_, rfl⟩
  have HL := Hid.intro hL
  obtain ⟨KL, hKL⟩ : ∃ KL, KL = (keptW l bed).length := ⟨_, rfl⟩
  have HKL := Hid.intro hKL
  rw [← hL] at hl hcap hi0 IX ⊢
  rw [← hKL]
  have i1 : (i0 : Int) < (L : Int) := by omega
  have im : ¬ (i0 : Int) = -1 := by omega
  clear own hc hp hd hno HK hL hKL
  go_enter Try.func27, Try.ntmps27
  go_wp2_with fail
  refine IX.out.mono ?_
  rintro e w1 ⟨rfl, B1⟩
  have D1 := Hid.intro (ST.out w1 B1)
  have C1 := Hid.intro ((below_chg B1).mono (T := fun k => k = g) (fun _ f _ => f.elim))
  clear IX ST B1
  go_wp2_with fail
  go_loopw [5, 6] (fun iv jv ws => ∃ (i j : Nat) (m : List It), j ≤ L ∧ i < j ∧ iv = .int .i64 i ∧ jv = .int .i64 j ∧ DelA g c l bed i j ws m ∧ Chg (fun k => k = g) w ws) (fun _ jv _ => L - (intOf jv).toNat)
  case atStart => exact ⟨i0, i0 + 1, l, by omega, by omega, rfl, by go_num, D1.out, C1.out⟩
  case round =>
    clear D1 C1
    obtain ⟨i, j, m, hjL, hij, rfl, rfl, hD, hC⟩ := hrel
    have DH := Hid.intro hD
    have CH := Hid.intro hC
    clear hD hC
    by_cases hlt : j < L
    · have hlt' : j < l.length := by rw [← HL.out]; exact hlt
      have j0 : (0 : Int) ≤ (j : Int) := by omega
      have j1 : (j : Int) < (L : Int) := by omega
      have ii0 : (0 : Int) ≤ (i : Int) := by omega
      have ii1 : (i : Int) < (L : Int) := by omega
      have ow := DH.out.own
      rw [← DH.out.len] at ow
      have hw := wt_of_owns ow (i := j) (by rw [DH.out.len]; exact hlt')
      rw [DH.out.tail j (Nat.le_refl _) hlt'] at hw
      have wi := wt_of_owns ow (i := i) (by rw [DH.out.len]; omega)
      have SK := Hid.intro (fun (e : isBd bed l[j] = true) => DH.out.skip hlt' e)
      have PU := Hid.intro (fun (e : isBd bed l[j] = false) (w' : World) o => DH.out.put (w' := w') hlt' e o)
      have CK := Hid.intro (fun (W : World) (hh : W.cell? ⟨bt, 0, none⟩ = some (.int .i64 bed)) => eclo_any l[j] bed bt W hh)
      generalize isBd bed l[j] = r at *
      generalize l[j] = s at *
      obtain ⟨⟨a0, a1, a2, a3, a4, a5, a6⟩, na⟩ := s
      obtain ⟨c0, c1, c2, c3, c4, c5, c6, c7⟩ := hw
      simp only at c0 c1 c2 c3 c4 c5 c6 c7
      have BN := (Below.refl _ wr).alloc (Nat.le_refl _) (.cells #[.int .i64 a0, .int .i64 a1, .int .i64 a2, .int .i64 a3, .int .i64 a4, .int .i64 a5, .int .i64 a6, .int .i64 (na : Int)] 56)
      have BNH := Hid.intro BN
      have hB0 := cell_chg CH.out HC.out hbg
      have CL := Hid.intro (CK.out _ (cellB BN hB0))
      have gl : g < wr.heap.size := (World.ownsRow.lt ow g rfl).2
      have gn := Hid.intro (heap_alloc_new wr (.cells #[.int .i64 a0, .int .i64 a1, .int .i64 a2, .int .i64 a3, .int .i64 a4, .int .i64 a5, .int .i64 a6, .int .i64 (na : Int)] 56))
      cases r with
      | true =>
        have SKH := Hid.intro (SK.out rfl)
        clear PU SK ow wi CK BN hB0
        go_wp2_with fail
        refine CL.out.mono ?_
        rintro e w3 ⟨rfl, B3⟩
        have B4 := BNH.out.trans (B3.mono BNH.out.size)
        have FIN := Hid.intro (show DelA g c l bed i (j + 1) w3 m ∧ Chg (fun k => k = g) w w3 from
          ⟨⟨ownsRow_keep SKH.out.own fun k hk => B4.block k (World.ownsRow.lt SKH.out.own k hk).2, SKH.out.len, SKH.out.head, SKH.out.tail, SKH.out.lt, SKH.out.le⟩, CH.out.trans (below_chg B4) (fun _ f _ => f.elim)⟩)
        clear CL B3 B4 SKH CH DH
        go_wp2
        go_roundw
        case rel =>
          refine ⟨_, _, _, _, _, _, _, _, _, _, _, _, _, _, _, _, _, _, _, _, _, _, _, ?_, rfl⟩
          exact ⟨i, j + 1, m, by omega, by omega, rfl, by go_num, FIN.out.1, FIN.out.2⟩
        case measure => simp [intOf]; omega
      | false =>
        have PUH := Hid.intro (PU.out rfl)
        have OWH := Hid.intro DH.out.own
        rw [← HL.out] at OWH
        have bng : ¬ wr.heap.size = g := by omega
        have gbn : ¬ g = wr.heap.size := by omega
        clear PU SK ow CK BN hB0
        go_wp2_with fail
        refine CL.out.mono ?_
        rintro e w3 ⟨rfl, B3⟩
        have B4 := BNH.out.trans (B3.mono BNH.out.size)
        have O3 := ownsRow_keep OWH.out fun k hk => B4.block k (World.ownsRow.lt OWH.out k hk).2
        have fz : ∀ o, w3.frozen? ⟨g, o, none⟩ = false := fun o => O3.frozenAt o
        have w3i := wi.chg (below_chg B4) id
        generalize m[i]'(by rw [DH.out.len]; omega) = b at w3i
        obtain ⟨⟨b0, b1, b2, b3, b4, b5, b6⟩, nb⟩ := b
        obtain ⟨e0, e1, e2, e3, e4, e5, e6, e7⟩ := w3i
        simp only at e0 e1 e2 e3 e4 e5 e6 e7
        have gn3 := (B3.block _ (lt_of_heap gn.out)).trans gn.out
        have d0 : w3.cell? ⟨wr.heap.size, 0, none⟩ = some (.int .i64 a0) := by rw [cell_of_row _ _ 0 _ _ _ gn3]; rfl
        have d1 : w3.cell? ⟨wr.heap.size, 1, none⟩ = some (.int .i64 a1) := by rw [cell_of_row _ _ 1 _ _ _ gn3]; rfl
        have d2 : w3.cell? ⟨wr.heap.size, 2, none⟩ = some (.int .i64 a2) := by rw [cell_of_row _ _ 2 _ _ _ gn3]; rfl
        have d3 : w3.cell? ⟨wr.heap.size, 3, none⟩ = some (.int .i64 a3) := by rw [cell_of_row _ _ 3 _ _ _ gn3]; rfl
        have d4 : w3.cell? ⟨wr.heap.size, 4, none⟩ = some (.int .i64 a4) := by rw [cell_of_row _ _ 4 _ _ _ gn3]; rfl
        have d5 : w3.cell? ⟨wr.heap.size, 5, none⟩ = some (.int .i64 a5) := by rw [cell_of_row _ _ 5 _ _ _ gn3]; rfl
        have d6 : w3.cell? ⟨wr.heap.size, 6, none⟩ = some (.int .i64 a6) := by rw [cell_of_row _ _ 6 _ _ _ gn3]; rfl
        have d7 : w3.cell? ⟨wr.heap.size, 7, none⟩ = some (.int .i64 (na : Int)) := by rw [cell_of_row _ _ 7 _ _ _ gn3]; rfl
        have FIN := Hid.intro (show DelA g c l bed (i + 1) (j + 1) (setC w3 g (i * 8) ⟨⟨a0, a1, a2, a3, a4, a5, a6⟩, na⟩) (m.set i ⟨⟨a0, a1, a2, a3, a4, a5, a6⟩, na⟩) ∧ Chg (fun k => k = g) w (setC w3 g (i * 8) ⟨⟨a0, a1, a2, a3, a4, a5, a6⟩, na⟩) from
          ⟨PUH.out _ (by rw [← HL.out]; exact owns_setC O3 _), (CH.out.trans (below_chg B4) (fun _ f _ => f.elim)).trans (chg_setC w3 g (i * 8) _) (fun _ z _ => z)⟩)
        clear CL B3 B4 CH DH O3 gn3 gn PUH OWH BNH wi c0 c1 c2 c3 c4 c5 c6 c7 gl
        generalize wr.heap.size = bn at *
        go_wp2
        go_roundw
        case rel =>
          refine ⟨_, _, _, _, _, _, _, _, _, _, _, _, _, _, _, _, _, _, _, _, _, _, _, ?_, rfl⟩
          exact ⟨i + 1, j + 1, _, by omega, by omega, by go_num, by go_num, FIN.out.1, FIN.out.2⟩
        case measure => simp [intOf]; omega
    · obtain rfl : j = L := by omega
      have j1 : ¬ (j : Int) < (j : Int) := by omega
      have OWH := Hid.intro DH.out.own
      rw [← HL.out] at OWH
      have hd := DH.out.head
      have tl : l.take j = l := List.take_of_length_le (by rw [← HL.out]; exact Nat.le_refl _)
      rw [tl] at hd
      clear tl
      have hKi : KL = i := by
        rw [HKL.out, ← hd, List.length_take, DH.out.len, ← HL.out]
        omega
      have fz : ∀ o, wr.frozen? ⟨g, o, none⟩ = false := fun o => OWH.out.frozenAt o
      have hcl := fun ty => run_clear_wait wr g (i * 8) (j - i) (c - i) ty (by omega) (fun t ht => by
        have := OWH.out.cellAt (i * 8 + t) (by omega)
        rw [this]
        have hl2 := wcells_length m
        rw [DH.out.len, ← HL.out] at hl2
        rw [List.getElem?_eq_getElem (by omega)]
        rfl) fz
      have FIN : Hid ((wr.setCells g (i * 8) (zerosW (j - i))).ownsRow 0 56 8 (.slice (some ⟨g, 0, none⟩) i c) i (wcells (keptW l bed)) ∧ Chg (fun k => k = g) w (wr.setCells g (i * 8) (zerosW (j - i)))) := by
        obtain ⟨xs', o1, o2⟩ := owns_setCells (zerosW (j - i)) (i * 8) wr _ OWH.out (i * 8) (Nat.le_refl _)
        refine ⟨owns_cut o1 (by omega) (by rw [← HKL.out]; exact hKi) ?_, CH.out.trans (chg_setCellsW _ _ _) (fun _ z _ => z)⟩
        rw [o2, ← hd]
        have hsp : wcells m = wcells (m.take i) ++ wcells (m.drop i) := by rw [← wcells_append, List.take_append_drop]
        rw [hsp, List.take_append_of_le_length (by rw [wcells_length, List.length_take, DH.out.len, ← HL.out]; omega), List.take_of_length_le (by rw [wcells_length, List.length_take, DH.out.len, ← HL.out]; omega)]
      subst hKi
      generalize wr.setCells g (KL * 8) (zerosW (j - KL)) = wz at *
      have k0 : (0 : Int) ≤ (KL : Int) := by omega
      have k1 : (KL : Int) ≤ (j : Int) := by omega
      have k2 : (KL : Int) ≤ (c : Int) := by omega
      have k3 : KL < c := by omega
      clear OWH hd CH DH fz
      go_wp2
      go_ret
      exact ⟨rfl, FIN.out⟩

theorem edel_none (v : Value) (l : List It) (hl : l.length ≤ 100) (bed : Int) (bt : Nat) (hp : ∀ a ∈ l, isBd bed a = false) (w : World) (hc : w.cell? ⟨bt, 0, none⟩ = some (.int .i64 bed)) (own : w.ownsRow 0 56 8 v l.length (wcells l)) :
    Calls Try.prog 27 #[v, delF bt] w fun e w' => e = .returned v ∧ Below w.heap.size w w' := by
  have IX : Hid (Calls Try.prog 35 #[v, delF bt] w fun e w' => e = .returned (.int .i64 (-1)) ∧ Below w.heap.size w w') := by
    rcases own.2 with ⟨hv, h0⟩ | ⟨g, cap, cur, hv, _⟩
    · subst hv
      clear own
      rw [Hid]
      go_enter Try.func35, Try.ntmps35
      go_wp2_with fail
      go_loopw [8] (fun i ws => i = .int .i64 0 ∧ ws = w) (fun i _ => (intOf i).toNat)
      case atStart => exact ⟨rfl, rfl⟩
      case round =>
        obtain ⟨rfl, rfl⟩ := hrel
        go_wp2
        go_ret
        exact ⟨rfl, Below.refl _ _⟩
    · subst hv
      have q := wifunc_any g cap l hl bed bt w hc own
      rw [posW_miss (fun j hj => hp _ (List.getElem_mem hj))] at q
      exact q
  obtain ⟨ao, c, rfl, _⟩ := ownsRow_form own
  clear own hp hc
  go_enter Try.func27, Try.ntmps27
  go_wp2_with fail
  refine IX.out.mono ?_
  rintro e w1 ⟨rfl, B1⟩
  have BH := Hid.intro B1
  clear B1 IX
  go_wp2
  go_ret
  exact ⟨rfl, BH.out⟩

/-- What a deletion leaves. -/
def DelE (w w' : World) (v v' : Value) (l : List It) : Prop := v'.ownBlock = v.ownBlock ∧ w'.ownsRow 0 56 8 v' l.length (wcells l) ∧ Chg (fun k => v.ownBlock = some k) w w'

theorem edel_any (v : Value) (l : List It) (hl : l.length ≤ 100) (bed : Int) (bt : Nat) (hbv : v.ownBlock ≠ some bt) (w : World) (hc : w.cell? ⟨bt, 0, none⟩ = some (.int .i64 bed)) (own : w.ownsRow 0 56 8 v l.length (wcells l)) :
    Calls Try.prog 27 #[v, delF bt] w fun e w' => ∃ v', e = .returned v' ∧ DelE w w' v v' (keptW l bed) := by
  rcases posW_all (l := l) (bed := bed) with ⟨hp, hall⟩ | ⟨i, hi, hp, hd, hno⟩
  · have e : keptW l bed = l := by
      unfold keptW
      rw [List.filter_eq_self]
      intro a ha
      rw [hall a ha]
      rfl
    rw [e]
    refine (edel_none v l hl bed bt hall w hc own).mono ?_
    rintro e w' ⟨rfl, B⟩
    exact ⟨v, rfl, rfl, ownsRow_keep own fun k hk => B.block k (World.ownsRow.lt own k hk).2, (below_chg B).mono (fun _ f _ => f.elim)⟩
  · rcases own.2 with ⟨hv, h0⟩ | ⟨g, cap, cur, hv, _, _, hcap, _⟩
    · omega
    · subst hv
      refine (edel_in g cap l hl hcap bed bt (fun q => hbv (by rw [q]; rfl)) i hi hp hd hno w hc own).mono ?_
      rintro e w' ⟨rfl, O, C⟩
      exact ⟨_, rfl, rfl, O, C.mono (fun k hk _ => by rw [hk]; rfl)⟩

/-- A list as a function. -/
def fnL (l : List It) : Nat → It := fun k => l.getD k ⟨⟨0, 0, 0, 0, 0, 0, 0⟩, 0⟩

theorem mapr_fn (l : List It) : (List.range l.length).map (fnL l) = l := by
  apply List.ext_getElem
  · simp
  · intro k h1 h2
    simp [fnL, h2]

set_option maxRecDepth 100000 in
set_option maxHeartbeats 2000000 in
theorem edrop_any (b : Nat) (bed : Int) (F : Nat → Prop) (x : List Jb) (n : Nat) (w : World) (hc : Que F w b x n) :
    Calls Try.prog 13 #[.pointer (some ⟨b, 0, none⟩), .int .i64 bed] w fun e w' => e = .returned (.int .i64 (dropN x bed : Int)) ∧ LeftE F w w' b (dropR x bed) n := by
  obtain ⟨h, m, came, q, hn⟩ := hc
  have HN := Hid.intro hn
  have HQ := Hid.intro q
  have m40 : m ≤ 40 := by have := q.len; have := q.ok.few; omega
  have BA := (Below.refl _ w).alloc (Nat.le_refl _) (.cells #[.int .i64 bed] 3)
  have BAH := Hid.intro BA
  obtain ⟨v, hv⟩ := q.ln
  have hv1 := hv.below BA
  have cb : (w.alloc (.cells #[.int .i64 bed] 3)).cell? ⟨w.heap.size, 0, none⟩ = some (.int .i64 bed) := by rw [cell_of_row _ _ 0 _ _ _ (heap_alloc_new w _)]; rfl
  have nv : v.ownBlock ≠ some w.heap.size := fun z => by have := hv.lt _ (hv.inV _ z).1; omega
  have DE := Hid.intro (edel_any v _ (by rw [mapr_length]; omega) bed w.heap.size nv _ cb hv1.own)
  have c0 := hv1.cell
  have HV := Hid.intro hv1
  have DN : Hid (dropN x bed + (dropR x bed).length = m) := by rw [Hid, drop_len, q.len]
  have KR : Hid (Rep (keptW ((List.range m).map h) bed) (dropR x bed)) := by
    have := q.rep.filter (fun j => !decide (j.bed = bed))
    exact this
  have KM : Hid (∀ a ∈ keptW ((List.range m).map h) bed, a.num < came) := fun a ha => q.num a (List.mem_filter.1 ha).1
  have OKD := Hid.intro (dropR_ok q.ok bed)
  obtain ⟨dn, hdn⟩ : ∃ dn, dn = dropN x bed := ⟨_, rfl⟩
  rw [← hdn] at DN ⊢
  have HLT := Hid.intro hv.lt
  obtain ⟨ao, c, rfl, _⟩ := hv.form
  rw [mapr_length] at c0 DE HV
  generalize keptW ((List.range m).map h) bed = kl at *
  clear hn q BA hv hv1 cb nv hdn
  go_enter Try.func13, Try.ntmps13
  go_wp2_with fail
  refine DE.out.mono ?_
  rintro e w2 ⟨v2, rfl, o1, o2, o3⟩
  have bl := HV.out.lt b HV.out.inB
  have hb2 : w2.heap[b]? = (w.alloc (.cells #[.int .i64 bed] 3)).heap[b]? := o3.block b bl (fun z => (HV.out.inV b z).2 rfl)
  have LD := HV.out.laid (W := w2) (v' := v2) (l' := kl) hb2 o3.size o2 (fun k hk => by
    rw [o1] at hk
    exact ⟨(HV.out.inV k hk).2, .inl (HV.out.inV k hk).1⟩)
  have L3 : LnV b 53 [.int .i64 (came : Int)] F (w2.setCell ⟨b, 0, none⟩ v2) v2 kl := ⟨LD.head, LD.own, HV.out.inB, fun k hk => by
    rw [o1] at hk
    exact HV.out.inV k hk, fun k hk => LD.lt k (.inl hk)⟩
  have hd := hb2.trans HV.out.head
  have e0 : w2.cell? ⟨b, 0, none⟩ = some (.slice ao m c) := by rw [cell_of_row _ _ 0 _ _ _ hd]; rfl
  have f0 : w2.frozen? ⟨b, 0, none⟩ = false := frozen_of_row w2 b 0 _ _ hd
  have C3 := Hid.intro (show Chg F w (w2.setCell ⟨b, 0, none⟩ v2) from (((below_chg BAH.out).mono (fun _ f _ => f.elim)).trans o3 (fun k hk _ => (HV.out.inV k hk).1)).setCell (fun _ => HV.out.inB) _)
  have M3 : Ln b 53 [.int .i64 (came : Int)] F (w2.setCell ⟨b, 0, none⟩ v2) (fnL kl) kl.length := ⟨v2, by rw [mapr_fn]; exact L3⟩
  have KLn := KR.out.len
  have kb : kl.length ≤ 40 := by have := OKD.out.few; omega
  have IN := Hid.intro (hinit_any (heapc_line b _ _ F) (fnL kl) kl.length (by omega) _ M3)
  obtain ⟨a2, c2, hv2, _⟩ := ownsRow_form o2
  subst hv2
  have sd : (m : Int) - (kl.length : Int) = (dn : Int) := by have := DN.out; omega
  have dn40 : dn ≤ 40 := by have := DN.out; omega
  have KLH := Hid.intro KLn
  clear DE o1 o2 o3 LD L3 hd hb2 M3 HV BAH KLn
  go_wp2_with fail
  refine IN.out.mono ?_
  rintro e w4 ⟨rfl, h4, M4, F4, P4, _, C4⟩
  rw [mapr_fn] at P4
  have FIN : Hid (LeftE F w w4 b (dropR x bed) n) := ⟨F, ⟨h4, kl.length, came, ⟨M4, F4, KR.out.perm P4.symm, fun a ha => KM.out a (P4.mem_iff.1 ha), OKD.out⟩, HN.out⟩, C3.out.trans C4 (fun _ z _ => z), fun _ z => .inl z⟩
  obtain ⟨v4, hv4⟩ := M4
  have c4 := hv4.cell
  obtain ⟨a4, cc4, rfl, _⟩ := hv4.form
  rw [mapr_length] at c4
  generalize kl.length = KN at *
  clear IN F4 P4 C4 hv4 C3
  go_wp2
  go_ret
  exact ⟨rfl, FIN.out⟩

theorem edrop_nil (bed : Int) (w : World) :
    Calls Try.prog 13 #[.pointer none, .int .i64 bed] w fun e w' => e = .returned (.int .i64 0) ∧ Below w.heap.size w w' := by
  have HB := Hid.intro ((Below.refl _ w).alloc (Nat.le_refl _) (.cells #[.int .i64 bed] 3))
  go_enter Try.func13, Try.ntmps13
  go_wp2
  go_ret
  exact ⟨rfl, HB.out⟩

end Go.Proofs.Ytgcpkploeobafaa
