/- The document's own answer of layer 16: List. -/
import Derived.Test.YtbeeigfcchjdlaaPnR3
import Derived.Test.YtbeeigfcchjdlaaRgLast
import Derived.Deep.RegionHeld3
import Derived.Deep.CutBlock
namespace Go.Proofs.Ytbeeigfcchjdlaa
open Go.RowKit
open Pn

theorem of_containsA {l : List Nat} {i : Nat} (h : l.contains i = true) : i ∈ l := by simpa using h

/-- Some of a row's alarms, one behind the other. -/
theorem src_part16 {W : World} {g n c c' o m : Nat} {L : List Al} (h : W.ownsRow 0 42 5 (.slice (some ⟨g, 0, none⟩) n c) n (acells L)) (hm : o + m ≤ L.length) : SrcV W 5 (.slice (some ⟨g, o * 5, none⟩) m c') m (acells ((L.drop o).take m)) := by
  have hn : L.length = n := by have := h.1; rw [acells_length] at this; omega
  have hl : ((L.drop o).take m).length = m := by rw [List.length_take, List.length_drop]; omega
  refine .inr ⟨_, _, rfl, by rw [acells_length, hl], fun j u hu => ?_⟩
  have hj : j < m * 5 := by have := (List.getElem?_eq_some_iff.1 hu).1; rw [acells_length, hl] at this; exact this
  have hj4 : j = (j / 5) * 5 + j % 5 := by omega
  have hq : j / 5 < m := by omega
  have hr : j % 5 < 5 := Nat.mod_lt _ (by decide)
  rw [hj4, acells_at _ (by rw [hl]; exact hq) hr] at hu
  rw [WideShapes.add_plain, h.cellAt (o * 5 + j) (by omega), show o * 5 + j = (o + j / 5) * 5 + j % 5 by omega, acells_at L (by omega) hr]
  have e : ((L.drop o).take m)[j / 5]'(by rw [hl]; exact hq) = L[o + j / 5]'(by omega) := by simp
  rw [← e]
  exact hu

theorem undrewA {w w' : World} (h : Below w.drew.heap.size w.drew w') : Below w.heap.size w w' := ⟨h.os, h.tape, h.output, h.size, h.block⟩

theorem src_empty16 {W : World} {g c : Nat} : SrcV W 5 (.slice (some ⟨g, 0, none⟩) 0 c) 0 [] := .inr ⟨_, _, rfl, rfl, fun j u hu => by simp at hu⟩

/-- Where it is put, told by what stands around. -/
theorem place_is {x : Al} {M : List Al} {k : Nat} (hk : k ≤ M.length) (h1 : ∀ y ∈ M.drop k, ltA x y = true) (h2 : (h : 0 < k) → ltA x (M[k - 1]'(by omega)) = false) : placeA x M = k := by
  obtain ⟨s1, s2⟩ := backA_split x M.reverse
  have hle := backA_le x M.reverse
  rw [List.length_reverse] at hle
  have hrl : M.reverse.length = M.length := List.length_reverse
  unfold placeA
  rcases Nat.lt_trichotomy (backA x M.reverse) (M.length - k) with q | q | q
  · exfalso
    have r := s2 (by omega)
    rw [List.getElem_reverse] at r
    have r2 := h1 (M[M.length - 1 - backA x M.reverse]) (by
      rw [List.mem_iff_getElem]
      refine ⟨M.length - 1 - backA x M.reverse - k, by rw [List.length_drop]; omega, ?_⟩
      rw [List.getElem_drop]
      congr 1
      omega)
    rw [r2] at r
    cases r
  · omega
  · exfalso
    have r := h2 (by omega)
    have r2 := s1 (M[k - 1]'(by omega)) (by
      rw [List.mem_iff_getElem]
      refine ⟨M.length - k, by rw [List.length_take, List.length_reverse]; omega, ?_⟩
      rw [List.getElem_take, List.getElem_reverse]
      congr 1
      omega)
    rw [r2] at r
    cases r

theorem insA_at {x : Al} {M : List Al} {k : Nat} (h : placeA x M = k) : acells (insA M x) = acells (M.take k) ++ acells [x] ++ acells (M.drop k) := by
  unfold insA
  rw [h, acells_append, List.append_assoc]
  rfl

set_option maxRecDepth 100000 in
set_option maxHeartbeats 4000000 in
theorem refList16_any (b : Nat) (S : Nat → Prop) (L : List Al) (u : Int) (w : World) (h : PR b L u S w) :
    Calls Try.prog 23 #[.pointer (some ⟨b, 0, none⟩)] w fun e w' => ∃ v', e = .returned v' ∧ NewR 42 5 w.heap.size w L.length (acells (sortA L)) w' v' := by
  obtain ⟨v, h⟩ := h
  have hf := h.ok.few
  obtain ⟨ao, c, rfl, hz⟩ := ownsRow_form h.own
  have HK := Hid.intro (fun (W : World) (hW : Below w.heap.size w W) => (h.below hW).cells.1)
  have HA := Hid.intro (fun (W : World) (hW : Below w.heap.size w W) t (ht : t < L.length) (g : Nat) (e : ao = some ⟨g, 0, none⟩) => (show AlAt W g (t * 5) L[t] from by subst e; exact al_at (h.below hW).own ht))
  have HZ := Hid.intro hz
  have EL := Hid.intro elem_al
  have HL := Hid.intro (fun t => sortA_length (L.take t))
  obtain ⟨n, hn⟩ : ∃ n, n = L.length := ⟨_, rfl⟩
  have HN := Hid.intro hn
  rw [← hn] at HK hf ⊢
  have mixed : Try.prog.follows Departure.mixedOrders = true := by kernel_rfl
  clear h hz hn
  go_enter Try.func23, Try.ntmps23
  go_wp2_with fail
  go_loopw [3, 4] (fun ov iv ws => ∃ t : Nat, t ≤ n ∧ iv = .int .i64 t ∧ NewR 42 5 w.heap.size w t (acells (sortA (L.take t))) ws ov) (fun _ iv _ => n - (intOf iv).toNat)
  case atStart => exact ⟨0, by omega, rfl, own_noneR _ _ _, Below.refl _ _, (fun k hk => by cases hk)⟩
  case round =>
    obtain ⟨t, ht, rfl, hR⟩ := hrel
    have k0 := HK.out wr hR.below
    have RH := Hid.intro hR
    by_cases hlt : t < n
    · have hlt' : t < L.length := by rw [← HN.out]; exact hlt
      obtain ⟨g, hg⟩ := HZ.out.resolve_left (by have := HN.out; omega)
      have hx := Hid.intro (fun (W : World) (hW : Below w.heap.size w W) => HA.out W hW t hlt' g hg)
      subst hg
      have ML : Hid ((sortA (L.take t)).length = t) := by rw [Hid, HL.out, List.length_take]; omega
      have NX := Hid.intro (sortA_next hlt')
      have t0 : (0 : Int) ≤ (t : Int) := by omega
      have t1 : (t : Int) < (n : Int) := by omega
      obtain ⟨oa, oc, hu4, hoz⟩ := ownsRow_form hR.own
      subst hu4
      have HOZ := Hid.intro hoz
      clear hR hoz
      generalize L[t] = x at *
      generalize hM : sortA (L.take t) = M at *
      have HO := Hid.intro (fun (W : World) (hW : Below wr.heap.size wr W) j (hj : j < M.length) (g' : Nat) (e : oa = some ⟨g', 0, none⟩) => (show AlAt W g' (j * 5) M[j] from by
        have q := ownsRow_keep RH.out.own fun k hk => hW.block k (World.ownsRow.lt RH.out.own k hk).2
        subst e
        exact al_at q hj))
      have HM := Hid.intro hM
      clear hM
      go_upto_block 2 with fail
      go_cut [5] from 6 to 53 (fun kv ws => ∃ k : Nat, k ≤ t ∧ kv = .int .i64 k ∧ Below wr.heap.size wr ws ∧ placeA x M = k)
      case first =>
        have MLT := ML.out
        obtain ⟨W0, hW0⟩ : ∃ W0, W0 = wr := ⟨_, rfl⟩
        subst hW0
        go_wp2_with fail
        go_loopw [5] (fun kv ws => ∃ k : Nat, k ≤ t ∧ kv = .int .i64 k ∧ Below W0.heap.size W0 ws ∧ ∀ y ∈ M.drop k, ltA x y = true) (fun kv _ => (intOf kv).toNat)
        case atStart => exact ⟨t, Nat.le_refl _, rfl, Below.refl _ _, fun y hy => by rw [List.drop_eq_nil_of_le (by omega)] at hy; cases hy⟩
        case round =>
          obtain ⟨k, hk, rfl, hB, hall⟩ := hrel
          have BH := Hid.intro hB
          have BW := Hid.intro (RH.out.below.trans (hB.mono RH.out.below.size))
          have AH := Hid.intro hall
          clear hall
          by_cases hk0 : k = 0
          · subst hk0
            have PL : Hid (placeA x M = 0) := place_is (Nat.zero_le _) AH.out (fun h => absurd h (by omega))
            clear hB
            go_wp2_with fail
            go_quiet (fail)
            go_wp2_with fail
            go_meet
            case rel => exact ⟨0, by omega, rfl, below_drewN BH.out _, PL.out⟩
          · obtain ⟨j, rfl⟩ : ∃ j, k = j + 1 := ⟨k - 1, by omega⟩
            have hj : j < M.length := by omega
            obtain ⟨g', hg'⟩ := HOZ.out.resolve_left (by omega)
            have HY := Hid.intro (fun (W : World) (hW : Below W0.heap.size W0 W) => HO.out W hW j hj g' hg')
            subst hg'
            have NXT : Hid (ltA x M[j] = true → ∀ y ∈ M.drop j, ltA x y = true) := fun e y hy => by
              rw [List.drop_eq_getElem_cons hj] at hy
              rcases List.mem_cons.1 hy with q | q
              · rw [q]; exact e
              · exact AH.out y q
            have PL : Hid (ltA x M[j] = false → placeA x M = j + 1) := fun e => place_is (by omega) AH.out (fun _ => e)
            have AC := Hid.intro (refAhead16_any x M[j])
            generalize M[j] = y at *
            have k0 := HK.out wr BW.out
            obtain ⟨x0, x1, x2, x3, x4⟩ := x
            obtain ⟨y0, y1, y2, y3, y4⟩ := y
            obtain ⟨c0, c1, c2, c3, c4⟩ := hx.out wr BW.out
            obtain ⟨d0, d1, d2, d3, d4⟩ := HY.out wr BH.out
            simp only at c0 c1 c2 c3 c4 d0 d1 d2 d3 d4
            have KK : Hid (∀ W, Below W0.heap.size W0 W → W.cell? ⟨b, 0, none⟩ = some (.slice (some ⟨g, 0, none⟩) n c) ∧ W.cell? ⟨g, t * 5, none⟩ = some (.int .i64 x0) ∧ W.cell? ⟨g, t * 5 + 1, none⟩ = some (.int .i64 x1) ∧ W.cell? ⟨g, t * 5 + 2, none⟩ = some (.int .i64 x2) ∧ W.cell? ⟨g, t * 5 + 3, none⟩ = some (.bool x3) ∧ W.cell? ⟨g, t * 5 + 4, none⟩ = some (.bool x4) ∧ W.cell? ⟨g', j * 5, none⟩ = some (.int .i64 y0) ∧ W.cell? ⟨g', j * 5 + 1, none⟩ = some (.int .i64 y1) ∧ W.cell? ⟨g', j * 5 + 2, none⟩ = some (.int .i64 y2) ∧ W.cell? ⟨g', j * 5 + 3, none⟩ = some (.bool y3) ∧ W.cell? ⟨g', j * 5 + 4, none⟩ = some (.bool y4)) := fun W hW => by
              have b1 := RH.out.below.trans (hW.mono RH.out.below.size)
              obtain ⟨e0, e1, e2, e3, e4⟩ := hx.out W b1
              obtain ⟨f0, f1, f2, f3, f4⟩ := HY.out W hW
              exact ⟨HK.out W b1, e0, e1, e2, e3, e4, f0, f1, f2, f3, f4⟩
            have j0 : (0 : Int) < (j : Int) + 1 := by omega
            have j1 : ((j : Int) + 1 - 1) = (j : Int) := by omega
            have j2 : (j : Int) < (t : Int) := by omega
            have j3 : (0 : Int) ≤ (j : Int) := by omega
            have j4 : (j : Int) ≤ 40 := by omega
            have jw : IntKind.i64.wrap (j : Int) = (j : Int) := by rw [IntKind.wrap_i64]; omega
            have jw2 : IntKind.i64.wrap ((j : Int) + 1 - 1) = (j : Int) := by rw [j1]; exact jw
            have jt : (((j + 1 : Nat) : Int)) = (j : Int) + 1 := by omega
            rw [jt]
            clear hB hk0
            generalize ltA ⟨x0, x1, x2, x3, x4⟩ ⟨y0, y1, y2, y3, y4⟩ = r at *
            cases r with
            | true =>
              have NT := Hid.intro (NXT.out rfl)
              clear NXT PL
              go_wp2_with fail
              go_region_held3 (fun W => W.cell? ⟨b, 0, none⟩ = some (.slice (some ⟨g, 0, none⟩) n c) ∧ W.cell? ⟨g, t * 5, none⟩ = some (.int .i64 x0) ∧ W.cell? ⟨g, t * 5 + 1, none⟩ = some (.int .i64 x1) ∧ W.cell? ⟨g, t * 5 + 2, none⟩ = some (.int .i64 x2) ∧ W.cell? ⟨g, t * 5 + 3, none⟩ = some (.bool x3) ∧ W.cell? ⟨g, t * 5 + 4, none⟩ = some (.bool x4) ∧ W.cell? ⟨g', j * 5, none⟩ = some (.int .i64 y0) ∧ W.cell? ⟨g', j * 5 + 1, none⟩ = some (.int .i64 y1) ∧ W.cell? ⟨g', j * 5 + 2, none⟩ = some (.int .i64 y2) ∧ W.cell? ⟨g', j * 5 + 3, none⟩ = some (.bool y3) ∧ W.cell? ⟨g', j * 5 + 4, none⟩ = some (.bool y4))
                (first | exact KK.out _ E6 | go_keep)
                (first | (go_at_call 37; refine (AC.out _).mono ?_; rintro e w6 ⟨rfl, B6⟩; have E6 : Below W0.heap.size W0 w6 := BH.out.trans ((undrewA B6).mono BH.out.size); clear B6) | fail)
              all_goals
                have E7 := Hid.intro E6
                clear E6 AC KK
                go_wp2
                go_roundw
                case rel => exact ⟨j, by omega, by go_num, E7.out, NT.out⟩
                case measure => simp [intOf]
            | false =>
              have PT := Hid.intro (PL.out rfl)
              clear NXT PL
              go_wp2_with fail
              go_region_held3 (fun W => W.cell? ⟨b, 0, none⟩ = some (.slice (some ⟨g, 0, none⟩) n c) ∧ W.cell? ⟨g, t * 5, none⟩ = some (.int .i64 x0) ∧ W.cell? ⟨g, t * 5 + 1, none⟩ = some (.int .i64 x1) ∧ W.cell? ⟨g, t * 5 + 2, none⟩ = some (.int .i64 x2) ∧ W.cell? ⟨g, t * 5 + 3, none⟩ = some (.bool x3) ∧ W.cell? ⟨g, t * 5 + 4, none⟩ = some (.bool x4) ∧ W.cell? ⟨g', j * 5, none⟩ = some (.int .i64 y0) ∧ W.cell? ⟨g', j * 5 + 1, none⟩ = some (.int .i64 y1) ∧ W.cell? ⟨g', j * 5 + 2, none⟩ = some (.int .i64 y2) ∧ W.cell? ⟨g', j * 5 + 3, none⟩ = some (.bool y3) ∧ W.cell? ⟨g', j * 5 + 4, none⟩ = some (.bool y4))
                (first | exact KK.out _ E6 | go_keep)
                (first | (go_at_call 37; refine (AC.out _).mono ?_; rintro e w6 ⟨rfl, B6⟩; have E6 : Below W0.heap.size W0 w6 := BH.out.trans ((undrewA B6).mono BH.out.size); clear B6) | fail)
              all_goals
                have E7 := Hid.intro E6
                clear E6 AC KK
                go_wp2_with fail
                go_meet
                case rel => exact ⟨j + 1, by omega, by go_num, E7.out, PT.out⟩
      case rest =>
        obtain ⟨k, hk, rfl, hB, hP⟩ := hcut
        have MLT := ML.out
        have BH := Hid.intro hB
        have ON := Hid.intro (fun (X : World) (hX : Below wc.heap.size wc X) => ownsRow_keep RH.out.own fun q hq => (hB.trans (hX.mono hB.size)).block q (World.ownsRow.lt RH.out.own q hq).2)
        have CAP : Hid (∀ g', oa = some ⟨g', 0, none⟩ → t ≤ oc ∧ oc ≤ 9223372036854775807) := fun g' e => by
          rcases RH.out.own.2 with ⟨hv, h0⟩ | ⟨g2, cap, cur, hv, _, _, hc, hm, _⟩
          · subst e; cases hv
          · subst e; cases hv; unfold maxLen at hm; omega
        have FN : Hid (∀ (W : World), Below wc.heap.size wc W → ∀ wd vd, NewR 42 5 W.heap.size W (k + 1 + (t - k)) (acells (M.take k) ++ acells [x] ++ acells (M.drop k)) wd vd → NewR 42 5 w.heap.size w (t + 1) (acells (sortA (L.take (t + 1)))) wd vd) := fun W hW wd vd hN => by
          have b1 := RH.out.below.trans (hB.mono RH.out.below.size)
          have b2 := b1.trans (hW.mono b1.size)
          rw [NX.out, insA_at hP]
          have e : k + 1 + (t - k) = t + 1 := by omega
          rw [e] at hN
          exact ⟨hN.own, b2.trans (hN.below.mono b2.size), fun q hq => Nat.le_trans b2.size (hN.ge q hq)⟩
        have KX := Hid.intro (fun (W : World) (hW : Below wc.heap.size wc W) => (show W.cell? ⟨b, 0, none⟩ = some (.slice (some ⟨g, 0, none⟩) n c) ∧ AlAt W g (t * 5) x from by
          have b1 := RH.out.below.trans (hB.mono RH.out.below.size)
          have b2 := b1.trans (hW.mono b1.size)
          exact ⟨HK.out W b2, hx.out W b2⟩))
        obtain ⟨x0, x1, x2, x3, x4⟩ := x
        have KK : Hid (∀ W, Below wc.heap.size wc W → W.cell? ⟨b, 0, none⟩ = some (.slice (some ⟨g, 0, none⟩) n c) ∧ W.cell? ⟨g, t * 5, none⟩ = some (.int .i64 x0) ∧ W.cell? ⟨g, t * 5 + 1, none⟩ = some (.int .i64 x1) ∧ W.cell? ⟨g, t * 5 + 2, none⟩ = some (.int .i64 x2) ∧ W.cell? ⟨g, t * 5 + 3, none⟩ = some (.bool x3) ∧ W.cell? ⟨g, t * 5 + 4, none⟩ = some (.bool x4)) := fun W hW => by
          obtain ⟨q, e0, e1, e2, e3, e4⟩ := KX.out W hW
          exact ⟨q, e0, e1, e2, e3, e4⟩
        have ONE := Hid.intro (acells_onecell (M.take k))
        have ONE2 := Hid.intro (acells_onecell (M.drop k))
        have k1 : (0 : Int) ≤ (k : Int) := by omega
        have k2 : (k : Int) ≤ (t : Int) := by omega
        have tn : t ≤ 40 := by omega
        clear hB KX
        cases oa with
        | none =>
          have ht0 : t = 0 := HOZ.out.resolve_right (fun ⟨q, hq⟩ => by cases hq)
          have hk00 : k = 0 := by omega
          have SA : Hid (∀ X, Below wc.heap.size wc X → SrcV X 5 (.slice none 0 0) 0 (acells (M.take k))) := fun X hX => .inl ⟨rfl, rfl, by rw [hk00]; rfl⟩
          have SB : Hid (∀ X, Below wc.heap.size wc X → SrcV X 5 (.slice none 0 0) 0 (acells (M.drop k))) := fun X hX => .inl ⟨rfl, rfl, by rw [List.drop_eq_nil_of_le (by omega)]; rfl⟩
          have hoc : oc = 0 := by
            rcases RH.out.own.2 with ⟨hv, h0⟩ | ⟨g2, cap, cur, hv, _⟩
            · cases hv; rfl
            · cases hv
          generalize acells (M.take k) = xs at *
          generalize acells (M.drop k) = ys at *
          clear NX RH ML MLT HM HO ON CAP HOZ BH hx hP
          subst hoc ht0 hk00
          have KK : Hid (∀ W, Below wc.heap.size wc W → (fun W => W.cell? ⟨b, 0, none⟩ = some (.slice (some ⟨g, 0, none⟩) n c) ∧ W.cell? ⟨g, 0, none⟩ = some (.int .i64 x0) ∧ W.cell? ⟨g, 1, none⟩ = some (.int .i64 x1) ∧ W.cell? ⟨g, 2, none⟩ = some (.int .i64 x2) ∧ W.cell? ⟨g, 3, none⟩ = some (.bool x3) ∧ W.cell? ⟨g, 4, none⟩ = some (.bool x4)) W) := fun W hW => by
            have q := KK.out W hW
            simp only [Nat.zero_mul, Nat.zero_add] at q
            exact q
          -- A
          have HS0 := KK.out wc.drew (Below.refl _ wc).drew
          go_wp2_with fail
          refine until_start (S := (fun W => W.cell? ⟨b, 0, none⟩ = some (.slice (some ⟨g, 0, none⟩) n c) ∧ W.cell? ⟨g, 0, none⟩ = some (.int .i64 x0) ∧ W.cell? ⟨g, 1, none⟩ = some (.int .i64 x1) ∧ W.cell? ⟨g, 2, none⟩ = some (.int .i64 x2) ∧ W.cell? ⟨g, 3, none⟩ = some (.bool x3) ∧ W.cell? ⟨g, 4, none⟩ = some (.bool x4))) (z := 18) (by kernel_rfl) ?_
          have BW : Hid (Below wc.heap.size wc wc.drew) := (Below.refl _ wc).drew
          generalize wc.drew = Wd at *
          have HS : (fun W => W.cell? ⟨b, 0, none⟩ = some (.slice (some ⟨g, 0, none⟩) n c) ∧ W.cell? ⟨g, 0, none⟩ = some (.int .i64 x0) ∧ W.cell? ⟨g, 1, none⟩ = some (.int .i64 x1) ∧ W.cell? ⟨g, 2, none⟩ = some (.int .i64 x2) ∧ W.cell? ⟨g, 3, none⟩ = some (.bool x3) ∧ W.cell? ⟨g, 4, none⟩ = some (.bool x4)) Wd := HS0
          have SS : Hid (∀ X, Below Wd.heap.size Wd X → (fun W => W.cell? ⟨b, 0, none⟩ = some (.slice (some ⟨g, 0, none⟩) n c) ∧ W.cell? ⟨g, 0, none⟩ = some (.int .i64 x0) ∧ W.cell? ⟨g, 1, none⟩ = some (.int .i64 x1) ∧ W.cell? ⟨g, 2, none⟩ = some (.int .i64 x2) ∧ W.cell? ⟨g, 3, none⟩ = some (.bool x3) ∧ W.cell? ⟨g, 4, none⟩ = some (.bool x4)) X) := fun X hX => KK.out X (BW.out.trans (hX.mono BW.out.size))
          have S1 := Hid.intro (fun X (hX : Below Wd.heap.size Wd X) => SA.out X (BW.out.trans (hX.mono BW.out.size)))
          have S2 := Hid.intro (fun X (hX : Below Wd.heap.size Wd X) => SB.out X (BW.out.trans (hX.mono BW.out.size)))
          have FW := Hid.intro (fun wd vd hN => FN.out Wd BW.out wd vd hN)
          clear HS0 KK SA SB FN
          refine until_take (i := 1) (oi := ({ dst := some 37, op := Op.move (Operand.tmp 3), type := 30, pos := "ref.go:121", after := #[], guard := none } : Oper)) (oz := ({ dst := some 3, op := Op.assign (Operand.tmp 53), type := 30, pos := "ref.go:121", after := #[{ on := 17, ground := Ground.data }, { on := 17, ground := Ground.chain }, { on := 0, ground := Ground.phase }, { on := 1, ground := Ground.phase }, { on := 2, ground := Ground.phase }, { on := 3, ground := Ground.phase }, { on := 4, ground := Ground.phase }, { on := 5, ground := Ground.phase }, { on := 6, ground := Ground.phase }, { on := 7, ground := Ground.phase }, { on := 8, ground := Ground.phase }, { on := 9, ground := Ground.phase }, { on := 10, ground := Ground.phase }, { on := 11, ground := Ground.phase }, { on := 12, ground := Ground.phase }, { on := 13, ground := Ground.phase }, { on := 14, ground := Ground.phase }, { on := 15, ground := Ground.phase }, { on := 16, ground := Ground.phase }, { on := 17, ground := Ground.phase }], guard := none } : Oper)) (v := ?vA1) rfl rfl (by kernel_rfl) (by kernel_rfl) (fun _ _ _ h => h) (Region.free_spec rfl (by kernel_rfl)) (of_containsA (by kernel_rfl)) (Or.inl ⟨by rfl, ?yA1⟩) HS ?rA1
          case yA1 => (intro w hSw; (try dsimp only at hSw); go_simp; first | done | with_reducible rfl)
          (try simp only [Act.put, List.setIfInBounds_toArray, List.set_cons_zero, List.set_cons_succ])
          refine until_take (i := 2) (oi := ({ dst := some 38, op := Op.move (Operand.tmp 5), type := 3, pos := "ref.go:121", after := #[], guard := none } : Oper)) (oz := ({ dst := some 3, op := Op.assign (Operand.tmp 53), type := 30, pos := "ref.go:121", after := #[{ on := 17, ground := Ground.data }, { on := 17, ground := Ground.chain }, { on := 0, ground := Ground.phase }, { on := 1, ground := Ground.phase }, { on := 2, ground := Ground.phase }, { on := 3, ground := Ground.phase }, { on := 4, ground := Ground.phase }, { on := 5, ground := Ground.phase }, { on := 6, ground := Ground.phase }, { on := 7, ground := Ground.phase }, { on := 8, ground := Ground.phase }, { on := 9, ground := Ground.phase }, { on := 10, ground := Ground.phase }, { on := 11, ground := Ground.phase }, { on := 12, ground := Ground.phase }, { on := 13, ground := Ground.phase }, { on := 14, ground := Ground.phase }, { on := 15, ground := Ground.phase }, { on := 16, ground := Ground.phase }, { on := 17, ground := Ground.phase }], guard := none } : Oper)) (v := ?vA2) rfl rfl (by kernel_rfl) (by kernel_rfl) (fun _ _ _ h => h) (Region.free_spec rfl (by kernel_rfl)) (of_containsA (by kernel_rfl)) (Or.inl ⟨by rfl, ?yA2⟩) HS ?rA2
          case yA2 => (intro w hSw; (try dsimp only at hSw); go_simp; first | done | with_reducible rfl)
          (try simp only [Act.put, List.setIfInBounds_toArray, List.set_cons_zero, List.set_cons_succ])
          refine until_take (i := 3) (oi := ({ dst := some 39, op := Op.slice 30 (Operand.tmp 37) none (some (Operand.tmp 38)) none, type := 30, pos := "ref.go:121", after := #[{ on := 1, ground := Ground.data }, { on := 2, ground := Ground.data }], guard := none } : Oper)) (oz := ({ dst := some 3, op := Op.assign (Operand.tmp 53), type := 30, pos := "ref.go:121", after := #[{ on := 17, ground := Ground.data }, { on := 17, ground := Ground.chain }, { on := 0, ground := Ground.phase }, { on := 1, ground := Ground.phase }, { on := 2, ground := Ground.phase }, { on := 3, ground := Ground.phase }, { on := 4, ground := Ground.phase }, { on := 5, ground := Ground.phase }, { on := 6, ground := Ground.phase }, { on := 7, ground := Ground.phase }, { on := 8, ground := Ground.phase }, { on := 9, ground := Ground.phase }, { on := 10, ground := Ground.phase }, { on := 11, ground := Ground.phase }, { on := 12, ground := Ground.phase }, { on := 13, ground := Ground.phase }, { on := 14, ground := Ground.phase }, { on := 15, ground := Ground.phase }, { on := 16, ground := Ground.phase }, { on := 17, ground := Ground.phase }], guard := none } : Oper)) (v := ?vA3) rfl rfl (by kernel_rfl) (by kernel_rfl) (fun _ _ _ h => h) (Region.free_spec rfl (by kernel_rfl)) (of_containsA (by kernel_rfl)) (Or.inl ⟨by rfl, ?yA3⟩) HS ?rA3
          case yA3 => (intro w hSw; (try dsimp only at hSw); go_simp; first | done | with_reducible rfl)
          (try simp only [Act.put, List.setIfInBounds_toArray, List.set_cons_zero, List.set_cons_succ])
          refine until_take (i := 5) (oi := ({ dst := some 41, op := Op.move (Operand.tmp 0), type := 58, pos := "ref.go:121", after := #[], guard := none } : Oper)) (oz := ({ dst := some 3, op := Op.assign (Operand.tmp 53), type := 30, pos := "ref.go:121", after := #[{ on := 17, ground := Ground.data }, { on := 17, ground := Ground.chain }, { on := 0, ground := Ground.phase }, { on := 1, ground := Ground.phase }, { on := 2, ground := Ground.phase }, { on := 3, ground := Ground.phase }, { on := 4, ground := Ground.phase }, { on := 5, ground := Ground.phase }, { on := 6, ground := Ground.phase }, { on := 7, ground := Ground.phase }, { on := 8, ground := Ground.phase }, { on := 9, ground := Ground.phase }, { on := 10, ground := Ground.phase }, { on := 11, ground := Ground.phase }, { on := 12, ground := Ground.phase }, { on := 13, ground := Ground.phase }, { on := 14, ground := Ground.phase }, { on := 15, ground := Ground.phase }, { on := 16, ground := Ground.phase }, { on := 17, ground := Ground.phase }], guard := none } : Oper)) (v := ?vA5) rfl rfl (by kernel_rfl) (by kernel_rfl) (fun _ _ _ h => h) (Region.free_spec rfl (by kernel_rfl)) (of_containsA (by kernel_rfl)) (Or.inl ⟨by rfl, ?yA5⟩) HS ?rA5
          case yA5 => (intro w hSw; (try dsimp only at hSw); go_simp; first | done | with_reducible rfl)
          (try simp only [Act.put, List.setIfInBounds_toArray, List.set_cons_zero, List.set_cons_succ])
          refine until_take (i := 6) (oi := ({ dst := some 42, op := Op.nilCheck (Operand.tmp 41), type := 0, pos := "ref.go:121", after := #[{ on := 5, ground := Ground.data }], guard := none } : Oper)) (oz := ({ dst := some 3, op := Op.assign (Operand.tmp 53), type := 30, pos := "ref.go:121", after := #[{ on := 17, ground := Ground.data }, { on := 17, ground := Ground.chain }, { on := 0, ground := Ground.phase }, { on := 1, ground := Ground.phase }, { on := 2, ground := Ground.phase }, { on := 3, ground := Ground.phase }, { on := 4, ground := Ground.phase }, { on := 5, ground := Ground.phase }, { on := 6, ground := Ground.phase }, { on := 7, ground := Ground.phase }, { on := 8, ground := Ground.phase }, { on := 9, ground := Ground.phase }, { on := 10, ground := Ground.phase }, { on := 11, ground := Ground.phase }, { on := 12, ground := Ground.phase }, { on := 13, ground := Ground.phase }, { on := 14, ground := Ground.phase }, { on := 15, ground := Ground.phase }, { on := 16, ground := Ground.phase }, { on := 17, ground := Ground.phase }], guard := none } : Oper)) (v := ?vA6) rfl rfl (by kernel_rfl) (by kernel_rfl) (fun _ _ _ h => h) (Region.free_spec rfl (by kernel_rfl)) (of_containsA (by kernel_rfl)) (Or.inl ⟨by rfl, ?yA6⟩) HS ?rA6
          case yA6 => (intro w hSw; (try dsimp only at hSw); go_simp; first | done | with_reducible rfl)
          (try simp only [Act.put, List.setIfInBounds_toArray, List.set_cons_zero, List.set_cons_succ])
          refine until_take (i := 7) (oi := ({ dst := some 43, op := Op.fieldAddr 34 (Operand.tmp 42) 0, type := 0, pos := "ref.go:121", after := #[{ on := 6, ground := Ground.data }], guard := none } : Oper)) (oz := ({ dst := some 3, op := Op.assign (Operand.tmp 53), type := 30, pos := "ref.go:121", after := #[{ on := 17, ground := Ground.data }, { on := 17, ground := Ground.chain }, { on := 0, ground := Ground.phase }, { on := 1, ground := Ground.phase }, { on := 2, ground := Ground.phase }, { on := 3, ground := Ground.phase }, { on := 4, ground := Ground.phase }, { on := 5, ground := Ground.phase }, { on := 6, ground := Ground.phase }, { on := 7, ground := Ground.phase }, { on := 8, ground := Ground.phase }, { on := 9, ground := Ground.phase }, { on := 10, ground := Ground.phase }, { on := 11, ground := Ground.phase }, { on := 12, ground := Ground.phase }, { on := 13, ground := Ground.phase }, { on := 14, ground := Ground.phase }, { on := 15, ground := Ground.phase }, { on := 16, ground := Ground.phase }, { on := 17, ground := Ground.phase }], guard := none } : Oper)) (v := ?vA7) rfl rfl (by kernel_rfl) (by kernel_rfl) (fun _ _ _ h => h) (Region.free_spec rfl (by kernel_rfl)) (of_containsA (by kernel_rfl)) (Or.inl ⟨by rfl, ?yA7⟩) HS ?rA7
          case yA7 => (intro w hSw; (try dsimp only at hSw); go_simp; first | done | with_reducible rfl)
          (try simp only [Act.put, List.setIfInBounds_toArray, List.set_cons_zero, List.set_cons_succ])
          refine until_take (i := 8) (oi := ({ dst := some 44, op := Op.load 30 (Operand.tmp 43), type := 30, pos := "ref.go:121", after := #[{ on := 7, ground := Ground.data }], guard := none } : Oper)) (oz := ({ dst := some 3, op := Op.assign (Operand.tmp 53), type := 30, pos := "ref.go:121", after := #[{ on := 17, ground := Ground.data }, { on := 17, ground := Ground.chain }, { on := 0, ground := Ground.phase }, { on := 1, ground := Ground.phase }, { on := 2, ground := Ground.phase }, { on := 3, ground := Ground.phase }, { on := 4, ground := Ground.phase }, { on := 5, ground := Ground.phase }, { on := 6, ground := Ground.phase }, { on := 7, ground := Ground.phase }, { on := 8, ground := Ground.phase }, { on := 9, ground := Ground.phase }, { on := 10, ground := Ground.phase }, { on := 11, ground := Ground.phase }, { on := 12, ground := Ground.phase }, { on := 13, ground := Ground.phase }, { on := 14, ground := Ground.phase }, { on := 15, ground := Ground.phase }, { on := 16, ground := Ground.phase }, { on := 17, ground := Ground.phase }], guard := none } : Oper)) (v := ?vA8) rfl rfl (by kernel_rfl) (by kernel_rfl) (fun _ _ _ h => h) (Region.free_spec rfl (by kernel_rfl)) (of_containsA (by kernel_rfl)) (Or.inl ⟨by rfl, ?yA8⟩) HS ?rA8
          case yA8 => (intro w hSw; (try dsimp only at hSw); go_simp; first | done | with_reducible rfl)
          (try simp only [Act.put, List.setIfInBounds_toArray, List.set_cons_zero, List.set_cons_succ])
          refine until_take (i := 9) (oi := ({ dst := some 45, op := Op.move (Operand.tmp 4), type := 3, pos := "ref.go:121", after := #[], guard := none } : Oper)) (oz := ({ dst := some 3, op := Op.assign (Operand.tmp 53), type := 30, pos := "ref.go:121", after := #[{ on := 17, ground := Ground.data }, { on := 17, ground := Ground.chain }, { on := 0, ground := Ground.phase }, { on := 1, ground := Ground.phase }, { on := 2, ground := Ground.phase }, { on := 3, ground := Ground.phase }, { on := 4, ground := Ground.phase }, { on := 5, ground := Ground.phase }, { on := 6, ground := Ground.phase }, { on := 7, ground := Ground.phase }, { on := 8, ground := Ground.phase }, { on := 9, ground := Ground.phase }, { on := 10, ground := Ground.phase }, { on := 11, ground := Ground.phase }, { on := 12, ground := Ground.phase }, { on := 13, ground := Ground.phase }, { on := 14, ground := Ground.phase }, { on := 15, ground := Ground.phase }, { on := 16, ground := Ground.phase }, { on := 17, ground := Ground.phase }], guard := none } : Oper)) (v := ?vA9) rfl rfl (by kernel_rfl) (by kernel_rfl) (fun _ _ _ h => h) (Region.free_spec rfl (by kernel_rfl)) (of_containsA (by kernel_rfl)) (Or.inl ⟨by rfl, ?yA9⟩) HS ?rA9
          case yA9 => (intro w hSw; (try dsimp only at hSw); go_simp; first | done | with_reducible rfl)
          (try simp only [Act.put, List.setIfInBounds_toArray, List.set_cons_zero, List.set_cons_succ])
          refine until_take (i := 10) (oi := ({ dst := some 46, op := Op.indexAddr 30 (Operand.tmp 44) (Operand.tmp 45), type := 0, pos := "ref.go:121", after := #[{ on := 8, ground := Ground.data }, { on := 9, ground := Ground.data }], guard := none } : Oper)) (oz := ({ dst := some 3, op := Op.assign (Operand.tmp 53), type := 30, pos := "ref.go:121", after := #[{ on := 17, ground := Ground.data }, { on := 17, ground := Ground.chain }, { on := 0, ground := Ground.phase }, { on := 1, ground := Ground.phase }, { on := 2, ground := Ground.phase }, { on := 3, ground := Ground.phase }, { on := 4, ground := Ground.phase }, { on := 5, ground := Ground.phase }, { on := 6, ground := Ground.phase }, { on := 7, ground := Ground.phase }, { on := 8, ground := Ground.phase }, { on := 9, ground := Ground.phase }, { on := 10, ground := Ground.phase }, { on := 11, ground := Ground.phase }, { on := 12, ground := Ground.phase }, { on := 13, ground := Ground.phase }, { on := 14, ground := Ground.phase }, { on := 15, ground := Ground.phase }, { on := 16, ground := Ground.phase }, { on := 17, ground := Ground.phase }], guard := none } : Oper)) (v := ?vA10) rfl rfl (by kernel_rfl) (by kernel_rfl) (fun _ _ _ h => h) (Region.free_spec rfl (by kernel_rfl)) (of_containsA (by kernel_rfl)) (Or.inl ⟨by rfl, ?yA10⟩) HS ?rA10
          case yA10 => (intro w hSw; (try dsimp only at hSw); go_simp; first | done | with_reducible rfl)
          (try simp only [Act.put, List.setIfInBounds_toArray, List.set_cons_zero, List.set_cons_succ])
          refine until_take (i := 11) (oi := ({ dst := some 47, op := Op.load 42 (Operand.tmp 46), type := 42, pos := "ref.go:121", after := #[{ on := 10, ground := Ground.data }], guard := none } : Oper)) (oz := ({ dst := some 3, op := Op.assign (Operand.tmp 53), type := 30, pos := "ref.go:121", after := #[{ on := 17, ground := Ground.data }, { on := 17, ground := Ground.chain }, { on := 0, ground := Ground.phase }, { on := 1, ground := Ground.phase }, { on := 2, ground := Ground.phase }, { on := 3, ground := Ground.phase }, { on := 4, ground := Ground.phase }, { on := 5, ground := Ground.phase }, { on := 6, ground := Ground.phase }, { on := 7, ground := Ground.phase }, { on := 8, ground := Ground.phase }, { on := 9, ground := Ground.phase }, { on := 10, ground := Ground.phase }, { on := 11, ground := Ground.phase }, { on := 12, ground := Ground.phase }, { on := 13, ground := Ground.phase }, { on := 14, ground := Ground.phase }, { on := 15, ground := Ground.phase }, { on := 16, ground := Ground.phase }, { on := 17, ground := Ground.phase }], guard := none } : Oper)) (v := ?vA11) rfl rfl (by kernel_rfl) (by kernel_rfl) (fun _ _ _ h => h) (Region.free_spec rfl (by kernel_rfl)) (of_containsA (by kernel_rfl)) (Or.inl ⟨by rfl, ?yA11⟩) HS ?rA11
          case yA11 => (intro w hSw; (try dsimp only at hSw); go_simp; first | done | with_reducible rfl)
          (try simp only [Act.put, List.setIfInBounds_toArray, List.set_cons_zero, List.set_cons_succ])
          refine until_take (i := 14) (oi := ({ dst := some 50, op := Op.move (Operand.tmp 3), type := 30, pos := "ref.go:121", after := #[], guard := none } : Oper)) (oz := ({ dst := some 3, op := Op.assign (Operand.tmp 53), type := 30, pos := "ref.go:121", after := #[{ on := 17, ground := Ground.data }, { on := 17, ground := Ground.chain }, { on := 0, ground := Ground.phase }, { on := 1, ground := Ground.phase }, { on := 2, ground := Ground.phase }, { on := 3, ground := Ground.phase }, { on := 4, ground := Ground.phase }, { on := 5, ground := Ground.phase }, { on := 6, ground := Ground.phase }, { on := 7, ground := Ground.phase }, { on := 8, ground := Ground.phase }, { on := 9, ground := Ground.phase }, { on := 10, ground := Ground.phase }, { on := 11, ground := Ground.phase }, { on := 12, ground := Ground.phase }, { on := 13, ground := Ground.phase }, { on := 14, ground := Ground.phase }, { on := 15, ground := Ground.phase }, { on := 16, ground := Ground.phase }, { on := 17, ground := Ground.phase }], guard := none } : Oper)) (v := ?vA14) rfl rfl (by kernel_rfl) (by kernel_rfl) (fun _ _ _ h => h) (Region.free_spec rfl (by kernel_rfl)) (of_containsA (by kernel_rfl)) (Or.inl ⟨by rfl, ?yA14⟩) HS ?rA14
          case yA14 => (intro w hSw; (try dsimp only at hSw); go_simp; first | done | with_reducible rfl)
          (try simp only [Act.put, List.setIfInBounds_toArray, List.set_cons_zero, List.set_cons_succ])
          refine until_take (i := 15) (oi := ({ dst := some 51, op := Op.move (Operand.tmp 5), type := 3, pos := "ref.go:121", after := #[], guard := none } : Oper)) (oz := ({ dst := some 3, op := Op.assign (Operand.tmp 53), type := 30, pos := "ref.go:121", after := #[{ on := 17, ground := Ground.data }, { on := 17, ground := Ground.chain }, { on := 0, ground := Ground.phase }, { on := 1, ground := Ground.phase }, { on := 2, ground := Ground.phase }, { on := 3, ground := Ground.phase }, { on := 4, ground := Ground.phase }, { on := 5, ground := Ground.phase }, { on := 6, ground := Ground.phase }, { on := 7, ground := Ground.phase }, { on := 8, ground := Ground.phase }, { on := 9, ground := Ground.phase }, { on := 10, ground := Ground.phase }, { on := 11, ground := Ground.phase }, { on := 12, ground := Ground.phase }, { on := 13, ground := Ground.phase }, { on := 14, ground := Ground.phase }, { on := 15, ground := Ground.phase }, { on := 16, ground := Ground.phase }, { on := 17, ground := Ground.phase }], guard := none } : Oper)) (v := ?vA15) rfl rfl (by kernel_rfl) (by kernel_rfl) (fun _ _ _ h => h) (Region.free_spec rfl (by kernel_rfl)) (of_containsA (by kernel_rfl)) (Or.inl ⟨by rfl, ?yA15⟩) HS ?rA15
          case yA15 => (intro w hSw; (try dsimp only at hSw); go_simp; first | done | with_reducible rfl)
          (try simp only [Act.put, List.setIfInBounds_toArray, List.set_cons_zero, List.set_cons_succ])
          refine until_take (i := 16) (oi := ({ dst := some 52, op := Op.slice 30 (Operand.tmp 50) (some (Operand.tmp 51)) none none, type := 30, pos := "ref.go:121", after := #[{ on := 14, ground := Ground.data }, { on := 15, ground := Ground.data }], guard := none } : Oper)) (oz := ({ dst := some 3, op := Op.assign (Operand.tmp 53), type := 30, pos := "ref.go:121", after := #[{ on := 17, ground := Ground.data }, { on := 17, ground := Ground.chain }, { on := 0, ground := Ground.phase }, { on := 1, ground := Ground.phase }, { on := 2, ground := Ground.phase }, { on := 3, ground := Ground.phase }, { on := 4, ground := Ground.phase }, { on := 5, ground := Ground.phase }, { on := 6, ground := Ground.phase }, { on := 7, ground := Ground.phase }, { on := 8, ground := Ground.phase }, { on := 9, ground := Ground.phase }, { on := 10, ground := Ground.phase }, { on := 11, ground := Ground.phase }, { on := 12, ground := Ground.phase }, { on := 13, ground := Ground.phase }, { on := 14, ground := Ground.phase }, { on := 15, ground := Ground.phase }, { on := 16, ground := Ground.phase }, { on := 17, ground := Ground.phase }], guard := none } : Oper)) (v := ?vA16) rfl rfl (by kernel_rfl) (by kernel_rfl) (fun _ _ _ h => h) (Region.free_spec rfl (by kernel_rfl)) (of_containsA (by kernel_rfl)) (Or.inl ⟨by rfl, ?yA16⟩) HS ?rA16
          case yA16 => (intro w hSw; (try dsimp only at hSw); go_simp; first | done | with_reducible rfl)
          (try simp only [Act.put, List.setIfInBounds_toArray, List.set_cons_zero, List.set_cons_succ])
          refine until_two (i := 0) (k := 12) (by kernel_rfl) ?bA1 ?bA2
          case bA1 =>
            refine comes (o := ({ dst := some 36, op := Op.buildSlice 30 0 #[], type := 30, pos := "ref.go:121", after := #[], guard := none } : Oper)) rfl (fun K hK => ?_)
            go_simp
            refine hK.out _ _ (fun _ => SS.out _ (by first | exact Below.refl _ _ | exact bel_allocR (Below.refl _ _) (Nat.le_refl _) _ | exact bel_allocR (bel_allocR (Below.refl _ _) (Nat.le_refl _) _) (Nat.le_refl _) _)) ?_
            clear hK K
            (try simp only [Act.put, List.setIfInBounds_toArray, List.set_cons_zero, List.set_cons_succ])
            refine until_two (i := 4) (k := 12) (by kernel_rfl) ?bA3 ?bA4
            case bA3 =>
              refine comes (o := ({ dst := some 40, op := Op.call { callee := Callee.builtin Builtin.append, args := #[Operand.tmp 36, Operand.tmp 39], argTypes := #[30, 30] }, type := 30, pos := "ref.go:121", after := #[{ on := 0, ground := Ground.data }, { on := 3, ground := Ground.data }], guard := none } : Oper)) rfl (fun K hK => ?_)
              refine step_append_row (by rfl) _ _ EL.out (by rfl) _ 0 [] (by rfl) (own_emptyR (by first | exact alloc_atR (by simp) | exact alloc_farR (alloc_atR (by simp)))) (.slice none 0 0) 0 xs (by rfl) (S1.out _ (by first | exact Below.refl _ _ | exact bel_allocR (Below.refl _ _) (Nat.le_refl _) _ | exact bel_allocR (bel_allocR (Below.refl _ _) (Nat.le_refl _) _) (Nat.le_refl _) _)) ONE.out (by omega) ?_
              intro va wa hown hgrow hat
              have QF := apF (H := Wd.heap.size) (w0 := Wd) (by first | exact alloc_atR (by simp) | exact alloc_farR (alloc_atR (by simp))) (by first | (dsimp only; omega) | (simp; done)) (by first | exact Below.refl _ _ | exact bel_allocR (Below.refl _ _) (Nat.le_refl _) _ | exact bel_allocR (bel_allocR (Below.refl _ _) (Nat.le_refl _) _) (Nat.le_refl _) _) (Nat.le_refl _) hown hgrow hat
              clear hown hgrow hat
              refine hK.out _ _ (fun _ => SS.out _ QF.below) ?_
              clear hK K
              (try simp only [Act.put, List.setIfInBounds_toArray, List.set_cons_zero, List.set_cons_succ])
              refine until_one (i := 12) (by kernel_rfl) ?_
              refine comes (o := ({ dst := some 48, op := Op.buildSlice 30 1 #[(0, Operand.tmp 47)], type := 30, pos := "ref.go:121", after := #[{ on := 11, ground := Ground.data }], guard := none } : Oper)) rfl (fun K hK => ?_)
              go_simp
              refine hK.out _ _ (fun _ => SS.out _ (bel_allocR QF.below (Nat.le_refl _) _)) ?_
              clear hK K
              (try simp only [Act.put, List.setIfInBounds_toArray, List.set_cons_zero, List.set_cons_succ])
              refine until_one (i := 13) (by kernel_rfl) ?_
              refine comes (o := ({ dst := some 49, op := Op.call { callee := Callee.builtin Builtin.append, args := #[Operand.tmp 40, Operand.tmp 48], argTypes := #[30, 30] }, type := 30, pos := "ref.go:121", after := #[{ on := 4, ground := Ground.data }, { on := 12, ground := Ground.data }, { on := 4, ground := Ground.chain }], guard := none } : Oper)) rfl (fun K hK => ?_)
              refine step_append_row (by rfl) _ _ EL.out (by rfl) va 0 xs (by rfl) (ownsRow_keep QF.own (fun k hk => alloc_keepR (World.ownsRow.lt QF.own k hk).2)) (.slice (some ⟨wa.heap.size, 0, none⟩) 1 1) 1 (acells [⟨x0, x1, x2, x3, x4⟩]) (by rfl) (src_block (ys := acells [⟨x0, x1, x2, x3, x4⟩]) (alloc_atR rfl) rfl) (acells_onecell _) (by omega) ?_
              intro vb wb hown hgrow hat
              have QG := newR QF.ge (bel_allocR QF.below (Nat.le_refl _) _) (Nat.le_refl _) hown hgrow hat
              clear hown hgrow hat QF
              refine hK.out _ _ (fun _ => SS.out _ QG.below) ?_
              clear hK K
              (try simp only [Act.put, List.setIfInBounds_toArray, List.set_cons_zero, List.set_cons_succ])
              refine until_one (i := 17) (by kernel_rfl) ?_
              refine comes (o := ({ dst := some 53, op := Op.call { callee := Callee.builtin Builtin.append, args := #[Operand.tmp 49, Operand.tmp 52], argTypes := #[30, 30] }, type := 30, pos := "ref.go:121", after := #[{ on := 13, ground := Ground.data }, { on := 16, ground := Ground.data }, { on := 13, ground := Ground.chain }], guard := none } : Oper)) rfl (fun K hK => ?_)
              refine step_append_row (by rfl) _ _ EL.out (by rfl) vb (0 + 1) (xs ++ acells [⟨x0, x1, x2, x3, x4⟩]) (by rfl) QG.own (.slice none 0 0) 0 ys (by rfl) (S2.out _ QG.below) ONE2.out (by omega) ?_
              intro vd wd hown hgrow hat
              have QH := newR QG.ge QG.below (Nat.le_refl _) hown hgrow hat
              have FIN := Hid.intro (FW.out wd vd QH)
              have GB := Hid.intro QH.below
              clear hown hgrow hat QG QH
              refine hK.out _ _ (fun _ => SS.out _ GB.out) ?_
              clear hK K
              (try simp only [Act.put, List.setIfInBounds_toArray, List.set_cons_zero, List.set_cons_succ])
              refine until_one (i := 18) (by kernel_rfl) ?_
              refine comes (o := ({ dst := some 3, op := Op.assign (Operand.tmp 53), type := 30, pos := "ref.go:121", after := #[{ on := 17, ground := Ground.data }, { on := 17, ground := Ground.chain }, { on := 0, ground := Ground.phase }, { on := 1, ground := Ground.phase }, { on := 2, ground := Ground.phase }, { on := 3, ground := Ground.phase }, { on := 4, ground := Ground.phase }, { on := 5, ground := Ground.phase }, { on := 6, ground := Ground.phase }, { on := 7, ground := Ground.phase }, { on := 8, ground := Ground.phase }, { on := 9, ground := Ground.phase }, { on := 10, ground := Ground.phase }, { on := 11, ground := Ground.phase }, { on := 12, ground := Ground.phase }, { on := 13, ground := Ground.phase }, { on := 14, ground := Ground.phase }, { on := 15, ground := Ground.phase }, { on := 16, ground := Ground.phase }, { on := 17, ground := Ground.phase }], guard := none } : Oper)) rfl (fun K hK => ?_)
              go_simp
              refine hK.out _ _ (fun q => absurd rfl q) ?_
              clear hK K
              (try simp only [Act.put, List.setIfInBounds_toArray, List.set_cons_zero, List.set_cons_succ])
              refine until_done (by kernel_rfl) ?_ _
              clear HS SS S1 S2 FW GB
              go_wp2
              go_roundw
              case rel =>
                exact ⟨0 + 1, by omega, by go_num, FIN.out⟩
              case measure => simp [intOf]; omega
            case bA4 =>
              refine comes (o := ({ dst := some 48, op := Op.buildSlice 30 1 #[(0, Operand.tmp 47)], type := 30, pos := "ref.go:121", after := #[{ on := 11, ground := Ground.data }], guard := none } : Oper)) rfl (fun K hK => ?_)
              go_simp
              refine hK.out _ _ (fun _ => SS.out _ (by first | exact Below.refl _ _ | exact bel_allocR (Below.refl _ _) (Nat.le_refl _) _ | exact bel_allocR (bel_allocR (Below.refl _ _) (Nat.le_refl _) _) (Nat.le_refl _) _)) ?_
              clear hK K
              (try simp only [Act.put, List.setIfInBounds_toArray, List.set_cons_zero, List.set_cons_succ])
              refine until_one (i := 4) (by kernel_rfl) ?_
              refine comes (o := ({ dst := some 40, op := Op.call { callee := Callee.builtin Builtin.append, args := #[Operand.tmp 36, Operand.tmp 39], argTypes := #[30, 30] }, type := 30, pos := "ref.go:121", after := #[{ on := 0, ground := Ground.data }, { on := 3, ground := Ground.data }], guard := none } : Oper)) rfl (fun K hK => ?_)
              refine step_append_row (by rfl) _ _ EL.out (by rfl) _ 0 [] (by rfl) (own_emptyR (by first | exact alloc_atR (by simp) | exact alloc_farR (alloc_atR (by simp)))) (.slice none 0 0) 0 xs (by rfl) (S1.out _ (by first | exact Below.refl _ _ | exact bel_allocR (Below.refl _ _) (Nat.le_refl _) _ | exact bel_allocR (bel_allocR (Below.refl _ _) (Nat.le_refl _) _) (Nat.le_refl _) _)) ONE.out (by omega) ?_
              intro va wa hown hgrow hat
              have QF := apF (H := Wd.heap.size) (w0 := Wd) (by first | exact alloc_atR (by simp) | exact alloc_farR (alloc_atR (by simp))) (by first | (dsimp only; omega) | (simp; done)) (by first | exact Below.refl _ _ | exact bel_allocR (Below.refl _ _) (Nat.le_refl _) _ | exact bel_allocR (bel_allocR (Below.refl _ _) (Nat.le_refl _) _) (Nat.le_refl _) _) (Nat.le_refl _) hown hgrow hat
              clear hown hgrow hat
              refine hK.out _ _ (fun _ => SS.out _ QF.below) ?_
              clear hK K
              (try simp only [Act.put, List.setIfInBounds_toArray, List.set_cons_zero, List.set_cons_succ])
              refine until_one (i := 13) (by kernel_rfl) ?_
              refine comes (o := ({ dst := some 49, op := Op.call { callee := Callee.builtin Builtin.append, args := #[Operand.tmp 40, Operand.tmp 48], argTypes := #[30, 30] }, type := 30, pos := "ref.go:121", after := #[{ on := 4, ground := Ground.data }, { on := 12, ground := Ground.data }, { on := 4, ground := Ground.chain }], guard := none } : Oper)) rfl (fun K hK => ?_)
              refine step_append_row (by rfl) _ _ EL.out (by rfl) va 0 xs (by rfl) QF.own (.slice (some ⟨Wd.heap.size + 1, 0, none⟩) 1 1) 1 (acells [⟨x0, x1, x2, x3, x4⟩]) (by rfl) (src_block (ys := acells [⟨x0, x1, x2, x3, x4⟩]) (QF.keep _ _ (by first | exact alloc_atR (by simp) | exact alloc_farR (alloc_atR (by simp))) (by simp [acells, acell])) rfl) (acells_onecell _) (by omega) ?_
              intro vb wb hown hgrow hat
              have QG := newR QF.ge QF.below (Nat.le_refl _) hown hgrow hat
              clear hown hgrow hat QF
              refine hK.out _ _ (fun _ => SS.out _ QG.below) ?_
              clear hK K
              (try simp only [Act.put, List.setIfInBounds_toArray, List.set_cons_zero, List.set_cons_succ])
              refine until_one (i := 17) (by kernel_rfl) ?_
              refine comes (o := ({ dst := some 53, op := Op.call { callee := Callee.builtin Builtin.append, args := #[Operand.tmp 49, Operand.tmp 52], argTypes := #[30, 30] }, type := 30, pos := "ref.go:121", after := #[{ on := 13, ground := Ground.data }, { on := 16, ground := Ground.data }, { on := 13, ground := Ground.chain }], guard := none } : Oper)) rfl (fun K hK => ?_)
              refine step_append_row (by rfl) _ _ EL.out (by rfl) vb (0 + 1) (xs ++ acells [⟨x0, x1, x2, x3, x4⟩]) (by rfl) QG.own (.slice none 0 0) 0 ys (by rfl) (S2.out _ QG.below) ONE2.out (by omega) ?_
              intro vd wd hown hgrow hat
              have QH := newR QG.ge QG.below (Nat.le_refl _) hown hgrow hat
              have FIN := Hid.intro (FW.out wd vd QH)
              have GB := Hid.intro QH.below
              clear hown hgrow hat QG QH
              refine hK.out _ _ (fun _ => SS.out _ GB.out) ?_
              clear hK K
              (try simp only [Act.put, List.setIfInBounds_toArray, List.set_cons_zero, List.set_cons_succ])
              refine until_one (i := 18) (by kernel_rfl) ?_
              refine comes (o := ({ dst := some 3, op := Op.assign (Operand.tmp 53), type := 30, pos := "ref.go:121", after := #[{ on := 17, ground := Ground.data }, { on := 17, ground := Ground.chain }, { on := 0, ground := Ground.phase }, { on := 1, ground := Ground.phase }, { on := 2, ground := Ground.phase }, { on := 3, ground := Ground.phase }, { on := 4, ground := Ground.phase }, { on := 5, ground := Ground.phase }, { on := 6, ground := Ground.phase }, { on := 7, ground := Ground.phase }, { on := 8, ground := Ground.phase }, { on := 9, ground := Ground.phase }, { on := 10, ground := Ground.phase }, { on := 11, ground := Ground.phase }, { on := 12, ground := Ground.phase }, { on := 13, ground := Ground.phase }, { on := 14, ground := Ground.phase }, { on := 15, ground := Ground.phase }, { on := 16, ground := Ground.phase }, { on := 17, ground := Ground.phase }], guard := none } : Oper)) rfl (fun K hK => ?_)
              go_simp
              refine hK.out _ _ (fun q => absurd rfl q) ?_
              clear hK K
              (try simp only [Act.put, List.setIfInBounds_toArray, List.set_cons_zero, List.set_cons_succ])
              refine until_done (by kernel_rfl) ?_ _
              clear HS SS S1 S2 FW GB
              go_wp2
              go_roundw
              case rel =>
                exact ⟨0 + 1, by omega, by go_num, FIN.out⟩
              case measure => simp [intOf]; omega
          case bA2 =>
            refine comes (o := ({ dst := some 48, op := Op.buildSlice 30 1 #[(0, Operand.tmp 47)], type := 30, pos := "ref.go:121", after := #[{ on := 11, ground := Ground.data }], guard := none } : Oper)) rfl (fun K hK => ?_)
            go_simp
            refine hK.out _ _ (fun _ => SS.out _ (by first | exact Below.refl _ _ | exact bel_allocR (Below.refl _ _) (Nat.le_refl _) _ | exact bel_allocR (bel_allocR (Below.refl _ _) (Nat.le_refl _) _) (Nat.le_refl _) _)) ?_
            clear hK K
            (try simp only [Act.put, List.setIfInBounds_toArray, List.set_cons_zero, List.set_cons_succ])
            refine until_one (i := 0) (by kernel_rfl) ?_
            refine comes (o := ({ dst := some 36, op := Op.buildSlice 30 0 #[], type := 30, pos := "ref.go:121", after := #[], guard := none } : Oper)) rfl (fun K hK => ?_)
            go_simp
            refine hK.out _ _ (fun _ => SS.out _ (by first | exact Below.refl _ _ | exact bel_allocR (Below.refl _ _) (Nat.le_refl _) _ | exact bel_allocR (bel_allocR (Below.refl _ _) (Nat.le_refl _) _) (Nat.le_refl _) _)) ?_
            clear hK K
            (try simp only [Act.put, List.setIfInBounds_toArray, List.set_cons_zero, List.set_cons_succ])
            refine until_one (i := 4) (by kernel_rfl) ?_
            refine comes (o := ({ dst := some 40, op := Op.call { callee := Callee.builtin Builtin.append, args := #[Operand.tmp 36, Operand.tmp 39], argTypes := #[30, 30] }, type := 30, pos := "ref.go:121", after := #[{ on := 0, ground := Ground.data }, { on := 3, ground := Ground.data }], guard := none } : Oper)) rfl (fun K hK => ?_)
            refine step_append_row (by rfl) _ _ EL.out (by rfl) _ 0 [] (by rfl) (own_emptyR (by first | exact alloc_atR (by simp) | exact alloc_farR (alloc_atR (by simp)))) (.slice none 0 0) 0 xs (by rfl) (S1.out _ (by first | exact Below.refl _ _ | exact bel_allocR (Below.refl _ _) (Nat.le_refl _) _ | exact bel_allocR (bel_allocR (Below.refl _ _) (Nat.le_refl _) _) (Nat.le_refl _) _)) ONE.out (by omega) ?_
            intro va wa hown hgrow hat
            have QF := apF (H := Wd.heap.size) (w0 := Wd) (by first | exact alloc_atR (by simp) | exact alloc_farR (alloc_atR (by simp))) (by first | (dsimp only; omega) | (simp; done)) (by first | exact Below.refl _ _ | exact bel_allocR (Below.refl _ _) (Nat.le_refl _) _ | exact bel_allocR (bel_allocR (Below.refl _ _) (Nat.le_refl _) _) (Nat.le_refl _) _) (Nat.le_refl _) hown hgrow hat
            clear hown hgrow hat
            refine hK.out _ _ (fun _ => SS.out _ QF.below) ?_
            clear hK K
            (try simp only [Act.put, List.setIfInBounds_toArray, List.set_cons_zero, List.set_cons_succ])
            refine until_one (i := 13) (by kernel_rfl) ?_
            refine comes (o := ({ dst := some 49, op := Op.call { callee := Callee.builtin Builtin.append, args := #[Operand.tmp 40, Operand.tmp 48], argTypes := #[30, 30] }, type := 30, pos := "ref.go:121", after := #[{ on := 4, ground := Ground.data }, { on := 12, ground := Ground.data }, { on := 4, ground := Ground.chain }], guard := none } : Oper)) rfl (fun K hK => ?_)
            refine step_append_row (by rfl) _ _ EL.out (by rfl) va 0 xs (by rfl) QF.own (.slice (some ⟨Wd.heap.size, 0, none⟩) 1 1) 1 (acells [⟨x0, x1, x2, x3, x4⟩]) (by rfl) (src_block (ys := acells [⟨x0, x1, x2, x3, x4⟩]) (QF.keep _ _ (by first | exact alloc_atR (by simp) | exact alloc_farR (alloc_atR (by simp))) (by simp [acells, acell])) rfl) (acells_onecell _) (by omega) ?_
            intro vb wb hown hgrow hat
            have QG := newR QF.ge QF.below (Nat.le_refl _) hown hgrow hat
            clear hown hgrow hat QF
            refine hK.out _ _ (fun _ => SS.out _ QG.below) ?_
            clear hK K
            (try simp only [Act.put, List.setIfInBounds_toArray, List.set_cons_zero, List.set_cons_succ])
            refine until_one (i := 17) (by kernel_rfl) ?_
            refine comes (o := ({ dst := some 53, op := Op.call { callee := Callee.builtin Builtin.append, args := #[Operand.tmp 49, Operand.tmp 52], argTypes := #[30, 30] }, type := 30, pos := "ref.go:121", after := #[{ on := 13, ground := Ground.data }, { on := 16, ground := Ground.data }, { on := 13, ground := Ground.chain }], guard := none } : Oper)) rfl (fun K hK => ?_)
            refine step_append_row (by rfl) _ _ EL.out (by rfl) vb (0 + 1) (xs ++ acells [⟨x0, x1, x2, x3, x4⟩]) (by rfl) QG.own (.slice none 0 0) 0 ys (by rfl) (S2.out _ QG.below) ONE2.out (by omega) ?_
            intro vd wd hown hgrow hat
            have QH := newR QG.ge QG.below (Nat.le_refl _) hown hgrow hat
            have FIN := Hid.intro (FW.out wd vd QH)
            have GB := Hid.intro QH.below
            clear hown hgrow hat QG QH
            refine hK.out _ _ (fun _ => SS.out _ GB.out) ?_
            clear hK K
            (try simp only [Act.put, List.setIfInBounds_toArray, List.set_cons_zero, List.set_cons_succ])
            refine until_one (i := 18) (by kernel_rfl) ?_
            refine comes (o := ({ dst := some 3, op := Op.assign (Operand.tmp 53), type := 30, pos := "ref.go:121", after := #[{ on := 17, ground := Ground.data }, { on := 17, ground := Ground.chain }, { on := 0, ground := Ground.phase }, { on := 1, ground := Ground.phase }, { on := 2, ground := Ground.phase }, { on := 3, ground := Ground.phase }, { on := 4, ground := Ground.phase }, { on := 5, ground := Ground.phase }, { on := 6, ground := Ground.phase }, { on := 7, ground := Ground.phase }, { on := 8, ground := Ground.phase }, { on := 9, ground := Ground.phase }, { on := 10, ground := Ground.phase }, { on := 11, ground := Ground.phase }, { on := 12, ground := Ground.phase }, { on := 13, ground := Ground.phase }, { on := 14, ground := Ground.phase }, { on := 15, ground := Ground.phase }, { on := 16, ground := Ground.phase }, { on := 17, ground := Ground.phase }], guard := none } : Oper)) rfl (fun K hK => ?_)
            go_simp
            refine hK.out _ _ (fun q => absurd rfl q) ?_
            clear hK K
            (try simp only [Act.put, List.setIfInBounds_toArray, List.set_cons_zero, List.set_cons_succ])
            refine until_done (by kernel_rfl) ?_ _
            clear HS SS S1 S2 FW GB
            go_wp2
            go_roundw
            case rel =>
              exact ⟨0 + 1, by omega, by go_num, FIN.out⟩
            case measure => simp [intOf]; omega
        | some a =>
          obtain ⟨g', hg'⟩ : ∃ g', some a = some (⟨g', 0, none⟩ : Addr) := by
            rcases HOZ.out with q | ⟨q, hq⟩
            · rcases RH.out.own.2 with ⟨hv, h0⟩ | ⟨g2, cap, cur, hv, _⟩
              · cases hv
              · cases hv; exact ⟨g2, rfl⟩
            · exact ⟨q, hq⟩
          obtain rfl := Option.some.inj hg'
          obtain ⟨cap1, cap2⟩ := CAP.out g' rfl
          have SA : Hid (∀ X, Below wc.heap.size wc X → SrcV X 5 (.slice (some ⟨g', 0, none⟩) k oc) k (acells (M.take k))) := fun X hX => by
            have q := src_part16 (L := M) (o := 0) (m := k) (c' := oc) (ON.out X hX) (by omega)
            rw [List.drop_zero, Nat.zero_mul] at q
            exact q
          have k3 : (k : Int) ≤ (oc : Int) := by omega
          have kt : (k : Int).toNat = k := by omega
          by_cases hfull : oc = k
          · have htk : t = k := by omega
            have SB : Hid (∀ X, Below wc.heap.size wc X → SrcV X 5 (.slice (some ⟨g', 0, none⟩) 0 0) 0 (acells (M.drop k))) := fun X hX => by
              rw [List.drop_eq_nil_of_le (by omega)]
              exact src_empty16
            generalize acells (M.take k) = xs at *
            generalize acells (M.drop k) = ys at *
            rw [show t - k = 0 by omega] at FN
            clear NX RH ML MLT HM HO ON CAP HOZ BH hx hP htk
            subst hfull
            -- C
            have HS0 := KK.out wc.drew (Below.refl _ wc).drew
            go_wp2_with fail
            refine until_start (S := (fun W => W.cell? ⟨b, 0, none⟩ = some (.slice (some ⟨g, 0, none⟩) n c) ∧ W.cell? ⟨g, t * 5, none⟩ = some (.int .i64 x0) ∧ W.cell? ⟨g, t * 5 + 1, none⟩ = some (.int .i64 x1) ∧ W.cell? ⟨g, t * 5 + 2, none⟩ = some (.int .i64 x2) ∧ W.cell? ⟨g, t * 5 + 3, none⟩ = some (.bool x3) ∧ W.cell? ⟨g, t * 5 + 4, none⟩ = some (.bool x4))) (z := 18) (by kernel_rfl) ?_
            have BW : Hid (Below wc.heap.size wc wc.drew) := (Below.refl _ wc).drew
            generalize wc.drew = Wd at *
            have HS : (fun W => W.cell? ⟨b, 0, none⟩ = some (.slice (some ⟨g, 0, none⟩) n c) ∧ W.cell? ⟨g, t * 5, none⟩ = some (.int .i64 x0) ∧ W.cell? ⟨g, t * 5 + 1, none⟩ = some (.int .i64 x1) ∧ W.cell? ⟨g, t * 5 + 2, none⟩ = some (.int .i64 x2) ∧ W.cell? ⟨g, t * 5 + 3, none⟩ = some (.bool x3) ∧ W.cell? ⟨g, t * 5 + 4, none⟩ = some (.bool x4)) Wd := HS0
            have SS : Hid (∀ X, Below Wd.heap.size Wd X → (fun W => W.cell? ⟨b, 0, none⟩ = some (.slice (some ⟨g, 0, none⟩) n c) ∧ W.cell? ⟨g, t * 5, none⟩ = some (.int .i64 x0) ∧ W.cell? ⟨g, t * 5 + 1, none⟩ = some (.int .i64 x1) ∧ W.cell? ⟨g, t * 5 + 2, none⟩ = some (.int .i64 x2) ∧ W.cell? ⟨g, t * 5 + 3, none⟩ = some (.bool x3) ∧ W.cell? ⟨g, t * 5 + 4, none⟩ = some (.bool x4)) X) := fun X hX => KK.out X (BW.out.trans (hX.mono BW.out.size))
            have S1 := Hid.intro (fun X (hX : Below Wd.heap.size Wd X) => SA.out X (BW.out.trans (hX.mono BW.out.size)))
            have S2 := Hid.intro (fun X (hX : Below Wd.heap.size Wd X) => SB.out X (BW.out.trans (hX.mono BW.out.size)))
            have FW := Hid.intro (fun wd vd hN => FN.out Wd BW.out wd vd hN)
            clear HS0 KK SA SB FN
            refine until_take (i := 1) (oi := ({ dst := some 37, op := Op.move (Operand.tmp 3), type := 30, pos := "ref.go:121", after := #[], guard := none } : Oper)) (oz := ({ dst := some 3, op := Op.assign (Operand.tmp 53), type := 30, pos := "ref.go:121", after := #[{ on := 17, ground := Ground.data }, { on := 17, ground := Ground.chain }, { on := 0, ground := Ground.phase }, { on := 1, ground := Ground.phase }, { on := 2, ground := Ground.phase }, { on := 3, ground := Ground.phase }, { on := 4, ground := Ground.phase }, { on := 5, ground := Ground.phase }, { on := 6, ground := Ground.phase }, { on := 7, ground := Ground.phase }, { on := 8, ground := Ground.phase }, { on := 9, ground := Ground.phase }, { on := 10, ground := Ground.phase }, { on := 11, ground := Ground.phase }, { on := 12, ground := Ground.phase }, { on := 13, ground := Ground.phase }, { on := 14, ground := Ground.phase }, { on := 15, ground := Ground.phase }, { on := 16, ground := Ground.phase }, { on := 17, ground := Ground.phase }], guard := none } : Oper)) (v := ?vC1) rfl rfl (by kernel_rfl) (by kernel_rfl) (fun _ _ _ h => h) (Region.free_spec rfl (by kernel_rfl)) (of_containsA (by kernel_rfl)) (Or.inl ⟨by rfl, ?yC1⟩) HS ?rC1
            case yC1 => (intro w hSw; (try dsimp only at hSw); go_simp; first | done | with_reducible rfl)
            (try simp only [Act.put, List.setIfInBounds_toArray, List.set_cons_zero, List.set_cons_succ])
            refine until_take (i := 2) (oi := ({ dst := some 38, op := Op.move (Operand.tmp 5), type := 3, pos := "ref.go:121", after := #[], guard := none } : Oper)) (oz := ({ dst := some 3, op := Op.assign (Operand.tmp 53), type := 30, pos := "ref.go:121", after := #[{ on := 17, ground := Ground.data }, { on := 17, ground := Ground.chain }, { on := 0, ground := Ground.phase }, { on := 1, ground := Ground.phase }, { on := 2, ground := Ground.phase }, { on := 3, ground := Ground.phase }, { on := 4, ground := Ground.phase }, { on := 5, ground := Ground.phase }, { on := 6, ground := Ground.phase }, { on := 7, ground := Ground.phase }, { on := 8, ground := Ground.phase }, { on := 9, ground := Ground.phase }, { on := 10, ground := Ground.phase }, { on := 11, ground := Ground.phase }, { on := 12, ground := Ground.phase }, { on := 13, ground := Ground.phase }, { on := 14, ground := Ground.phase }, { on := 15, ground := Ground.phase }, { on := 16, ground := Ground.phase }, { on := 17, ground := Ground.phase }], guard := none } : Oper)) (v := ?vC2) rfl rfl (by kernel_rfl) (by kernel_rfl) (fun _ _ _ h => h) (Region.free_spec rfl (by kernel_rfl)) (of_containsA (by kernel_rfl)) (Or.inl ⟨by rfl, ?yC2⟩) HS ?rC2
            case yC2 => (intro w hSw; (try dsimp only at hSw); go_simp; first | done | with_reducible rfl)
            (try simp only [Act.put, List.setIfInBounds_toArray, List.set_cons_zero, List.set_cons_succ])
            refine until_take (i := 3) (oi := ({ dst := some 39, op := Op.slice 30 (Operand.tmp 37) none (some (Operand.tmp 38)) none, type := 30, pos := "ref.go:121", after := #[{ on := 1, ground := Ground.data }, { on := 2, ground := Ground.data }], guard := none } : Oper)) (oz := ({ dst := some 3, op := Op.assign (Operand.tmp 53), type := 30, pos := "ref.go:121", after := #[{ on := 17, ground := Ground.data }, { on := 17, ground := Ground.chain }, { on := 0, ground := Ground.phase }, { on := 1, ground := Ground.phase }, { on := 2, ground := Ground.phase }, { on := 3, ground := Ground.phase }, { on := 4, ground := Ground.phase }, { on := 5, ground := Ground.phase }, { on := 6, ground := Ground.phase }, { on := 7, ground := Ground.phase }, { on := 8, ground := Ground.phase }, { on := 9, ground := Ground.phase }, { on := 10, ground := Ground.phase }, { on := 11, ground := Ground.phase }, { on := 12, ground := Ground.phase }, { on := 13, ground := Ground.phase }, { on := 14, ground := Ground.phase }, { on := 15, ground := Ground.phase }, { on := 16, ground := Ground.phase }, { on := 17, ground := Ground.phase }], guard := none } : Oper)) (v := ?vC3) rfl rfl (by kernel_rfl) (by kernel_rfl) (fun _ _ _ h => h) (Region.free_spec rfl (by kernel_rfl)) (of_containsA (by kernel_rfl)) (Or.inl ⟨by rfl, ?yC3⟩) HS ?rC3
            case yC3 => (intro w hSw; (try dsimp only at hSw); go_simp; first | done | with_reducible rfl)
            (try simp only [Act.put, List.setIfInBounds_toArray, List.set_cons_zero, List.set_cons_succ])
            refine until_take (i := 5) (oi := ({ dst := some 41, op := Op.move (Operand.tmp 0), type := 58, pos := "ref.go:121", after := #[], guard := none } : Oper)) (oz := ({ dst := some 3, op := Op.assign (Operand.tmp 53), type := 30, pos := "ref.go:121", after := #[{ on := 17, ground := Ground.data }, { on := 17, ground := Ground.chain }, { on := 0, ground := Ground.phase }, { on := 1, ground := Ground.phase }, { on := 2, ground := Ground.phase }, { on := 3, ground := Ground.phase }, { on := 4, ground := Ground.phase }, { on := 5, ground := Ground.phase }, { on := 6, ground := Ground.phase }, { on := 7, ground := Ground.phase }, { on := 8, ground := Ground.phase }, { on := 9, ground := Ground.phase }, { on := 10, ground := Ground.phase }, { on := 11, ground := Ground.phase }, { on := 12, ground := Ground.phase }, { on := 13, ground := Ground.phase }, { on := 14, ground := Ground.phase }, { on := 15, ground := Ground.phase }, { on := 16, ground := Ground.phase }, { on := 17, ground := Ground.phase }], guard := none } : Oper)) (v := ?vC5) rfl rfl (by kernel_rfl) (by kernel_rfl) (fun _ _ _ h => h) (Region.free_spec rfl (by kernel_rfl)) (of_containsA (by kernel_rfl)) (Or.inl ⟨by rfl, ?yC5⟩) HS ?rC5
            case yC5 => (intro w hSw; (try dsimp only at hSw); go_simp; first | done | with_reducible rfl)
            (try simp only [Act.put, List.setIfInBounds_toArray, List.set_cons_zero, List.set_cons_succ])
            refine until_take (i := 6) (oi := ({ dst := some 42, op := Op.nilCheck (Operand.tmp 41), type := 0, pos := "ref.go:121", after := #[{ on := 5, ground := Ground.data }], guard := none } : Oper)) (oz := ({ dst := some 3, op := Op.assign (Operand.tmp 53), type := 30, pos := "ref.go:121", after := #[{ on := 17, ground := Ground.data }, { on := 17, ground := Ground.chain }, { on := 0, ground := Ground.phase }, { on := 1, ground := Ground.phase }, { on := 2, ground := Ground.phase }, { on := 3, ground := Ground.phase }, { on := 4, ground := Ground.phase }, { on := 5, ground := Ground.phase }, { on := 6, ground := Ground.phase }, { on := 7, ground := Ground.phase }, { on := 8, ground := Ground.phase }, { on := 9, ground := Ground.phase }, { on := 10, ground := Ground.phase }, { on := 11, ground := Ground.phase }, { on := 12, ground := Ground.phase }, { on := 13, ground := Ground.phase }, { on := 14, ground := Ground.phase }, { on := 15, ground := Ground.phase }, { on := 16, ground := Ground.phase }, { on := 17, ground := Ground.phase }], guard := none } : Oper)) (v := ?vC6) rfl rfl (by kernel_rfl) (by kernel_rfl) (fun _ _ _ h => h) (Region.free_spec rfl (by kernel_rfl)) (of_containsA (by kernel_rfl)) (Or.inl ⟨by rfl, ?yC6⟩) HS ?rC6
            case yC6 => (intro w hSw; (try dsimp only at hSw); go_simp; first | done | with_reducible rfl)
            (try simp only [Act.put, List.setIfInBounds_toArray, List.set_cons_zero, List.set_cons_succ])
            refine until_take (i := 7) (oi := ({ dst := some 43, op := Op.fieldAddr 34 (Operand.tmp 42) 0, type := 0, pos := "ref.go:121", after := #[{ on := 6, ground := Ground.data }], guard := none } : Oper)) (oz := ({ dst := some 3, op := Op.assign (Operand.tmp 53), type := 30, pos := "ref.go:121", after := #[{ on := 17, ground := Ground.data }, { on := 17, ground := Ground.chain }, { on := 0, ground := Ground.phase }, { on := 1, ground := Ground.phase }, { on := 2, ground := Ground.phase }, { on := 3, ground := Ground.phase }, { on := 4, ground := Ground.phase }, { on := 5, ground := Ground.phase }, { on := 6, ground := Ground.phase }, { on := 7, ground := Ground.phase }, { on := 8, ground := Ground.phase }, { on := 9, ground := Ground.phase }, { on := 10, ground := Ground.phase }, { on := 11, ground := Ground.phase }, { on := 12, ground := Ground.phase }, { on := 13, ground := Ground.phase }, { on := 14, ground := Ground.phase }, { on := 15, ground := Ground.phase }, { on := 16, ground := Ground.phase }, { on := 17, ground := Ground.phase }], guard := none } : Oper)) (v := ?vC7) rfl rfl (by kernel_rfl) (by kernel_rfl) (fun _ _ _ h => h) (Region.free_spec rfl (by kernel_rfl)) (of_containsA (by kernel_rfl)) (Or.inl ⟨by rfl, ?yC7⟩) HS ?rC7
            case yC7 => (intro w hSw; (try dsimp only at hSw); go_simp; first | done | with_reducible rfl)
            (try simp only [Act.put, List.setIfInBounds_toArray, List.set_cons_zero, List.set_cons_succ])
            refine until_take (i := 8) (oi := ({ dst := some 44, op := Op.load 30 (Operand.tmp 43), type := 30, pos := "ref.go:121", after := #[{ on := 7, ground := Ground.data }], guard := none } : Oper)) (oz := ({ dst := some 3, op := Op.assign (Operand.tmp 53), type := 30, pos := "ref.go:121", after := #[{ on := 17, ground := Ground.data }, { on := 17, ground := Ground.chain }, { on := 0, ground := Ground.phase }, { on := 1, ground := Ground.phase }, { on := 2, ground := Ground.phase }, { on := 3, ground := Ground.phase }, { on := 4, ground := Ground.phase }, { on := 5, ground := Ground.phase }, { on := 6, ground := Ground.phase }, { on := 7, ground := Ground.phase }, { on := 8, ground := Ground.phase }, { on := 9, ground := Ground.phase }, { on := 10, ground := Ground.phase }, { on := 11, ground := Ground.phase }, { on := 12, ground := Ground.phase }, { on := 13, ground := Ground.phase }, { on := 14, ground := Ground.phase }, { on := 15, ground := Ground.phase }, { on := 16, ground := Ground.phase }, { on := 17, ground := Ground.phase }], guard := none } : Oper)) (v := ?vC8) rfl rfl (by kernel_rfl) (by kernel_rfl) (fun _ _ _ h => h) (Region.free_spec rfl (by kernel_rfl)) (of_containsA (by kernel_rfl)) (Or.inl ⟨by rfl, ?yC8⟩) HS ?rC8
            case yC8 => (intro w hSw; (try dsimp only at hSw); go_simp; first | done | with_reducible rfl)
            (try simp only [Act.put, List.setIfInBounds_toArray, List.set_cons_zero, List.set_cons_succ])
            refine until_take (i := 9) (oi := ({ dst := some 45, op := Op.move (Operand.tmp 4), type := 3, pos := "ref.go:121", after := #[], guard := none } : Oper)) (oz := ({ dst := some 3, op := Op.assign (Operand.tmp 53), type := 30, pos := "ref.go:121", after := #[{ on := 17, ground := Ground.data }, { on := 17, ground := Ground.chain }, { on := 0, ground := Ground.phase }, { on := 1, ground := Ground.phase }, { on := 2, ground := Ground.phase }, { on := 3, ground := Ground.phase }, { on := 4, ground := Ground.phase }, { on := 5, ground := Ground.phase }, { on := 6, ground := Ground.phase }, { on := 7, ground := Ground.phase }, { on := 8, ground := Ground.phase }, { on := 9, ground := Ground.phase }, { on := 10, ground := Ground.phase }, { on := 11, ground := Ground.phase }, { on := 12, ground := Ground.phase }, { on := 13, ground := Ground.phase }, { on := 14, ground := Ground.phase }, { on := 15, ground := Ground.phase }, { on := 16, ground := Ground.phase }, { on := 17, ground := Ground.phase }], guard := none } : Oper)) (v := ?vC9) rfl rfl (by kernel_rfl) (by kernel_rfl) (fun _ _ _ h => h) (Region.free_spec rfl (by kernel_rfl)) (of_containsA (by kernel_rfl)) (Or.inl ⟨by rfl, ?yC9⟩) HS ?rC9
            case yC9 => (intro w hSw; (try dsimp only at hSw); go_simp; first | done | with_reducible rfl)
            (try simp only [Act.put, List.setIfInBounds_toArray, List.set_cons_zero, List.set_cons_succ])
            refine until_take (i := 10) (oi := ({ dst := some 46, op := Op.indexAddr 30 (Operand.tmp 44) (Operand.tmp 45), type := 0, pos := "ref.go:121", after := #[{ on := 8, ground := Ground.data }, { on := 9, ground := Ground.data }], guard := none } : Oper)) (oz := ({ dst := some 3, op := Op.assign (Operand.tmp 53), type := 30, pos := "ref.go:121", after := #[{ on := 17, ground := Ground.data }, { on := 17, ground := Ground.chain }, { on := 0, ground := Ground.phase }, { on := 1, ground := Ground.phase }, { on := 2, ground := Ground.phase }, { on := 3, ground := Ground.phase }, { on := 4, ground := Ground.phase }, { on := 5, ground := Ground.phase }, { on := 6, ground := Ground.phase }, { on := 7, ground := Ground.phase }, { on := 8, ground := Ground.phase }, { on := 9, ground := Ground.phase }, { on := 10, ground := Ground.phase }, { on := 11, ground := Ground.phase }, { on := 12, ground := Ground.phase }, { on := 13, ground := Ground.phase }, { on := 14, ground := Ground.phase }, { on := 15, ground := Ground.phase }, { on := 16, ground := Ground.phase }, { on := 17, ground := Ground.phase }], guard := none } : Oper)) (v := ?vC10) rfl rfl (by kernel_rfl) (by kernel_rfl) (fun _ _ _ h => h) (Region.free_spec rfl (by kernel_rfl)) (of_containsA (by kernel_rfl)) (Or.inl ⟨by rfl, ?yC10⟩) HS ?rC10
            case yC10 => (intro w hSw; (try dsimp only at hSw); go_simp; first | done | with_reducible rfl)
            (try simp only [Act.put, List.setIfInBounds_toArray, List.set_cons_zero, List.set_cons_succ])
            refine until_take (i := 11) (oi := ({ dst := some 47, op := Op.load 42 (Operand.tmp 46), type := 42, pos := "ref.go:121", after := #[{ on := 10, ground := Ground.data }], guard := none } : Oper)) (oz := ({ dst := some 3, op := Op.assign (Operand.tmp 53), type := 30, pos := "ref.go:121", after := #[{ on := 17, ground := Ground.data }, { on := 17, ground := Ground.chain }, { on := 0, ground := Ground.phase }, { on := 1, ground := Ground.phase }, { on := 2, ground := Ground.phase }, { on := 3, ground := Ground.phase }, { on := 4, ground := Ground.phase }, { on := 5, ground := Ground.phase }, { on := 6, ground := Ground.phase }, { on := 7, ground := Ground.phase }, { on := 8, ground := Ground.phase }, { on := 9, ground := Ground.phase }, { on := 10, ground := Ground.phase }, { on := 11, ground := Ground.phase }, { on := 12, ground := Ground.phase }, { on := 13, ground := Ground.phase }, { on := 14, ground := Ground.phase }, { on := 15, ground := Ground.phase }, { on := 16, ground := Ground.phase }, { on := 17, ground := Ground.phase }], guard := none } : Oper)) (v := ?vC11) rfl rfl (by kernel_rfl) (by kernel_rfl) (fun _ _ _ h => h) (Region.free_spec rfl (by kernel_rfl)) (of_containsA (by kernel_rfl)) (Or.inl ⟨by rfl, ?yC11⟩) HS ?rC11
            case yC11 => (intro w hSw; (try dsimp only at hSw); go_simp; first | done | with_reducible rfl)
            (try simp only [Act.put, List.setIfInBounds_toArray, List.set_cons_zero, List.set_cons_succ])
            refine until_take (i := 14) (oi := ({ dst := some 50, op := Op.move (Operand.tmp 3), type := 30, pos := "ref.go:121", after := #[], guard := none } : Oper)) (oz := ({ dst := some 3, op := Op.assign (Operand.tmp 53), type := 30, pos := "ref.go:121", after := #[{ on := 17, ground := Ground.data }, { on := 17, ground := Ground.chain }, { on := 0, ground := Ground.phase }, { on := 1, ground := Ground.phase }, { on := 2, ground := Ground.phase }, { on := 3, ground := Ground.phase }, { on := 4, ground := Ground.phase }, { on := 5, ground := Ground.phase }, { on := 6, ground := Ground.phase }, { on := 7, ground := Ground.phase }, { on := 8, ground := Ground.phase }, { on := 9, ground := Ground.phase }, { on := 10, ground := Ground.phase }, { on := 11, ground := Ground.phase }, { on := 12, ground := Ground.phase }, { on := 13, ground := Ground.phase }, { on := 14, ground := Ground.phase }, { on := 15, ground := Ground.phase }, { on := 16, ground := Ground.phase }, { on := 17, ground := Ground.phase }], guard := none } : Oper)) (v := ?vC14) rfl rfl (by kernel_rfl) (by kernel_rfl) (fun _ _ _ h => h) (Region.free_spec rfl (by kernel_rfl)) (of_containsA (by kernel_rfl)) (Or.inl ⟨by rfl, ?yC14⟩) HS ?rC14
            case yC14 => (intro w hSw; (try dsimp only at hSw); go_simp; first | done | with_reducible rfl)
            (try simp only [Act.put, List.setIfInBounds_toArray, List.set_cons_zero, List.set_cons_succ])
            refine until_take (i := 15) (oi := ({ dst := some 51, op := Op.move (Operand.tmp 5), type := 3, pos := "ref.go:121", after := #[], guard := none } : Oper)) (oz := ({ dst := some 3, op := Op.assign (Operand.tmp 53), type := 30, pos := "ref.go:121", after := #[{ on := 17, ground := Ground.data }, { on := 17, ground := Ground.chain }, { on := 0, ground := Ground.phase }, { on := 1, ground := Ground.phase }, { on := 2, ground := Ground.phase }, { on := 3, ground := Ground.phase }, { on := 4, ground := Ground.phase }, { on := 5, ground := Ground.phase }, { on := 6, ground := Ground.phase }, { on := 7, ground := Ground.phase }, { on := 8, ground := Ground.phase }, { on := 9, ground := Ground.phase }, { on := 10, ground := Ground.phase }, { on := 11, ground := Ground.phase }, { on := 12, ground := Ground.phase }, { on := 13, ground := Ground.phase }, { on := 14, ground := Ground.phase }, { on := 15, ground := Ground.phase }, { on := 16, ground := Ground.phase }, { on := 17, ground := Ground.phase }], guard := none } : Oper)) (v := ?vC15) rfl rfl (by kernel_rfl) (by kernel_rfl) (fun _ _ _ h => h) (Region.free_spec rfl (by kernel_rfl)) (of_containsA (by kernel_rfl)) (Or.inl ⟨by rfl, ?yC15⟩) HS ?rC15
            case yC15 => (intro w hSw; (try dsimp only at hSw); go_simp; first | done | with_reducible rfl)
            (try simp only [Act.put, List.setIfInBounds_toArray, List.set_cons_zero, List.set_cons_succ])
            refine until_take (i := 16) (oi := ({ dst := some 52, op := Op.slice 30 (Operand.tmp 50) (some (Operand.tmp 51)) none none, type := 30, pos := "ref.go:121", after := #[{ on := 14, ground := Ground.data }, { on := 15, ground := Ground.data }], guard := none } : Oper)) (oz := ({ dst := some 3, op := Op.assign (Operand.tmp 53), type := 30, pos := "ref.go:121", after := #[{ on := 17, ground := Ground.data }, { on := 17, ground := Ground.chain }, { on := 0, ground := Ground.phase }, { on := 1, ground := Ground.phase }, { on := 2, ground := Ground.phase }, { on := 3, ground := Ground.phase }, { on := 4, ground := Ground.phase }, { on := 5, ground := Ground.phase }, { on := 6, ground := Ground.phase }, { on := 7, ground := Ground.phase }, { on := 8, ground := Ground.phase }, { on := 9, ground := Ground.phase }, { on := 10, ground := Ground.phase }, { on := 11, ground := Ground.phase }, { on := 12, ground := Ground.phase }, { on := 13, ground := Ground.phase }, { on := 14, ground := Ground.phase }, { on := 15, ground := Ground.phase }, { on := 16, ground := Ground.phase }, { on := 17, ground := Ground.phase }], guard := none } : Oper)) (v := ?vC16) rfl rfl (by kernel_rfl) (by kernel_rfl) (fun _ _ _ h => h) (Region.free_spec rfl (by kernel_rfl)) (of_containsA (by kernel_rfl)) (Or.inl ⟨by rfl, ?yC16⟩) HS ?rC16
            case yC16 => (intro w hSw; (try dsimp only at hSw); go_simp; first | done | with_reducible rfl)
            (try simp only [Act.put, List.setIfInBounds_toArray, List.set_cons_zero, List.set_cons_succ])
            refine until_two (i := 0) (k := 12) (by kernel_rfl) ?bC1 ?bC2
            case bC1 =>
              refine comes (o := ({ dst := some 36, op := Op.buildSlice 30 0 #[], type := 30, pos := "ref.go:121", after := #[], guard := none } : Oper)) rfl (fun K hK => ?_)
              go_simp
              refine hK.out _ _ (fun _ => SS.out _ (by first | exact Below.refl _ _ | exact bel_allocR (Below.refl _ _) (Nat.le_refl _) _ | exact bel_allocR (bel_allocR (Below.refl _ _) (Nat.le_refl _) _) (Nat.le_refl _) _)) ?_
              clear hK K
              (try simp only [Act.put, List.setIfInBounds_toArray, List.set_cons_zero, List.set_cons_succ])
              refine until_two (i := 4) (k := 12) (by kernel_rfl) ?bC3 ?bC4
              case bC3 =>
                refine comes (o := ({ dst := some 40, op := Op.call { callee := Callee.builtin Builtin.append, args := #[Operand.tmp 36, Operand.tmp 39], argTypes := #[30, 30] }, type := 30, pos := "ref.go:121", after := #[{ on := 0, ground := Ground.data }, { on := 3, ground := Ground.data }], guard := none } : Oper)) rfl (fun K hK => ?_)
                refine step_append_row (by rfl) _ _ EL.out (by rfl) _ 0 [] (by rfl) (own_emptyR (by first | exact alloc_atR (by simp) | exact alloc_farR (alloc_atR (by simp)))) (.slice (some ⟨g', 0, none⟩) oc oc) oc xs (by rfl) (S1.out _ (by first | exact Below.refl _ _ | exact bel_allocR (Below.refl _ _) (Nat.le_refl _) _ | exact bel_allocR (bel_allocR (Below.refl _ _) (Nat.le_refl _) _) (Nat.le_refl _) _)) ONE.out (by omega) ?_
                intro va wa hown hgrow hat
                have QF := apF (H := Wd.heap.size) (w0 := Wd) (by first | exact alloc_atR (by simp) | exact alloc_farR (alloc_atR (by simp))) (by first | (dsimp only; omega) | (simp; done)) (by first | exact Below.refl _ _ | exact bel_allocR (Below.refl _ _) (Nat.le_refl _) _ | exact bel_allocR (bel_allocR (Below.refl _ _) (Nat.le_refl _) _) (Nat.le_refl _) _) (Nat.le_refl _) hown hgrow hat
                clear hown hgrow hat
                refine hK.out _ _ (fun _ => SS.out _ QF.below) ?_
                clear hK K
                (try simp only [Act.put, List.setIfInBounds_toArray, List.set_cons_zero, List.set_cons_succ])
                refine until_one (i := 12) (by kernel_rfl) ?_
                refine comes (o := ({ dst := some 48, op := Op.buildSlice 30 1 #[(0, Operand.tmp 47)], type := 30, pos := "ref.go:121", after := #[{ on := 11, ground := Ground.data }], guard := none } : Oper)) rfl (fun K hK => ?_)
                go_simp
                refine hK.out _ _ (fun _ => SS.out _ (bel_allocR QF.below (Nat.le_refl _) _)) ?_
                clear hK K
                (try simp only [Act.put, List.setIfInBounds_toArray, List.set_cons_zero, List.set_cons_succ])
                refine until_one (i := 13) (by kernel_rfl) ?_
                refine comes (o := ({ dst := some 49, op := Op.call { callee := Callee.builtin Builtin.append, args := #[Operand.tmp 40, Operand.tmp 48], argTypes := #[30, 30] }, type := 30, pos := "ref.go:121", after := #[{ on := 4, ground := Ground.data }, { on := 12, ground := Ground.data }, { on := 4, ground := Ground.chain }], guard := none } : Oper)) rfl (fun K hK => ?_)
                refine step_append_row (by rfl) _ _ EL.out (by rfl) va oc xs (by rfl) (ownsRow_keep QF.own (fun k hk => alloc_keepR (World.ownsRow.lt QF.own k hk).2)) (.slice (some ⟨wa.heap.size, 0, none⟩) 1 1) 1 (acells [⟨x0, x1, x2, x3, x4⟩]) (by rfl) (src_block (ys := acells [⟨x0, x1, x2, x3, x4⟩]) (alloc_atR rfl) rfl) (acells_onecell _) (by omega) ?_
                intro vb wb hown hgrow hat
                have QG := newR QF.ge (bel_allocR QF.below (Nat.le_refl _) _) (Nat.le_refl _) hown hgrow hat
                clear hown hgrow hat QF
                refine hK.out _ _ (fun _ => SS.out _ QG.below) ?_
                clear hK K
                (try simp only [Act.put, List.setIfInBounds_toArray, List.set_cons_zero, List.set_cons_succ])
                refine until_one (i := 17) (by kernel_rfl) ?_
                refine comes (o := ({ dst := some 53, op := Op.call { callee := Callee.builtin Builtin.append, args := #[Operand.tmp 49, Operand.tmp 52], argTypes := #[30, 30] }, type := 30, pos := "ref.go:121", after := #[{ on := 13, ground := Ground.data }, { on := 16, ground := Ground.data }, { on := 13, ground := Ground.chain }], guard := none } : Oper)) rfl (fun K hK => ?_)
                refine step_append_row (by rfl) _ _ EL.out (by rfl) vb (oc + 1) (xs ++ acells [⟨x0, x1, x2, x3, x4⟩]) (by rfl) QG.own (.slice (some ⟨g', 0, none⟩) 0 0) 0 ys (by rfl) (S2.out _ QG.below) ONE2.out (by omega) ?_
                intro vd wd hown hgrow hat
                have QH := newR QG.ge QG.below (Nat.le_refl _) hown hgrow hat
                have FIN := Hid.intro (FW.out wd vd QH)
                have GB := Hid.intro QH.below
                clear hown hgrow hat QG QH
                refine hK.out _ _ (fun _ => SS.out _ GB.out) ?_
                clear hK K
                (try simp only [Act.put, List.setIfInBounds_toArray, List.set_cons_zero, List.set_cons_succ])
                refine until_one (i := 18) (by kernel_rfl) ?_
                refine comes (o := ({ dst := some 3, op := Op.assign (Operand.tmp 53), type := 30, pos := "ref.go:121", after := #[{ on := 17, ground := Ground.data }, { on := 17, ground := Ground.chain }, { on := 0, ground := Ground.phase }, { on := 1, ground := Ground.phase }, { on := 2, ground := Ground.phase }, { on := 3, ground := Ground.phase }, { on := 4, ground := Ground.phase }, { on := 5, ground := Ground.phase }, { on := 6, ground := Ground.phase }, { on := 7, ground := Ground.phase }, { on := 8, ground := Ground.phase }, { on := 9, ground := Ground.phase }, { on := 10, ground := Ground.phase }, { on := 11, ground := Ground.phase }, { on := 12, ground := Ground.phase }, { on := 13, ground := Ground.phase }, { on := 14, ground := Ground.phase }, { on := 15, ground := Ground.phase }, { on := 16, ground := Ground.phase }, { on := 17, ground := Ground.phase }], guard := none } : Oper)) rfl (fun K hK => ?_)
                go_simp
                refine hK.out _ _ (fun q => absurd rfl q) ?_
                clear hK K
                (try simp only [Act.put, List.setIfInBounds_toArray, List.set_cons_zero, List.set_cons_succ])
                refine until_done (by kernel_rfl) ?_ _
                clear HS SS S1 S2 FW GB
                go_wp2
                go_roundw
                case rel =>
                  exact ⟨t + 1, by omega, by go_num, FIN.out⟩
                case measure => simp [intOf]; omega
              case bC4 =>
                refine comes (o := ({ dst := some 48, op := Op.buildSlice 30 1 #[(0, Operand.tmp 47)], type := 30, pos := "ref.go:121", after := #[{ on := 11, ground := Ground.data }], guard := none } : Oper)) rfl (fun K hK => ?_)
                go_simp
                refine hK.out _ _ (fun _ => SS.out _ (by first | exact Below.refl _ _ | exact bel_allocR (Below.refl _ _) (Nat.le_refl _) _ | exact bel_allocR (bel_allocR (Below.refl _ _) (Nat.le_refl _) _) (Nat.le_refl _) _)) ?_
                clear hK K
                (try simp only [Act.put, List.setIfInBounds_toArray, List.set_cons_zero, List.set_cons_succ])
                refine until_one (i := 4) (by kernel_rfl) ?_
                refine comes (o := ({ dst := some 40, op := Op.call { callee := Callee.builtin Builtin.append, args := #[Operand.tmp 36, Operand.tmp 39], argTypes := #[30, 30] }, type := 30, pos := "ref.go:121", after := #[{ on := 0, ground := Ground.data }, { on := 3, ground := Ground.data }], guard := none } : Oper)) rfl (fun K hK => ?_)
                refine step_append_row (by rfl) _ _ EL.out (by rfl) _ 0 [] (by rfl) (own_emptyR (by first | exact alloc_atR (by simp) | exact alloc_farR (alloc_atR (by simp)))) (.slice (some ⟨g', 0, none⟩) oc oc) oc xs (by rfl) (S1.out _ (by first | exact Below.refl _ _ | exact bel_allocR (Below.refl _ _) (Nat.le_refl _) _ | exact bel_allocR (bel_allocR (Below.refl _ _) (Nat.le_refl _) _) (Nat.le_refl _) _)) ONE.out (by omega) ?_
                intro va wa hown hgrow hat
                have QF := apF (H := Wd.heap.size) (w0 := Wd) (by first | exact alloc_atR (by simp) | exact alloc_farR (alloc_atR (by simp))) (by first | (dsimp only; omega) | (simp; done)) (by first | exact Below.refl _ _ | exact bel_allocR (Below.refl _ _) (Nat.le_refl _) _ | exact bel_allocR (bel_allocR (Below.refl _ _) (Nat.le_refl _) _) (Nat.le_refl _) _) (Nat.le_refl _) hown hgrow hat
                clear hown hgrow hat
                refine hK.out _ _ (fun _ => SS.out _ QF.below) ?_
                clear hK K
                (try simp only [Act.put, List.setIfInBounds_toArray, List.set_cons_zero, List.set_cons_succ])
                refine until_one (i := 13) (by kernel_rfl) ?_
                refine comes (o := ({ dst := some 49, op := Op.call { callee := Callee.builtin Builtin.append, args := #[Operand.tmp 40, Operand.tmp 48], argTypes := #[30, 30] }, type := 30, pos := "ref.go:121", after := #[{ on := 4, ground := Ground.data }, { on := 12, ground := Ground.data }, { on := 4, ground := Ground.chain }], guard := none } : Oper)) rfl (fun K hK => ?_)
                refine step_append_row (by rfl) _ _ EL.out (by rfl) va oc xs (by rfl) QF.own (.slice (some ⟨Wd.heap.size + 1, 0, none⟩) 1 1) 1 (acells [⟨x0, x1, x2, x3, x4⟩]) (by rfl) (src_block (ys := acells [⟨x0, x1, x2, x3, x4⟩]) (QF.keep _ _ (by first | exact alloc_atR (by simp) | exact alloc_farR (alloc_atR (by simp))) (by simp [acells, acell])) rfl) (acells_onecell _) (by omega) ?_
                intro vb wb hown hgrow hat
                have QG := newR QF.ge QF.below (Nat.le_refl _) hown hgrow hat
                clear hown hgrow hat QF
                refine hK.out _ _ (fun _ => SS.out _ QG.below) ?_
                clear hK K
                (try simp only [Act.put, List.setIfInBounds_toArray, List.set_cons_zero, List.set_cons_succ])
                refine until_one (i := 17) (by kernel_rfl) ?_
                refine comes (o := ({ dst := some 53, op := Op.call { callee := Callee.builtin Builtin.append, args := #[Operand.tmp 49, Operand.tmp 52], argTypes := #[30, 30] }, type := 30, pos := "ref.go:121", after := #[{ on := 13, ground := Ground.data }, { on := 16, ground := Ground.data }, { on := 13, ground := Ground.chain }], guard := none } : Oper)) rfl (fun K hK => ?_)
                refine step_append_row (by rfl) _ _ EL.out (by rfl) vb (oc + 1) (xs ++ acells [⟨x0, x1, x2, x3, x4⟩]) (by rfl) QG.own (.slice (some ⟨g', 0, none⟩) 0 0) 0 ys (by rfl) (S2.out _ QG.below) ONE2.out (by omega) ?_
                intro vd wd hown hgrow hat
                have QH := newR QG.ge QG.below (Nat.le_refl _) hown hgrow hat
                have FIN := Hid.intro (FW.out wd vd QH)
                have GB := Hid.intro QH.below
                clear hown hgrow hat QG QH
                refine hK.out _ _ (fun _ => SS.out _ GB.out) ?_
                clear hK K
                (try simp only [Act.put, List.setIfInBounds_toArray, List.set_cons_zero, List.set_cons_succ])
                refine until_one (i := 18) (by kernel_rfl) ?_
                refine comes (o := ({ dst := some 3, op := Op.assign (Operand.tmp 53), type := 30, pos := "ref.go:121", after := #[{ on := 17, ground := Ground.data }, { on := 17, ground := Ground.chain }, { on := 0, ground := Ground.phase }, { on := 1, ground := Ground.phase }, { on := 2, ground := Ground.phase }, { on := 3, ground := Ground.phase }, { on := 4, ground := Ground.phase }, { on := 5, ground := Ground.phase }, { on := 6, ground := Ground.phase }, { on := 7, ground := Ground.phase }, { on := 8, ground := Ground.phase }, { on := 9, ground := Ground.phase }, { on := 10, ground := Ground.phase }, { on := 11, ground := Ground.phase }, { on := 12, ground := Ground.phase }, { on := 13, ground := Ground.phase }, { on := 14, ground := Ground.phase }, { on := 15, ground := Ground.phase }, { on := 16, ground := Ground.phase }, { on := 17, ground := Ground.phase }], guard := none } : Oper)) rfl (fun K hK => ?_)
                go_simp
                refine hK.out _ _ (fun q => absurd rfl q) ?_
                clear hK K
                (try simp only [Act.put, List.setIfInBounds_toArray, List.set_cons_zero, List.set_cons_succ])
                refine until_done (by kernel_rfl) ?_ _
                clear HS SS S1 S2 FW GB
                go_wp2
                go_roundw
                case rel =>
                  exact ⟨t + 1, by omega, by go_num, FIN.out⟩
                case measure => simp [intOf]; omega
            case bC2 =>
              refine comes (o := ({ dst := some 48, op := Op.buildSlice 30 1 #[(0, Operand.tmp 47)], type := 30, pos := "ref.go:121", after := #[{ on := 11, ground := Ground.data }], guard := none } : Oper)) rfl (fun K hK => ?_)
              go_simp
              refine hK.out _ _ (fun _ => SS.out _ (by first | exact Below.refl _ _ | exact bel_allocR (Below.refl _ _) (Nat.le_refl _) _ | exact bel_allocR (bel_allocR (Below.refl _ _) (Nat.le_refl _) _) (Nat.le_refl _) _)) ?_
              clear hK K
              (try simp only [Act.put, List.setIfInBounds_toArray, List.set_cons_zero, List.set_cons_succ])
              refine until_one (i := 0) (by kernel_rfl) ?_
              refine comes (o := ({ dst := some 36, op := Op.buildSlice 30 0 #[], type := 30, pos := "ref.go:121", after := #[], guard := none } : Oper)) rfl (fun K hK => ?_)
              go_simp
              refine hK.out _ _ (fun _ => SS.out _ (by first | exact Below.refl _ _ | exact bel_allocR (Below.refl _ _) (Nat.le_refl _) _ | exact bel_allocR (bel_allocR (Below.refl _ _) (Nat.le_refl _) _) (Nat.le_refl _) _)) ?_
              clear hK K
              (try simp only [Act.put, List.setIfInBounds_toArray, List.set_cons_zero, List.set_cons_succ])
              refine until_one (i := 4) (by kernel_rfl) ?_
              refine comes (o := ({ dst := some 40, op := Op.call { callee := Callee.builtin Builtin.append, args := #[Operand.tmp 36, Operand.tmp 39], argTypes := #[30, 30] }, type := 30, pos := "ref.go:121", after := #[{ on := 0, ground := Ground.data }, { on := 3, ground := Ground.data }], guard := none } : Oper)) rfl (fun K hK => ?_)
              refine step_append_row (by rfl) _ _ EL.out (by rfl) _ 0 [] (by rfl) (own_emptyR (by first | exact alloc_atR (by simp) | exact alloc_farR (alloc_atR (by simp)))) (.slice (some ⟨g', 0, none⟩) oc oc) oc xs (by rfl) (S1.out _ (by first | exact Below.refl _ _ | exact bel_allocR (Below.refl _ _) (Nat.le_refl _) _ | exact bel_allocR (bel_allocR (Below.refl _ _) (Nat.le_refl _) _) (Nat.le_refl _) _)) ONE.out (by omega) ?_
              intro va wa hown hgrow hat
              have QF := apF (H := Wd.heap.size) (w0 := Wd) (by first | exact alloc_atR (by simp) | exact alloc_farR (alloc_atR (by simp))) (by first | (dsimp only; omega) | (simp; done)) (by first | exact Below.refl _ _ | exact bel_allocR (Below.refl _ _) (Nat.le_refl _) _ | exact bel_allocR (bel_allocR (Below.refl _ _) (Nat.le_refl _) _) (Nat.le_refl _) _) (Nat.le_refl _) hown hgrow hat
              clear hown hgrow hat
              refine hK.out _ _ (fun _ => SS.out _ QF.below) ?_
              clear hK K
              (try simp only [Act.put, List.setIfInBounds_toArray, List.set_cons_zero, List.set_cons_succ])
              refine until_one (i := 13) (by kernel_rfl) ?_
              refine comes (o := ({ dst := some 49, op := Op.call { callee := Callee.builtin Builtin.append, args := #[Operand.tmp 40, Operand.tmp 48], argTypes := #[30, 30] }, type := 30, pos := "ref.go:121", after := #[{ on := 4, ground := Ground.data }, { on := 12, ground := Ground.data }, { on := 4, ground := Ground.chain }], guard := none } : Oper)) rfl (fun K hK => ?_)
              refine step_append_row (by rfl) _ _ EL.out (by rfl) va oc xs (by rfl) QF.own (.slice (some ⟨Wd.heap.size, 0, none⟩) 1 1) 1 (acells [⟨x0, x1, x2, x3, x4⟩]) (by rfl) (src_block (ys := acells [⟨x0, x1, x2, x3, x4⟩]) (QF.keep _ _ (by first | exact alloc_atR (by simp) | exact alloc_farR (alloc_atR (by simp))) (by simp [acells, acell])) rfl) (acells_onecell _) (by omega) ?_
              intro vb wb hown hgrow hat
              have QG := newR QF.ge QF.below (Nat.le_refl _) hown hgrow hat
              clear hown hgrow hat QF
              refine hK.out _ _ (fun _ => SS.out _ QG.below) ?_
              clear hK K
              (try simp only [Act.put, List.setIfInBounds_toArray, List.set_cons_zero, List.set_cons_succ])
              refine until_one (i := 17) (by kernel_rfl) ?_
              refine comes (o := ({ dst := some 53, op := Op.call { callee := Callee.builtin Builtin.append, args := #[Operand.tmp 49, Operand.tmp 52], argTypes := #[30, 30] }, type := 30, pos := "ref.go:121", after := #[{ on := 13, ground := Ground.data }, { on := 16, ground := Ground.data }, { on := 13, ground := Ground.chain }], guard := none } : Oper)) rfl (fun K hK => ?_)
              refine step_append_row (by rfl) _ _ EL.out (by rfl) vb (oc + 1) (xs ++ acells [⟨x0, x1, x2, x3, x4⟩]) (by rfl) QG.own (.slice (some ⟨g', 0, none⟩) 0 0) 0 ys (by rfl) (S2.out _ QG.below) ONE2.out (by omega) ?_
              intro vd wd hown hgrow hat
              have QH := newR QG.ge QG.below (Nat.le_refl _) hown hgrow hat
              have FIN := Hid.intro (FW.out wd vd QH)
              have GB := Hid.intro QH.below
              clear hown hgrow hat QG QH
              refine hK.out _ _ (fun _ => SS.out _ GB.out) ?_
              clear hK K
              (try simp only [Act.put, List.setIfInBounds_toArray, List.set_cons_zero, List.set_cons_succ])
              refine until_one (i := 18) (by kernel_rfl) ?_
              refine comes (o := ({ dst := some 3, op := Op.assign (Operand.tmp 53), type := 30, pos := "ref.go:121", after := #[{ on := 17, ground := Ground.data }, { on := 17, ground := Ground.chain }, { on := 0, ground := Ground.phase }, { on := 1, ground := Ground.phase }, { on := 2, ground := Ground.phase }, { on := 3, ground := Ground.phase }, { on := 4, ground := Ground.phase }, { on := 5, ground := Ground.phase }, { on := 6, ground := Ground.phase }, { on := 7, ground := Ground.phase }, { on := 8, ground := Ground.phase }, { on := 9, ground := Ground.phase }, { on := 10, ground := Ground.phase }, { on := 11, ground := Ground.phase }, { on := 12, ground := Ground.phase }, { on := 13, ground := Ground.phase }, { on := 14, ground := Ground.phase }, { on := 15, ground := Ground.phase }, { on := 16, ground := Ground.phase }, { on := 17, ground := Ground.phase }], guard := none } : Oper)) rfl (fun K hK => ?_)
              go_simp
              refine hK.out _ _ (fun q => absurd rfl q) ?_
              clear hK K
              (try simp only [Act.put, List.setIfInBounds_toArray, List.set_cons_zero, List.set_cons_succ])
              refine until_done (by kernel_rfl) ?_ _
              clear HS SS S1 S2 FW GB
              go_wp2
              go_roundw
              case rel =>
                exact ⟨t + 1, by omega, by go_num, FIN.out⟩
              case measure => simp [intOf]; omega
          · have SB : Hid (∀ X, Below wc.heap.size wc X → SrcV X 5 (.slice (some ⟨g', k * 5, none⟩) (t - k) (oc - k)) (t - k) (acells (M.drop k))) := fun X hX => by
              have q := src_part16 (L := M) (o := k) (m := t - k) (c' := oc - k) (ON.out X hX) (by omega)
              rw [List.take_of_length_le (by rw [List.length_drop]; omega)] at q
              exact q
            generalize acells (M.take k) = xs at *
            generalize acells (M.drop k) = ys at *
            clear NX RH ML MLT HM HO ON CAP HOZ BH hx hP
            -- B
            have HS0 := KK.out wc.drew (Below.refl _ wc).drew
            go_wp2_with fail
            refine until_start (S := (fun W => W.cell? ⟨b, 0, none⟩ = some (.slice (some ⟨g, 0, none⟩) n c) ∧ W.cell? ⟨g, t * 5, none⟩ = some (.int .i64 x0) ∧ W.cell? ⟨g, t * 5 + 1, none⟩ = some (.int .i64 x1) ∧ W.cell? ⟨g, t * 5 + 2, none⟩ = some (.int .i64 x2) ∧ W.cell? ⟨g, t * 5 + 3, none⟩ = some (.bool x3) ∧ W.cell? ⟨g, t * 5 + 4, none⟩ = some (.bool x4))) (z := 18) (by kernel_rfl) ?_
            have BW : Hid (Below wc.heap.size wc wc.drew) := (Below.refl _ wc).drew
            generalize wc.drew = Wd at *
            have HS : (fun W => W.cell? ⟨b, 0, none⟩ = some (.slice (some ⟨g, 0, none⟩) n c) ∧ W.cell? ⟨g, t * 5, none⟩ = some (.int .i64 x0) ∧ W.cell? ⟨g, t * 5 + 1, none⟩ = some (.int .i64 x1) ∧ W.cell? ⟨g, t * 5 + 2, none⟩ = some (.int .i64 x2) ∧ W.cell? ⟨g, t * 5 + 3, none⟩ = some (.bool x3) ∧ W.cell? ⟨g, t * 5 + 4, none⟩ = some (.bool x4)) Wd := HS0
            have SS : Hid (∀ X, Below Wd.heap.size Wd X → (fun W => W.cell? ⟨b, 0, none⟩ = some (.slice (some ⟨g, 0, none⟩) n c) ∧ W.cell? ⟨g, t * 5, none⟩ = some (.int .i64 x0) ∧ W.cell? ⟨g, t * 5 + 1, none⟩ = some (.int .i64 x1) ∧ W.cell? ⟨g, t * 5 + 2, none⟩ = some (.int .i64 x2) ∧ W.cell? ⟨g, t * 5 + 3, none⟩ = some (.bool x3) ∧ W.cell? ⟨g, t * 5 + 4, none⟩ = some (.bool x4)) X) := fun X hX => KK.out X (BW.out.trans (hX.mono BW.out.size))
            have S1 := Hid.intro (fun X (hX : Below Wd.heap.size Wd X) => SA.out X (BW.out.trans (hX.mono BW.out.size)))
            have S2 := Hid.intro (fun X (hX : Below Wd.heap.size Wd X) => SB.out X (BW.out.trans (hX.mono BW.out.size)))
            have FW := Hid.intro (fun wd vd hN => FN.out Wd BW.out wd vd hN)
            clear HS0 KK SA SB FN
            refine until_take (i := 1) (oi := ({ dst := some 37, op := Op.move (Operand.tmp 3), type := 30, pos := "ref.go:121", after := #[], guard := none } : Oper)) (oz := ({ dst := some 3, op := Op.assign (Operand.tmp 53), type := 30, pos := "ref.go:121", after := #[{ on := 17, ground := Ground.data }, { on := 17, ground := Ground.chain }, { on := 0, ground := Ground.phase }, { on := 1, ground := Ground.phase }, { on := 2, ground := Ground.phase }, { on := 3, ground := Ground.phase }, { on := 4, ground := Ground.phase }, { on := 5, ground := Ground.phase }, { on := 6, ground := Ground.phase }, { on := 7, ground := Ground.phase }, { on := 8, ground := Ground.phase }, { on := 9, ground := Ground.phase }, { on := 10, ground := Ground.phase }, { on := 11, ground := Ground.phase }, { on := 12, ground := Ground.phase }, { on := 13, ground := Ground.phase }, { on := 14, ground := Ground.phase }, { on := 15, ground := Ground.phase }, { on := 16, ground := Ground.phase }, { on := 17, ground := Ground.phase }], guard := none } : Oper)) (v := ?vB1) rfl rfl (by kernel_rfl) (by kernel_rfl) (fun _ _ _ h => h) (Region.free_spec rfl (by kernel_rfl)) (of_containsA (by kernel_rfl)) (Or.inl ⟨by rfl, ?yB1⟩) HS ?rB1
            case yB1 => (intro w hSw; (try dsimp only at hSw); go_simp; first | done | with_reducible rfl)
            (try simp only [Act.put, List.setIfInBounds_toArray, List.set_cons_zero, List.set_cons_succ])
            refine until_take (i := 2) (oi := ({ dst := some 38, op := Op.move (Operand.tmp 5), type := 3, pos := "ref.go:121", after := #[], guard := none } : Oper)) (oz := ({ dst := some 3, op := Op.assign (Operand.tmp 53), type := 30, pos := "ref.go:121", after := #[{ on := 17, ground := Ground.data }, { on := 17, ground := Ground.chain }, { on := 0, ground := Ground.phase }, { on := 1, ground := Ground.phase }, { on := 2, ground := Ground.phase }, { on := 3, ground := Ground.phase }, { on := 4, ground := Ground.phase }, { on := 5, ground := Ground.phase }, { on := 6, ground := Ground.phase }, { on := 7, ground := Ground.phase }, { on := 8, ground := Ground.phase }, { on := 9, ground := Ground.phase }, { on := 10, ground := Ground.phase }, { on := 11, ground := Ground.phase }, { on := 12, ground := Ground.phase }, { on := 13, ground := Ground.phase }, { on := 14, ground := Ground.phase }, { on := 15, ground := Ground.phase }, { on := 16, ground := Ground.phase }, { on := 17, ground := Ground.phase }], guard := none } : Oper)) (v := ?vB2) rfl rfl (by kernel_rfl) (by kernel_rfl) (fun _ _ _ h => h) (Region.free_spec rfl (by kernel_rfl)) (of_containsA (by kernel_rfl)) (Or.inl ⟨by rfl, ?yB2⟩) HS ?rB2
            case yB2 => (intro w hSw; (try dsimp only at hSw); go_simp; first | done | with_reducible rfl)
            (try simp only [Act.put, List.setIfInBounds_toArray, List.set_cons_zero, List.set_cons_succ])
            refine until_take (i := 3) (oi := ({ dst := some 39, op := Op.slice 30 (Operand.tmp 37) none (some (Operand.tmp 38)) none, type := 30, pos := "ref.go:121", after := #[{ on := 1, ground := Ground.data }, { on := 2, ground := Ground.data }], guard := none } : Oper)) (oz := ({ dst := some 3, op := Op.assign (Operand.tmp 53), type := 30, pos := "ref.go:121", after := #[{ on := 17, ground := Ground.data }, { on := 17, ground := Ground.chain }, { on := 0, ground := Ground.phase }, { on := 1, ground := Ground.phase }, { on := 2, ground := Ground.phase }, { on := 3, ground := Ground.phase }, { on := 4, ground := Ground.phase }, { on := 5, ground := Ground.phase }, { on := 6, ground := Ground.phase }, { on := 7, ground := Ground.phase }, { on := 8, ground := Ground.phase }, { on := 9, ground := Ground.phase }, { on := 10, ground := Ground.phase }, { on := 11, ground := Ground.phase }, { on := 12, ground := Ground.phase }, { on := 13, ground := Ground.phase }, { on := 14, ground := Ground.phase }, { on := 15, ground := Ground.phase }, { on := 16, ground := Ground.phase }, { on := 17, ground := Ground.phase }], guard := none } : Oper)) (v := ?vB3) rfl rfl (by kernel_rfl) (by kernel_rfl) (fun _ _ _ h => h) (Region.free_spec rfl (by kernel_rfl)) (of_containsA (by kernel_rfl)) (Or.inl ⟨by rfl, ?yB3⟩) HS ?rB3
            case yB3 => (intro w hSw; (try dsimp only at hSw); go_simp; first | done | with_reducible rfl)
            (try simp only [Act.put, List.setIfInBounds_toArray, List.set_cons_zero, List.set_cons_succ])
            refine until_take (i := 5) (oi := ({ dst := some 41, op := Op.move (Operand.tmp 0), type := 58, pos := "ref.go:121", after := #[], guard := none } : Oper)) (oz := ({ dst := some 3, op := Op.assign (Operand.tmp 53), type := 30, pos := "ref.go:121", after := #[{ on := 17, ground := Ground.data }, { on := 17, ground := Ground.chain }, { on := 0, ground := Ground.phase }, { on := 1, ground := Ground.phase }, { on := 2, ground := Ground.phase }, { on := 3, ground := Ground.phase }, { on := 4, ground := Ground.phase }, { on := 5, ground := Ground.phase }, { on := 6, ground := Ground.phase }, { on := 7, ground := Ground.phase }, { on := 8, ground := Ground.phase }, { on := 9, ground := Ground.phase }, { on := 10, ground := Ground.phase }, { on := 11, ground := Ground.phase }, { on := 12, ground := Ground.phase }, { on := 13, ground := Ground.phase }, { on := 14, ground := Ground.phase }, { on := 15, ground := Ground.phase }, { on := 16, ground := Ground.phase }, { on := 17, ground := Ground.phase }], guard := none } : Oper)) (v := ?vB5) rfl rfl (by kernel_rfl) (by kernel_rfl) (fun _ _ _ h => h) (Region.free_spec rfl (by kernel_rfl)) (of_containsA (by kernel_rfl)) (Or.inl ⟨by rfl, ?yB5⟩) HS ?rB5
            case yB5 => (intro w hSw; (try dsimp only at hSw); go_simp; first | done | with_reducible rfl)
            (try simp only [Act.put, List.setIfInBounds_toArray, List.set_cons_zero, List.set_cons_succ])
            refine until_take (i := 6) (oi := ({ dst := some 42, op := Op.nilCheck (Operand.tmp 41), type := 0, pos := "ref.go:121", after := #[{ on := 5, ground := Ground.data }], guard := none } : Oper)) (oz := ({ dst := some 3, op := Op.assign (Operand.tmp 53), type := 30, pos := "ref.go:121", after := #[{ on := 17, ground := Ground.data }, { on := 17, ground := Ground.chain }, { on := 0, ground := Ground.phase }, { on := 1, ground := Ground.phase }, { on := 2, ground := Ground.phase }, { on := 3, ground := Ground.phase }, { on := 4, ground := Ground.phase }, { on := 5, ground := Ground.phase }, { on := 6, ground := Ground.phase }, { on := 7, ground := Ground.phase }, { on := 8, ground := Ground.phase }, { on := 9, ground := Ground.phase }, { on := 10, ground := Ground.phase }, { on := 11, ground := Ground.phase }, { on := 12, ground := Ground.phase }, { on := 13, ground := Ground.phase }, { on := 14, ground := Ground.phase }, { on := 15, ground := Ground.phase }, { on := 16, ground := Ground.phase }, { on := 17, ground := Ground.phase }], guard := none } : Oper)) (v := ?vB6) rfl rfl (by kernel_rfl) (by kernel_rfl) (fun _ _ _ h => h) (Region.free_spec rfl (by kernel_rfl)) (of_containsA (by kernel_rfl)) (Or.inl ⟨by rfl, ?yB6⟩) HS ?rB6
            case yB6 => (intro w hSw; (try dsimp only at hSw); go_simp; first | done | with_reducible rfl)
            (try simp only [Act.put, List.setIfInBounds_toArray, List.set_cons_zero, List.set_cons_succ])
            refine until_take (i := 7) (oi := ({ dst := some 43, op := Op.fieldAddr 34 (Operand.tmp 42) 0, type := 0, pos := "ref.go:121", after := #[{ on := 6, ground := Ground.data }], guard := none } : Oper)) (oz := ({ dst := some 3, op := Op.assign (Operand.tmp 53), type := 30, pos := "ref.go:121", after := #[{ on := 17, ground := Ground.data }, { on := 17, ground := Ground.chain }, { on := 0, ground := Ground.phase }, { on := 1, ground := Ground.phase }, { on := 2, ground := Ground.phase }, { on := 3, ground := Ground.phase }, { on := 4, ground := Ground.phase }, { on := 5, ground := Ground.phase }, { on := 6, ground := Ground.phase }, { on := 7, ground := Ground.phase }, { on := 8, ground := Ground.phase }, { on := 9, ground := Ground.phase }, { on := 10, ground := Ground.phase }, { on := 11, ground := Ground.phase }, { on := 12, ground := Ground.phase }, { on := 13, ground := Ground.phase }, { on := 14, ground := Ground.phase }, { on := 15, ground := Ground.phase }, { on := 16, ground := Ground.phase }, { on := 17, ground := Ground.phase }], guard := none } : Oper)) (v := ?vB7) rfl rfl (by kernel_rfl) (by kernel_rfl) (fun _ _ _ h => h) (Region.free_spec rfl (by kernel_rfl)) (of_containsA (by kernel_rfl)) (Or.inl ⟨by rfl, ?yB7⟩) HS ?rB7
            case yB7 => (intro w hSw; (try dsimp only at hSw); go_simp; first | done | with_reducible rfl)
            (try simp only [Act.put, List.setIfInBounds_toArray, List.set_cons_zero, List.set_cons_succ])
            refine until_take (i := 8) (oi := ({ dst := some 44, op := Op.load 30 (Operand.tmp 43), type := 30, pos := "ref.go:121", after := #[{ on := 7, ground := Ground.data }], guard := none } : Oper)) (oz := ({ dst := some 3, op := Op.assign (Operand.tmp 53), type := 30, pos := "ref.go:121", after := #[{ on := 17, ground := Ground.data }, { on := 17, ground := Ground.chain }, { on := 0, ground := Ground.phase }, { on := 1, ground := Ground.phase }, { on := 2, ground := Ground.phase }, { on := 3, ground := Ground.phase }, { on := 4, ground := Ground.phase }, { on := 5, ground := Ground.phase }, { on := 6, ground := Ground.phase }, { on := 7, ground := Ground.phase }, { on := 8, ground := Ground.phase }, { on := 9, ground := Ground.phase }, { on := 10, ground := Ground.phase }, { on := 11, ground := Ground.phase }, { on := 12, ground := Ground.phase }, { on := 13, ground := Ground.phase }, { on := 14, ground := Ground.phase }, { on := 15, ground := Ground.phase }, { on := 16, ground := Ground.phase }, { on := 17, ground := Ground.phase }], guard := none } : Oper)) (v := ?vB8) rfl rfl (by kernel_rfl) (by kernel_rfl) (fun _ _ _ h => h) (Region.free_spec rfl (by kernel_rfl)) (of_containsA (by kernel_rfl)) (Or.inl ⟨by rfl, ?yB8⟩) HS ?rB8
            case yB8 => (intro w hSw; (try dsimp only at hSw); go_simp; first | done | with_reducible rfl)
            (try simp only [Act.put, List.setIfInBounds_toArray, List.set_cons_zero, List.set_cons_succ])
            refine until_take (i := 9) (oi := ({ dst := some 45, op := Op.move (Operand.tmp 4), type := 3, pos := "ref.go:121", after := #[], guard := none } : Oper)) (oz := ({ dst := some 3, op := Op.assign (Operand.tmp 53), type := 30, pos := "ref.go:121", after := #[{ on := 17, ground := Ground.data }, { on := 17, ground := Ground.chain }, { on := 0, ground := Ground.phase }, { on := 1, ground := Ground.phase }, { on := 2, ground := Ground.phase }, { on := 3, ground := Ground.phase }, { on := 4, ground := Ground.phase }, { on := 5, ground := Ground.phase }, { on := 6, ground := Ground.phase }, { on := 7, ground := Ground.phase }, { on := 8, ground := Ground.phase }, { on := 9, ground := Ground.phase }, { on := 10, ground := Ground.phase }, { on := 11, ground := Ground.phase }, { on := 12, ground := Ground.phase }, { on := 13, ground := Ground.phase }, { on := 14, ground := Ground.phase }, { on := 15, ground := Ground.phase }, { on := 16, ground := Ground.phase }, { on := 17, ground := Ground.phase }], guard := none } : Oper)) (v := ?vB9) rfl rfl (by kernel_rfl) (by kernel_rfl) (fun _ _ _ h => h) (Region.free_spec rfl (by kernel_rfl)) (of_containsA (by kernel_rfl)) (Or.inl ⟨by rfl, ?yB9⟩) HS ?rB9
            case yB9 => (intro w hSw; (try dsimp only at hSw); go_simp; first | done | with_reducible rfl)
            (try simp only [Act.put, List.setIfInBounds_toArray, List.set_cons_zero, List.set_cons_succ])
            refine until_take (i := 10) (oi := ({ dst := some 46, op := Op.indexAddr 30 (Operand.tmp 44) (Operand.tmp 45), type := 0, pos := "ref.go:121", after := #[{ on := 8, ground := Ground.data }, { on := 9, ground := Ground.data }], guard := none } : Oper)) (oz := ({ dst := some 3, op := Op.assign (Operand.tmp 53), type := 30, pos := "ref.go:121", after := #[{ on := 17, ground := Ground.data }, { on := 17, ground := Ground.chain }, { on := 0, ground := Ground.phase }, { on := 1, ground := Ground.phase }, { on := 2, ground := Ground.phase }, { on := 3, ground := Ground.phase }, { on := 4, ground := Ground.phase }, { on := 5, ground := Ground.phase }, { on := 6, ground := Ground.phase }, { on := 7, ground := Ground.phase }, { on := 8, ground := Ground.phase }, { on := 9, ground := Ground.phase }, { on := 10, ground := Ground.phase }, { on := 11, ground := Ground.phase }, { on := 12, ground := Ground.phase }, { on := 13, ground := Ground.phase }, { on := 14, ground := Ground.phase }, { on := 15, ground := Ground.phase }, { on := 16, ground := Ground.phase }, { on := 17, ground := Ground.phase }], guard := none } : Oper)) (v := ?vB10) rfl rfl (by kernel_rfl) (by kernel_rfl) (fun _ _ _ h => h) (Region.free_spec rfl (by kernel_rfl)) (of_containsA (by kernel_rfl)) (Or.inl ⟨by rfl, ?yB10⟩) HS ?rB10
            case yB10 => (intro w hSw; (try dsimp only at hSw); go_simp; first | done | with_reducible rfl)
            (try simp only [Act.put, List.setIfInBounds_toArray, List.set_cons_zero, List.set_cons_succ])
            refine until_take (i := 11) (oi := ({ dst := some 47, op := Op.load 42 (Operand.tmp 46), type := 42, pos := "ref.go:121", after := #[{ on := 10, ground := Ground.data }], guard := none } : Oper)) (oz := ({ dst := some 3, op := Op.assign (Operand.tmp 53), type := 30, pos := "ref.go:121", after := #[{ on := 17, ground := Ground.data }, { on := 17, ground := Ground.chain }, { on := 0, ground := Ground.phase }, { on := 1, ground := Ground.phase }, { on := 2, ground := Ground.phase }, { on := 3, ground := Ground.phase }, { on := 4, ground := Ground.phase }, { on := 5, ground := Ground.phase }, { on := 6, ground := Ground.phase }, { on := 7, ground := Ground.phase }, { on := 8, ground := Ground.phase }, { on := 9, ground := Ground.phase }, { on := 10, ground := Ground.phase }, { on := 11, ground := Ground.phase }, { on := 12, ground := Ground.phase }, { on := 13, ground := Ground.phase }, { on := 14, ground := Ground.phase }, { on := 15, ground := Ground.phase }, { on := 16, ground := Ground.phase }, { on := 17, ground := Ground.phase }], guard := none } : Oper)) (v := ?vB11) rfl rfl (by kernel_rfl) (by kernel_rfl) (fun _ _ _ h => h) (Region.free_spec rfl (by kernel_rfl)) (of_containsA (by kernel_rfl)) (Or.inl ⟨by rfl, ?yB11⟩) HS ?rB11
            case yB11 => (intro w hSw; (try dsimp only at hSw); go_simp; first | done | with_reducible rfl)
            (try simp only [Act.put, List.setIfInBounds_toArray, List.set_cons_zero, List.set_cons_succ])
            refine until_take (i := 14) (oi := ({ dst := some 50, op := Op.move (Operand.tmp 3), type := 30, pos := "ref.go:121", after := #[], guard := none } : Oper)) (oz := ({ dst := some 3, op := Op.assign (Operand.tmp 53), type := 30, pos := "ref.go:121", after := #[{ on := 17, ground := Ground.data }, { on := 17, ground := Ground.chain }, { on := 0, ground := Ground.phase }, { on := 1, ground := Ground.phase }, { on := 2, ground := Ground.phase }, { on := 3, ground := Ground.phase }, { on := 4, ground := Ground.phase }, { on := 5, ground := Ground.phase }, { on := 6, ground := Ground.phase }, { on := 7, ground := Ground.phase }, { on := 8, ground := Ground.phase }, { on := 9, ground := Ground.phase }, { on := 10, ground := Ground.phase }, { on := 11, ground := Ground.phase }, { on := 12, ground := Ground.phase }, { on := 13, ground := Ground.phase }, { on := 14, ground := Ground.phase }, { on := 15, ground := Ground.phase }, { on := 16, ground := Ground.phase }, { on := 17, ground := Ground.phase }], guard := none } : Oper)) (v := ?vB14) rfl rfl (by kernel_rfl) (by kernel_rfl) (fun _ _ _ h => h) (Region.free_spec rfl (by kernel_rfl)) (of_containsA (by kernel_rfl)) (Or.inl ⟨by rfl, ?yB14⟩) HS ?rB14
            case yB14 => (intro w hSw; (try dsimp only at hSw); go_simp; first | done | with_reducible rfl)
            (try simp only [Act.put, List.setIfInBounds_toArray, List.set_cons_zero, List.set_cons_succ])
            refine until_take (i := 15) (oi := ({ dst := some 51, op := Op.move (Operand.tmp 5), type := 3, pos := "ref.go:121", after := #[], guard := none } : Oper)) (oz := ({ dst := some 3, op := Op.assign (Operand.tmp 53), type := 30, pos := "ref.go:121", after := #[{ on := 17, ground := Ground.data }, { on := 17, ground := Ground.chain }, { on := 0, ground := Ground.phase }, { on := 1, ground := Ground.phase }, { on := 2, ground := Ground.phase }, { on := 3, ground := Ground.phase }, { on := 4, ground := Ground.phase }, { on := 5, ground := Ground.phase }, { on := 6, ground := Ground.phase }, { on := 7, ground := Ground.phase }, { on := 8, ground := Ground.phase }, { on := 9, ground := Ground.phase }, { on := 10, ground := Ground.phase }, { on := 11, ground := Ground.phase }, { on := 12, ground := Ground.phase }, { on := 13, ground := Ground.phase }, { on := 14, ground := Ground.phase }, { on := 15, ground := Ground.phase }, { on := 16, ground := Ground.phase }, { on := 17, ground := Ground.phase }], guard := none } : Oper)) (v := ?vB15) rfl rfl (by kernel_rfl) (by kernel_rfl) (fun _ _ _ h => h) (Region.free_spec rfl (by kernel_rfl)) (of_containsA (by kernel_rfl)) (Or.inl ⟨by rfl, ?yB15⟩) HS ?rB15
            case yB15 => (intro w hSw; (try dsimp only at hSw); go_simp; first | done | with_reducible rfl)
            (try simp only [Act.put, List.setIfInBounds_toArray, List.set_cons_zero, List.set_cons_succ])
            refine until_take (i := 16) (oi := ({ dst := some 52, op := Op.slice 30 (Operand.tmp 50) (some (Operand.tmp 51)) none none, type := 30, pos := "ref.go:121", after := #[{ on := 14, ground := Ground.data }, { on := 15, ground := Ground.data }], guard := none } : Oper)) (oz := ({ dst := some 3, op := Op.assign (Operand.tmp 53), type := 30, pos := "ref.go:121", after := #[{ on := 17, ground := Ground.data }, { on := 17, ground := Ground.chain }, { on := 0, ground := Ground.phase }, { on := 1, ground := Ground.phase }, { on := 2, ground := Ground.phase }, { on := 3, ground := Ground.phase }, { on := 4, ground := Ground.phase }, { on := 5, ground := Ground.phase }, { on := 6, ground := Ground.phase }, { on := 7, ground := Ground.phase }, { on := 8, ground := Ground.phase }, { on := 9, ground := Ground.phase }, { on := 10, ground := Ground.phase }, { on := 11, ground := Ground.phase }, { on := 12, ground := Ground.phase }, { on := 13, ground := Ground.phase }, { on := 14, ground := Ground.phase }, { on := 15, ground := Ground.phase }, { on := 16, ground := Ground.phase }, { on := 17, ground := Ground.phase }], guard := none } : Oper)) (v := ?vB16) rfl rfl (by kernel_rfl) (by kernel_rfl) (fun _ _ _ h => h) (Region.free_spec rfl (by kernel_rfl)) (of_containsA (by kernel_rfl)) (Or.inl ⟨by rfl, ?yB16⟩) HS ?rB16
            case yB16 => (intro w hSw; (try dsimp only at hSw); go_simp; first | done | with_reducible rfl)
            (try simp only [Act.put, List.setIfInBounds_toArray, List.set_cons_zero, List.set_cons_succ])
            refine until_two (i := 0) (k := 12) (by kernel_rfl) ?bB1 ?bB2
            case bB1 =>
              refine comes (o := ({ dst := some 36, op := Op.buildSlice 30 0 #[], type := 30, pos := "ref.go:121", after := #[], guard := none } : Oper)) rfl (fun K hK => ?_)
              go_simp
              refine hK.out _ _ (fun _ => SS.out _ (by first | exact Below.refl _ _ | exact bel_allocR (Below.refl _ _) (Nat.le_refl _) _ | exact bel_allocR (bel_allocR (Below.refl _ _) (Nat.le_refl _) _) (Nat.le_refl _) _)) ?_
              clear hK K
              (try simp only [Act.put, List.setIfInBounds_toArray, List.set_cons_zero, List.set_cons_succ])
              refine until_two (i := 4) (k := 12) (by kernel_rfl) ?bB3 ?bB4
              case bB3 =>
                refine comes (o := ({ dst := some 40, op := Op.call { callee := Callee.builtin Builtin.append, args := #[Operand.tmp 36, Operand.tmp 39], argTypes := #[30, 30] }, type := 30, pos := "ref.go:121", after := #[{ on := 0, ground := Ground.data }, { on := 3, ground := Ground.data }], guard := none } : Oper)) rfl (fun K hK => ?_)
                refine step_append_row (by rfl) _ _ EL.out (by rfl) _ 0 [] (by rfl) (own_emptyR (by first | exact alloc_atR (by simp) | exact alloc_farR (alloc_atR (by simp)))) (.slice (some ⟨g', 0, none⟩) k oc) k xs (by rfl) (S1.out _ (by first | exact Below.refl _ _ | exact bel_allocR (Below.refl _ _) (Nat.le_refl _) _ | exact bel_allocR (bel_allocR (Below.refl _ _) (Nat.le_refl _) _) (Nat.le_refl _) _)) ONE.out (by omega) ?_
                intro va wa hown hgrow hat
                have QF := apF (H := Wd.heap.size) (w0 := Wd) (by first | exact alloc_atR (by simp) | exact alloc_farR (alloc_atR (by simp))) (by first | (dsimp only; omega) | (simp; done)) (by first | exact Below.refl _ _ | exact bel_allocR (Below.refl _ _) (Nat.le_refl _) _ | exact bel_allocR (bel_allocR (Below.refl _ _) (Nat.le_refl _) _) (Nat.le_refl _) _) (Nat.le_refl _) hown hgrow hat
                clear hown hgrow hat
                refine hK.out _ _ (fun _ => SS.out _ QF.below) ?_
                clear hK K
                (try simp only [Act.put, List.setIfInBounds_toArray, List.set_cons_zero, List.set_cons_succ])
                refine until_one (i := 12) (by kernel_rfl) ?_
                refine comes (o := ({ dst := some 48, op := Op.buildSlice 30 1 #[(0, Operand.tmp 47)], type := 30, pos := "ref.go:121", after := #[{ on := 11, ground := Ground.data }], guard := none } : Oper)) rfl (fun K hK => ?_)
                go_simp
                refine hK.out _ _ (fun _ => SS.out _ (bel_allocR QF.below (Nat.le_refl _) _)) ?_
                clear hK K
                (try simp only [Act.put, List.setIfInBounds_toArray, List.set_cons_zero, List.set_cons_succ])
                refine until_one (i := 13) (by kernel_rfl) ?_
                refine comes (o := ({ dst := some 49, op := Op.call { callee := Callee.builtin Builtin.append, args := #[Operand.tmp 40, Operand.tmp 48], argTypes := #[30, 30] }, type := 30, pos := "ref.go:121", after := #[{ on := 4, ground := Ground.data }, { on := 12, ground := Ground.data }, { on := 4, ground := Ground.chain }], guard := none } : Oper)) rfl (fun K hK => ?_)
                refine step_append_row (by rfl) _ _ EL.out (by rfl) va k xs (by rfl) (ownsRow_keep QF.own (fun k hk => alloc_keepR (World.ownsRow.lt QF.own k hk).2)) (.slice (some ⟨wa.heap.size, 0, none⟩) 1 1) 1 (acells [⟨x0, x1, x2, x3, x4⟩]) (by rfl) (src_block (ys := acells [⟨x0, x1, x2, x3, x4⟩]) (alloc_atR rfl) rfl) (acells_onecell _) (by omega) ?_
                intro vb wb hown hgrow hat
                have QG := newR QF.ge (bel_allocR QF.below (Nat.le_refl _) _) (Nat.le_refl _) hown hgrow hat
                clear hown hgrow hat QF
                refine hK.out _ _ (fun _ => SS.out _ QG.below) ?_
                clear hK K
                (try simp only [Act.put, List.setIfInBounds_toArray, List.set_cons_zero, List.set_cons_succ])
                refine until_one (i := 17) (by kernel_rfl) ?_
                refine comes (o := ({ dst := some 53, op := Op.call { callee := Callee.builtin Builtin.append, args := #[Operand.tmp 49, Operand.tmp 52], argTypes := #[30, 30] }, type := 30, pos := "ref.go:121", after := #[{ on := 13, ground := Ground.data }, { on := 16, ground := Ground.data }, { on := 13, ground := Ground.chain }], guard := none } : Oper)) rfl (fun K hK => ?_)
                refine step_append_row (by rfl) _ _ EL.out (by rfl) vb (k + 1) (xs ++ acells [⟨x0, x1, x2, x3, x4⟩]) (by rfl) QG.own (.slice (some ⟨g', k * 5, none⟩) (t - k) (oc - k)) (t - k) ys (by rfl) (S2.out _ QG.below) ONE2.out (by omega) ?_
                intro vd wd hown hgrow hat
                have QH := newR QG.ge QG.below (Nat.le_refl _) hown hgrow hat
                have FIN := Hid.intro (FW.out wd vd QH)
                have GB := Hid.intro QH.below
                clear hown hgrow hat QG QH
                refine hK.out _ _ (fun _ => SS.out _ GB.out) ?_
                clear hK K
                (try simp only [Act.put, List.setIfInBounds_toArray, List.set_cons_zero, List.set_cons_succ])
                refine until_one (i := 18) (by kernel_rfl) ?_
                refine comes (o := ({ dst := some 3, op := Op.assign (Operand.tmp 53), type := 30, pos := "ref.go:121", after := #[{ on := 17, ground := Ground.data }, { on := 17, ground := Ground.chain }, { on := 0, ground := Ground.phase }, { on := 1, ground := Ground.phase }, { on := 2, ground := Ground.phase }, { on := 3, ground := Ground.phase }, { on := 4, ground := Ground.phase }, { on := 5, ground := Ground.phase }, { on := 6, ground := Ground.phase }, { on := 7, ground := Ground.phase }, { on := 8, ground := Ground.phase }, { on := 9, ground := Ground.phase }, { on := 10, ground := Ground.phase }, { on := 11, ground := Ground.phase }, { on := 12, ground := Ground.phase }, { on := 13, ground := Ground.phase }, { on := 14, ground := Ground.phase }, { on := 15, ground := Ground.phase }, { on := 16, ground := Ground.phase }, { on := 17, ground := Ground.phase }], guard := none } : Oper)) rfl (fun K hK => ?_)
                go_simp
                refine hK.out _ _ (fun q => absurd rfl q) ?_
                clear hK K
                (try simp only [Act.put, List.setIfInBounds_toArray, List.set_cons_zero, List.set_cons_succ])
                refine until_done (by kernel_rfl) ?_ _
                clear HS SS S1 S2 FW GB
                go_wp2
                go_roundw
                case rel =>
                  exact ⟨t + 1, by omega, by go_num, FIN.out⟩
                case measure => simp [intOf]; omega
              case bB4 =>
                refine comes (o := ({ dst := some 48, op := Op.buildSlice 30 1 #[(0, Operand.tmp 47)], type := 30, pos := "ref.go:121", after := #[{ on := 11, ground := Ground.data }], guard := none } : Oper)) rfl (fun K hK => ?_)
                go_simp
                refine hK.out _ _ (fun _ => SS.out _ (by first | exact Below.refl _ _ | exact bel_allocR (Below.refl _ _) (Nat.le_refl _) _ | exact bel_allocR (bel_allocR (Below.refl _ _) (Nat.le_refl _) _) (Nat.le_refl _) _)) ?_
                clear hK K
                (try simp only [Act.put, List.setIfInBounds_toArray, List.set_cons_zero, List.set_cons_succ])
                refine until_one (i := 4) (by kernel_rfl) ?_
                refine comes (o := ({ dst := some 40, op := Op.call { callee := Callee.builtin Builtin.append, args := #[Operand.tmp 36, Operand.tmp 39], argTypes := #[30, 30] }, type := 30, pos := "ref.go:121", after := #[{ on := 0, ground := Ground.data }, { on := 3, ground := Ground.data }], guard := none } : Oper)) rfl (fun K hK => ?_)
                refine step_append_row (by rfl) _ _ EL.out (by rfl) _ 0 [] (by rfl) (own_emptyR (by first | exact alloc_atR (by simp) | exact alloc_farR (alloc_atR (by simp)))) (.slice (some ⟨g', 0, none⟩) k oc) k xs (by rfl) (S1.out _ (by first | exact Below.refl _ _ | exact bel_allocR (Below.refl _ _) (Nat.le_refl _) _ | exact bel_allocR (bel_allocR (Below.refl _ _) (Nat.le_refl _) _) (Nat.le_refl _) _)) ONE.out (by omega) ?_
                intro va wa hown hgrow hat
                have QF := apF (H := Wd.heap.size) (w0 := Wd) (by first | exact alloc_atR (by simp) | exact alloc_farR (alloc_atR (by simp))) (by first | (dsimp only; omega) | (simp; done)) (by first | exact Below.refl _ _ | exact bel_allocR (Below.refl _ _) (Nat.le_refl _) _ | exact bel_allocR (bel_allocR (Below.refl _ _) (Nat.le_refl _) _) (Nat.le_refl _) _) (Nat.le_refl _) hown hgrow hat
                clear hown hgrow hat
                refine hK.out _ _ (fun _ => SS.out _ QF.below) ?_
                clear hK K
                (try simp only [Act.put, List.setIfInBounds_toArray, List.set_cons_zero, List.set_cons_succ])
                refine until_one (i := 13) (by kernel_rfl) ?_
                refine comes (o := ({ dst := some 49, op := Op.call { callee := Callee.builtin Builtin.append, args := #[Operand.tmp 40, Operand.tmp 48], argTypes := #[30, 30] }, type := 30, pos := "ref.go:121", after := #[{ on := 4, ground := Ground.data }, { on := 12, ground := Ground.data }, { on := 4, ground := Ground.chain }], guard := none } : Oper)) rfl (fun K hK => ?_)
                refine step_append_row (by rfl) _ _ EL.out (by rfl) va k xs (by rfl) QF.own (.slice (some ⟨Wd.heap.size + 1, 0, none⟩) 1 1) 1 (acells [⟨x0, x1, x2, x3, x4⟩]) (by rfl) (src_block (ys := acells [⟨x0, x1, x2, x3, x4⟩]) (QF.keep _ _ (by first | exact alloc_atR (by simp) | exact alloc_farR (alloc_atR (by simp))) (by simp [acells, acell])) rfl) (acells_onecell _) (by omega) ?_
                intro vb wb hown hgrow hat
                have QG := newR QF.ge QF.below (Nat.le_refl _) hown hgrow hat
                clear hown hgrow hat QF
                refine hK.out _ _ (fun _ => SS.out _ QG.below) ?_
                clear hK K
                (try simp only [Act.put, List.setIfInBounds_toArray, List.set_cons_zero, List.set_cons_succ])
                refine until_one (i := 17) (by kernel_rfl) ?_
                refine comes (o := ({ dst := some 53, op := Op.call { callee := Callee.builtin Builtin.append, args := #[Operand.tmp 49, Operand.tmp 52], argTypes := #[30, 30] }, type := 30, pos := "ref.go:121", after := #[{ on := 13, ground := Ground.data }, { on := 16, ground := Ground.data }, { on := 13, ground := Ground.chain }], guard := none } : Oper)) rfl (fun K hK => ?_)
                refine step_append_row (by rfl) _ _ EL.out (by rfl) vb (k + 1) (xs ++ acells [⟨x0, x1, x2, x3, x4⟩]) (by rfl) QG.own (.slice (some ⟨g', k * 5, none⟩) (t - k) (oc - k)) (t - k) ys (by rfl) (S2.out _ QG.below) ONE2.out (by omega) ?_
                intro vd wd hown hgrow hat
                have QH := newR QG.ge QG.below (Nat.le_refl _) hown hgrow hat
                have FIN := Hid.intro (FW.out wd vd QH)
                have GB := Hid.intro QH.below
                clear hown hgrow hat QG QH
                refine hK.out _ _ (fun _ => SS.out _ GB.out) ?_
                clear hK K
                (try simp only [Act.put, List.setIfInBounds_toArray, List.set_cons_zero, List.set_cons_succ])
                refine until_one (i := 18) (by kernel_rfl) ?_
                refine comes (o := ({ dst := some 3, op := Op.assign (Operand.tmp 53), type := 30, pos := "ref.go:121", after := #[{ on := 17, ground := Ground.data }, { on := 17, ground := Ground.chain }, { on := 0, ground := Ground.phase }, { on := 1, ground := Ground.phase }, { on := 2, ground := Ground.phase }, { on := 3, ground := Ground.phase }, { on := 4, ground := Ground.phase }, { on := 5, ground := Ground.phase }, { on := 6, ground := Ground.phase }, { on := 7, ground := Ground.phase }, { on := 8, ground := Ground.phase }, { on := 9, ground := Ground.phase }, { on := 10, ground := Ground.phase }, { on := 11, ground := Ground.phase }, { on := 12, ground := Ground.phase }, { on := 13, ground := Ground.phase }, { on := 14, ground := Ground.phase }, { on := 15, ground := Ground.phase }, { on := 16, ground := Ground.phase }, { on := 17, ground := Ground.phase }], guard := none } : Oper)) rfl (fun K hK => ?_)
                go_simp
                refine hK.out _ _ (fun q => absurd rfl q) ?_
                clear hK K
                (try simp only [Act.put, List.setIfInBounds_toArray, List.set_cons_zero, List.set_cons_succ])
                refine until_done (by kernel_rfl) ?_ _
                clear HS SS S1 S2 FW GB
                go_wp2
                go_roundw
                case rel =>
                  exact ⟨t + 1, by omega, by go_num, FIN.out⟩
                case measure => simp [intOf]; omega
            case bB2 =>
              refine comes (o := ({ dst := some 48, op := Op.buildSlice 30 1 #[(0, Operand.tmp 47)], type := 30, pos := "ref.go:121", after := #[{ on := 11, ground := Ground.data }], guard := none } : Oper)) rfl (fun K hK => ?_)
              go_simp
              refine hK.out _ _ (fun _ => SS.out _ (by first | exact Below.refl _ _ | exact bel_allocR (Below.refl _ _) (Nat.le_refl _) _ | exact bel_allocR (bel_allocR (Below.refl _ _) (Nat.le_refl _) _) (Nat.le_refl _) _)) ?_
              clear hK K
              (try simp only [Act.put, List.setIfInBounds_toArray, List.set_cons_zero, List.set_cons_succ])
              refine until_one (i := 0) (by kernel_rfl) ?_
              refine comes (o := ({ dst := some 36, op := Op.buildSlice 30 0 #[], type := 30, pos := "ref.go:121", after := #[], guard := none } : Oper)) rfl (fun K hK => ?_)
              go_simp
              refine hK.out _ _ (fun _ => SS.out _ (by first | exact Below.refl _ _ | exact bel_allocR (Below.refl _ _) (Nat.le_refl _) _ | exact bel_allocR (bel_allocR (Below.refl _ _) (Nat.le_refl _) _) (Nat.le_refl _) _)) ?_
              clear hK K
              (try simp only [Act.put, List.setIfInBounds_toArray, List.set_cons_zero, List.set_cons_succ])
              refine until_one (i := 4) (by kernel_rfl) ?_
              refine comes (o := ({ dst := some 40, op := Op.call { callee := Callee.builtin Builtin.append, args := #[Operand.tmp 36, Operand.tmp 39], argTypes := #[30, 30] }, type := 30, pos := "ref.go:121", after := #[{ on := 0, ground := Ground.data }, { on := 3, ground := Ground.data }], guard := none } : Oper)) rfl (fun K hK => ?_)
              refine step_append_row (by rfl) _ _ EL.out (by rfl) _ 0 [] (by rfl) (own_emptyR (by first | exact alloc_atR (by simp) | exact alloc_farR (alloc_atR (by simp)))) (.slice (some ⟨g', 0, none⟩) k oc) k xs (by rfl) (S1.out _ (by first | exact Below.refl _ _ | exact bel_allocR (Below.refl _ _) (Nat.le_refl _) _ | exact bel_allocR (bel_allocR (Below.refl _ _) (Nat.le_refl _) _) (Nat.le_refl _) _)) ONE.out (by omega) ?_
              intro va wa hown hgrow hat
              have QF := apF (H := Wd.heap.size) (w0 := Wd) (by first | exact alloc_atR (by simp) | exact alloc_farR (alloc_atR (by simp))) (by first | (dsimp only; omega) | (simp; done)) (by first | exact Below.refl _ _ | exact bel_allocR (Below.refl _ _) (Nat.le_refl _) _ | exact bel_allocR (bel_allocR (Below.refl _ _) (Nat.le_refl _) _) (Nat.le_refl _) _) (Nat.le_refl _) hown hgrow hat
              clear hown hgrow hat
              refine hK.out _ _ (fun _ => SS.out _ QF.below) ?_
              clear hK K
              (try simp only [Act.put, List.setIfInBounds_toArray, List.set_cons_zero, List.set_cons_succ])
              refine until_one (i := 13) (by kernel_rfl) ?_
              refine comes (o := ({ dst := some 49, op := Op.call { callee := Callee.builtin Builtin.append, args := #[Operand.tmp 40, Operand.tmp 48], argTypes := #[30, 30] }, type := 30, pos := "ref.go:121", after := #[{ on := 4, ground := Ground.data }, { on := 12, ground := Ground.data }, { on := 4, ground := Ground.chain }], guard := none } : Oper)) rfl (fun K hK => ?_)
              refine step_append_row (by rfl) _ _ EL.out (by rfl) va k xs (by rfl) QF.own (.slice (some ⟨Wd.heap.size, 0, none⟩) 1 1) 1 (acells [⟨x0, x1, x2, x3, x4⟩]) (by rfl) (src_block (ys := acells [⟨x0, x1, x2, x3, x4⟩]) (QF.keep _ _ (by first | exact alloc_atR (by simp) | exact alloc_farR (alloc_atR (by simp))) (by simp [acells, acell])) rfl) (acells_onecell _) (by omega) ?_
              intro vb wb hown hgrow hat
              have QG := newR QF.ge QF.below (Nat.le_refl _) hown hgrow hat
              clear hown hgrow hat QF
              refine hK.out _ _ (fun _ => SS.out _ QG.below) ?_
              clear hK K
              (try simp only [Act.put, List.setIfInBounds_toArray, List.set_cons_zero, List.set_cons_succ])
              refine until_one (i := 17) (by kernel_rfl) ?_
              refine comes (o := ({ dst := some 53, op := Op.call { callee := Callee.builtin Builtin.append, args := #[Operand.tmp 49, Operand.tmp 52], argTypes := #[30, 30] }, type := 30, pos := "ref.go:121", after := #[{ on := 13, ground := Ground.data }, { on := 16, ground := Ground.data }, { on := 13, ground := Ground.chain }], guard := none } : Oper)) rfl (fun K hK => ?_)
              refine step_append_row (by rfl) _ _ EL.out (by rfl) vb (k + 1) (xs ++ acells [⟨x0, x1, x2, x3, x4⟩]) (by rfl) QG.own (.slice (some ⟨g', k * 5, none⟩) (t - k) (oc - k)) (t - k) ys (by rfl) (S2.out _ QG.below) ONE2.out (by omega) ?_
              intro vd wd hown hgrow hat
              have QH := newR QG.ge QG.below (Nat.le_refl _) hown hgrow hat
              have FIN := Hid.intro (FW.out wd vd QH)
              have GB := Hid.intro QH.below
              clear hown hgrow hat QG QH
              refine hK.out _ _ (fun _ => SS.out _ GB.out) ?_
              clear hK K
              (try simp only [Act.put, List.setIfInBounds_toArray, List.set_cons_zero, List.set_cons_succ])
              refine until_one (i := 18) (by kernel_rfl) ?_
              refine comes (o := ({ dst := some 3, op := Op.assign (Operand.tmp 53), type := 30, pos := "ref.go:121", after := #[{ on := 17, ground := Ground.data }, { on := 17, ground := Ground.chain }, { on := 0, ground := Ground.phase }, { on := 1, ground := Ground.phase }, { on := 2, ground := Ground.phase }, { on := 3, ground := Ground.phase }, { on := 4, ground := Ground.phase }, { on := 5, ground := Ground.phase }, { on := 6, ground := Ground.phase }, { on := 7, ground := Ground.phase }, { on := 8, ground := Ground.phase }, { on := 9, ground := Ground.phase }, { on := 10, ground := Ground.phase }, { on := 11, ground := Ground.phase }, { on := 12, ground := Ground.phase }, { on := 13, ground := Ground.phase }, { on := 14, ground := Ground.phase }, { on := 15, ground := Ground.phase }, { on := 16, ground := Ground.phase }, { on := 17, ground := Ground.phase }], guard := none } : Oper)) rfl (fun K hK => ?_)
              go_simp
              refine hK.out _ _ (fun q => absurd rfl q) ?_
              clear hK K
              (try simp only [Act.put, List.setIfInBounds_toArray, List.set_cons_zero, List.set_cons_succ])
              refine until_done (by kernel_rfl) ?_ _
              clear HS SS S1 S2 FW GB
              go_wp2
              go_roundw
              case rel =>
                exact ⟨t + 1, by omega, by go_num, FIN.out⟩
              case measure => simp [intOf]; omega
    · obtain rfl : t = n := by omega
      have t1 : ¬ (t : Int) < (t : Int) := by omega
      have TA : Hid (L.take t = L) := by rw [Hid, HN.out]; exact List.take_of_length_le (Nat.le_refl _)
      clear hR
      go_wp2
      go_ret
      have q := RH.out
      rw [TA.out] at q
      exact ⟨_, rfl, q.own, q.below, q.ge⟩

end Go.Proofs.Ytbeeigfcchjdlaa
