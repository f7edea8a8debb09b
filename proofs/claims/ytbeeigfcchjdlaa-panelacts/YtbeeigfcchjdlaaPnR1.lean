/- The document's own answer of layer 16: find, Sounds, tidy, Drop, Clear, Ack. -/
import Derived.Test.YtbeeigfcchjdlaaPnVal
namespace Go.Proofs.Ytbeeigfcchjdlaa
open Go.RowKit
open Pn

/-- The document's panel. -/
abbrev PR (b : Nat) (L : List Al) (u : Int) : (Nat → Prop) → World → Prop := PO 34 42 b L u

theorem pr_owned (b : Nat) (L : List Al) (u : Int) : Owned (PR b L u) := po_owned _ _ b L u

/-- The document's panel's own block and its row, whatever its list is. -/
structure RawR (w : World) (b : Nat) (v : Value) (L : List Al) (u : Int) : Prop where
  head : w.heap[b]? = some (.cells #[v, .int .i64 u] 34 (0, 0))
  own : w.ownsRow 0 42 5 v L.length (acells L)

theorem RawR.cells {w : World} {b : Nat} {v : Value} {L : List Al} {u : Int} (h : RawR w b v L u) : w.cell? ⟨b, 0, none⟩ = some v ∧ w.frozen? ⟨b, 0, none⟩ = false ∧ w.cell? ⟨b, 1, none⟩ = some (.int .i64 u) :=
  ⟨by rw [cell_of_row w _ 0 _ _ _ h.head]; rfl, frozen_of_row w b 0 _ _ h.head, by rw [cell_of_row w _ 1 _ _ _ h.head]; rfl⟩

theorem RawR.below {w w' : World} {b : Nat} {v : Value} {L : List Al} {u : Int} (h : RawR w b v L u) (hb : Below w.heap.size w w') : RawR w' b v L u :=
  ⟨(hb.block b (lt_of_heap h.head)).trans h.head, ownsRow_keep h.own fun k hk => hb.block k (World.ownsRow.lt h.own k hk).2⟩

theorem PnS.rawR {S : Nat → Prop} {w : World} {b : Nat} {v : Value} {L : List Al} {u : Int} (h : PnS 34 42 S w b v L u) : RawR w b v L u := ⟨h.head, h.own⟩

/-- Its list is another one, in new memory. -/
theorem RawR.laid {w ws : World} {b n : Nat} {v v' : Value} {L L' : List Al} {u : Int} (h : RawR w b v L u) (hN : NewR 42 5 w.heap.size w n (acells L') ws v') (hn : n = L'.length) :
    (ws.cell? ⟨b, 0, none⟩ = some v ∧ ws.frozen? ⟨b, 0, none⟩ = false) ∧ RawR (ws.setCell ⟨b, 0, none⟩ v') b v' L' u ∧ Chg (fun k => k = b) w (ws.setCell ⟨b, 0, none⟩ v') := by
  subst hn
  have h1 := h.below hN.below
  have C : Chg (fun k => k = b) ws (ws.setCell ⟨b, 0, none⟩ v') := (Chg.refl _ ws).setCell (S := fun k => k = b) (p := ⟨b, 0, none⟩) (fun _ => rfl) _
  refine ⟨⟨h1.cells.1, h1.cells.2.1⟩, ⟨by rw [heap_setCell_same ws b 0 _ _ v' h1.head]; rfl, ?_⟩, ((below_chg hN.below).mono (fun _ f _ => f.elim)).trans C (fun _ q _ => q)⟩
  exact ownsRow_keep hN.own fun k hk => C.block k (World.ownsRow.lt hN.own k hk).2 (fun q => row_not_block hN.own h1.head (by decide) (by rw [← q]; exact hk))

theorem po_left {tp te : TypeId} {S : Nat → Prop} {w w2 : World} {b : Nat} {v v2 : Value} {L M : List Al} {u u2 : Int} (h : PnS tp te S w b v L u) (hc : Chg S w w2) (hd : w2.heap[b]? = some (.cells #[v2, .int .i64 u2] tp (0, 0))) (ho : w2.ownsRow 0 te 5 v2 M.length (acells M)) (hv : ∀ k, v2.ownBlock = some k → S k ∨ w.heap.size ≤ k) (ok : OkA M) : LeftG (PO tp te b M u2) S w w2 :=
  ⟨fun k => (S k ∨ w.heap.size ≤ k) ∧ k < w2.heap.size, ⟨v2, ⟨hd, ho, ⟨.inl h.inB, Nat.lt_of_lt_of_le (h.lt b h.inB) hc.size⟩, fun k hk => ⟨hv k hk, (World.ownsRow.lt ho k hk).2⟩, fun _ hk => hk.2, ok, h.ne⟩⟩, hc, fun _ hk => hk.1⟩

set_option maxRecDepth 100000 in
set_option maxHeartbeats 1000000 in
theorem refFind16_any (b : Nat) (bed kind : Int) (v : Value) (L : List Al) (u : Int) (w : World) (h : RawR w b v L u) (hf : L.length ≤ 40) :
    Calls Try.prog 35 #[.pointer (some ⟨b, 0, none⟩), .int .i64 bed, .int .i64 kind] w fun e w' => e = .returned (.int .i64 (posA (isA bed kind) L)) ∧ w = w' := by
  have c0 := h.cells.1
  obtain ⟨ao, c, rfl, hz⟩ := ownsRow_form h.own
  have HA := Hid.intro (fun t (ht : t < L.length) (g : Nat) (e : ao = some ⟨g, 0, none⟩) => (show AlAt w g (t * 5) L[t] from by subst e; exact al_at h.own ht))
  have HZ := Hid.intro hz
  obtain ⟨P, hP⟩ : ∃ P, P = posA (isA bed kind) L := ⟨_, rfl⟩
  have HP := Hid.intro hP
  rw [← hP]
  obtain ⟨n, hn⟩ : ∃ n, n = L.length := ⟨_, rfl⟩
  have HN := Hid.intro hn
  rw [← hn] at c0 hf
  clear h hz hP hn
  go_enter Try.func35, Try.ntmps35
  go_wp2_with fail
  go_loop [7] (fun iv => ∃ t : Nat, t ≤ n ∧ iv = .int .i64 t ∧ ∀ j, (hj : j < L.length) → j < t → isA bed kind L[j] = false) (fun iv => n - (intOf iv).toNat)
  case atStart => exact ⟨0, by omega, rfl, fun j _ hj => absurd hj (Nat.not_lt_zero _)⟩
  case round =>
    obtain ⟨t, ht, rfl, hno⟩ := hrel
    have HNO := Hid.intro hno
    clear hno
    by_cases hlt : t < n
    · have hlt' : t < L.length := by rw [← HN.out]; exact hlt
      obtain ⟨g, rfl⟩ := HZ.out.resolve_left (by have := HN.out; omega)
      obtain ⟨d0, d1, _, _, _⟩ := HA.out t hlt' g rfl
      have t0 : (0 : Int) ≤ (t : Int) := by omega
      have t1 : (t : Int) < (n : Int) := by omega
      by_cases e : isA bed kind L[t] = true
      · have HIT : Hid (P = (t : Int)) := by
          rw [Hid, HP.out]
          exact posA_hit hlt' e (fun j hj q => HNO.out j hj q)
        obtain ⟨e1, e2⟩ := isA_iff.1 e
        rw [e1] at d0
        rw [e2] at d1
        clear e e1 e2
        go_wp2
        go_ret
        exact ⟨by rw [HIT.out]; rfl, rfl⟩
      · have e' : isA bed kind L[t] = false := by simpa using e
        have NX : Hid (∀ j, (hj : j < L.length) → j < t + 1 → isA bed kind L[j] = false) := fun j hj h => by
          by_cases q : j < t
          · exact HNO.out j hj q
          · obtain rfl : j = t := by omega
            exact e'
        by_cases e1 : L[t].bed = bed
        · have e2 : (L[t].kind == kind) = false := by
            rw [beq_eq_false_iff_ne]
            exact fun q => e (isA_iff.2 ⟨e1, q⟩)
          rw [e1] at d0
          clear e e' e1
          generalize L[t].kind = bk at *
          go_wp2
          go_round
          case rel => exact ⟨t + 1, by omega, by go_num, NX.out⟩
          case measure => simp [intOf]; omega
        · have e2 : (L[t].bed == bed) = false := by rw [beq_eq_false_iff_ne]; exact e1
          clear e e' e1
          generalize L[t].bed = bb at *
          go_wp2
          go_round
          case rel => exact ⟨t + 1, by omega, by go_num, NX.out⟩
          case measure => simp [intOf]; omega
    · obtain rfl : t = n := by omega
      have t1 : ¬ (t : Int) < (t : Int) := by omega
      have MI : Hid (P = -1) := by
        rw [Hid, HP.out]
        exact posA_miss (fun j hj => HNO.out j hj (by have := HN.out; omega))
      go_wp2
      go_ret
      exact ⟨by rw [MI.out]; rfl, rfl⟩

set_option maxRecDepth 100000 in
set_option maxHeartbeats 1000000 in
theorem refSound16_any (b : Nat) (x : Int) (S : Nat → Prop) (L : List Al) (u : Int) (w : World) (h : PR b L u S w) :
    Calls Try.prog 24 #[.pointer (some ⟨b, 0, none⟩), .int .i64 x] w fun e w' => e = .returned (.bool (soundA L u x)) ∧ w = w' := by
  obtain ⟨v, h⟩ := h
  have hf := h.ok.few
  obtain ⟨c0, _, c1, _⟩ := h.cells
  obtain ⟨ao, c, rfl, hz⟩ := ownsRow_form h.own
  have HA := Hid.intro (fun t (ht : t < L.length) (g : Nat) (e : ao = some ⟨g, 0, none⟩) => (show w.cell? ⟨g, t * 5 + 4, none⟩ = some (.bool L[t].acked) from by subst e; exact (al_at h.own ht).2.2.2.2))
  have HZ := Hid.intro hz
  obtain ⟨P, hP⟩ : ∃ P, P = soundA L u x := ⟨_, rfl⟩
  have HP := Hid.intro hP
  rw [← hP]
  obtain ⟨n, hn⟩ : ∃ n, n = L.length := ⟨_, rfl⟩
  have HN := Hid.intro hn
  rw [← hn] at c0 hf
  clear h hz hP hn
  go_enter Try.func24, Try.ntmps24
  go_wp2_with fail
  go_loop [5] (fun iv => ∃ t : Nat, t ≤ n ∧ iv = .int .i64 t ∧ ∀ j, (hj : j < L.length) → j < t → (!L[j].acked && decide (u ≤ x)) = false) (fun iv => n - (intOf iv).toNat)
  case atStart => exact ⟨0, by omega, rfl, fun j _ hj => absurd hj (Nat.not_lt_zero _)⟩
  case round =>
    obtain ⟨t, ht, rfl, hno⟩ := hrel
    have HNO := Hid.intro hno
    clear hno
    by_cases hlt : t < n
    · have hlt' : t < L.length := by rw [← HN.out]; exact hlt
      obtain ⟨g, rfl⟩ := HZ.out.resolve_left (by have := HN.out; omega)
      have d4 := HA.out t hlt' g rfl
      have t0 : (0 : Int) ≤ (t : Int) := by omega
      have t1 : (t : Int) < (n : Int) := by omega
      have NX : Hid ((!L[t].acked && decide (u ≤ x)) = false → ∀ j, (hj : j < L.length) → j < t + 1 → (!L[j].acked && decide (u ≤ x)) = false) := fun e j hj h => by
        by_cases q : j < t
        · exact HNO.out j hj q
        · obtain rfl : j = t := by omega
          exact e
      have HIT : Hid (L[t].acked = false → u ≤ x → P = true) := fun e1 e2 => by
        rw [HP.out]
        unfold soundA
        rw [decide_eq_true e2, Bool.true_and, List.any_eq_true]
        exact ⟨L[t], List.getElem_mem hlt', by rw [e1]; rfl⟩
      generalize L[t].acked = r at *
      cases r with
      | true =>
        have NXT := Hid.intro (NX.out rfl)
        clear NX HIT
        go_wp2
        go_round
        case rel => exact ⟨t + 1, by omega, by go_num, NXT.out⟩
        case measure => simp [intOf]; omega
      | false =>
        by_cases hu : u ≤ x
        · have HI := Hid.intro (HIT.out rfl hu)
          clear NX HIT
          go_wp2
          go_ret
          exact ⟨by rw [HI.out]; rfl, rfl⟩
        · have NXT := Hid.intro (NX.out (by rw [decide_eq_false hu]; rfl))
          clear NX HIT
          go_wp2
          go_round
          case rel => exact ⟨t + 1, by omega, by go_num, NXT.out⟩
          case measure => simp [intOf]; omega
    · obtain rfl : t = n := by omega
      have t1 : ¬ (t : Int) < (t : Int) := by omega
      have MI : Hid (P = false) := by
        rw [Hid, HP.out]
        unfold soundA
        by_cases hu : u ≤ x
        · rw [decide_eq_true hu, Bool.true_and, List.any_eq_false]
          intro y hy
          obtain ⟨j, hj, rfl⟩ := List.getElem_of_mem hy
          have q := HNO.out j hj (by have := HN.out; omega)
          rw [decide_eq_true hu, Bool.and_true] at q
          rw [q]
          simp
        · rw [decide_eq_false hu, Bool.false_and]
      go_wp2
      go_ret
      exact ⟨by rw [MI.out]; rfl, rfl⟩

/-- Those that stay, one more looked at. -/
theorem tidyA_take {L : List Al} {t : Nat} (h : t < L.length) : tidyA (L.take (t + 1)) = tidyA (L.take t) ++ (if overA L[t] = true then [] else [L[t]]) := by
  unfold tidyA
  rw [List.take_add_one, List.getElem?_eq_getElem h, List.filter_append]
  congr 1
  simp only [Option.toList_some]
  cases q : overA L[t] <;> simp [q]

set_option maxRecDepth 100000 in
set_option maxHeartbeats 2000000 in
theorem refTidy16_any (b : Nat) (v : Value) (L : List Al) (u : Int) (w : World) (h : RawR w b v L u) (hf : L.length ≤ 40) :
    Calls Try.prog 36 #[.pointer (some ⟨b, 0, none⟩)] w fun e w' => e = .returned (.tuple #[]) ∧ ∃ v', (∀ k, v'.ownBlock = some k → w.heap.size ≤ k) ∧ RawR w' b v' (tidyA L) u ∧ Chg (fun k => k = b) w w' := by
  have HK := Hid.intro (fun (W : World) (hW : Below w.heap.size w W) => (h.below hW).cells.1)
  have HL := Hid.intro (fun (ws : World) (v' : Value) (hN : NewR 42 5 w.heap.size w (tidyA L).length (acells (tidyA L)) ws v') => h.laid hN rfl)
  obtain ⟨ao, c, rfl, hz⟩ := ownsRow_form h.own
  have HA := Hid.intro (fun (W : World) (hW : Below w.heap.size w W) t (ht : t < L.length) (g : Nat) (e : ao = some ⟨g, 0, none⟩) => (show AlAt W g (t * 5) L[t] from by subst e; exact al_at (h.below hW).own ht))
  have HZ := Hid.intro hz
  have EL := Hid.intro elem_al
  have LE := Hid.intro (fun t => (show (tidyA (L.take t)).length ≤ t from Nat.le_trans (List.length_filter_le _ _) (by rw [List.length_take]; omega)))
  have LL := Hid.intro (show (tidyA L).length ≤ L.length from List.length_filter_le _ _)
  obtain ⟨n, hn⟩ : ∃ n, n = L.length := ⟨_, rfl⟩
  have HN := Hid.intro hn
  rw [← hn] at HK hf
  clear h hz hn
  go_enter Try.func36, Try.ntmps36
  go_wp2_with fail
  go_loopw [2, 3] (fun ov iv ws => ∃ t : Nat, t ≤ n ∧ iv = .int .i64 t ∧ NewR 42 5 w.heap.size w (tidyA (L.take t)).length (acells (tidyA (L.take t))) ws ov) (fun _ iv _ => n - (intOf iv).toNat)
  case atStart => exact ⟨0, by omega, rfl, own_noneR _ _ _, Below.refl _ _, (fun k hk => by cases hk)⟩
  case round =>
    obtain ⟨t, ht, rfl, hR⟩ := hrel
    have k0 := HK.out wr hR.below
    have RH := Hid.intro hR
    by_cases hlt : t < n
    · have hlt' : t < L.length := by rw [← HN.out]; exact hlt
      obtain ⟨g, hg⟩ := HZ.out.resolve_left (by have := HN.out; omega)
      have hx := HA.out wr hR.below t hlt' g hg
      have LT := Hid.intro (LE.out t)
      have NX := Hid.intro (tidyA_take hlt')
      have t0 : (0 : Int) ≤ (t : Int) := by omega
      have t1 : (t : Int) < (n : Int) := by omega
      subst hg
      clear hR
      generalize L[t] = x at *
      obtain ⟨x0, x1, x2, x3, x4⟩ := x
      obtain ⟨d0, d1, d2, d3, d4⟩ := hx
      simp only at d0 d1 d2 d3 d4
      have N1 := Hid.intro (heap_alloc_new wr (.cells #[.int .i64 x0, .int .i64 x1, .int .i64 x2, .bool x3, .bool x4] 42))
      have B2 := Hid.intro (bel_allocR RH.out.below (Nat.le_refl _) (.cells #[.int .i64 x0, .int .i64 x1, .int .i64 x2, .bool x3, .bool x4] 42))
      have OW := Hid.intro (ownsRow_keep RH.out.own fun k hk => alloc_keepR (o := .cells #[.int .i64 x0, .int .i64 x1, .int .i64 x2, .bool x3, .bool x4] 42) (World.ownsRow.lt RH.out.own k hk).2)
      cases x3 with
      | true =>
        have NXT := NX.out
        rw [if_neg (by simp [overA])] at NXT
        have NXH := Hid.intro NXT
        clear NX NXT
        generalize tidyA (L.take t) = Lt at *
        go_wp2_with (at_builtin; refine append_row (by rfl) _ _ EL.out (by rfl) _ Lt.length (acells Lt) (by rfl) OW.out (.slice (some ⟨wr.heap.size, 0, none⟩) 1 1) 1 (acells [⟨x0, x1, x2, true, x4⟩]) (by rfl) (src_block N1.out rfl) (acells_onecell _) (by have := LT.out; omega) ?_; intro v' wb hown hgrow hat; have QG := Hid.intro (newR RH.out.ge B2.out (Nat.le_refl _) hown hgrow hat); clear hown hgrow hat)
        go_roundw
        case rel =>
          refine ⟨t + 1, by omega, by go_num, ?_⟩
          rw [NXH.out, acells_append, List.length_append]
          exact QG.out
        case measure => simp [intOf]; omega
      | false =>
        cases x4 with
        | false =>
          have NXT := NX.out
          rw [if_neg (by simp [overA])] at NXT
          have NXH := Hid.intro NXT
          clear NX NXT
          generalize tidyA (L.take t) = Lt at *
          go_wp2_with (at_builtin; refine append_row (by rfl) _ _ EL.out (by rfl) _ Lt.length (acells Lt) (by rfl) OW.out (.slice (some ⟨wr.heap.size, 0, none⟩) 1 1) 1 (acells [⟨x0, x1, x2, false, false⟩]) (by rfl) (src_block N1.out rfl) (acells_onecell _) (by have := LT.out; omega) ?_; intro v' wb hown hgrow hat; have QG := Hid.intro (newR RH.out.ge B2.out (Nat.le_refl _) hown hgrow hat); clear hown hgrow hat)
          go_roundw
          case rel =>
            refine ⟨t + 1, by omega, by go_num, ?_⟩
            rw [NXH.out, acells_append, List.length_append]
            exact QG.out
          case measure => simp [intOf]; omega
        | true =>
          have NXT := NX.out
          rw [if_pos (by simp [overA]), List.append_nil] at NXT
          have NXH := Hid.intro NXT
          clear NX NXT N1 B2 OW
          go_wp2
          go_roundw
          case rel =>
            refine ⟨t + 1, by omega, by go_num, ?_⟩
            rw [NXH.out]
            exact RH.out
          case measure => simp [intOf]; omega
    · obtain rfl : t = n := by omega
      have t1 : ¬ (t : Int) < (t : Int) := by omega
      have TA : Hid (L.take t = L) := by rw [Hid, HN.out]; exact List.take_of_length_le (Nat.le_refl _)
      have hR2 := RH.out
      rw [TA.out] at hR2
      obtain ⟨⟨q1, q2⟩, q3⟩ := HL.out _ _ hR2
      have Q3 := Hid.intro q3
      have GE := Hid.intro hR2.ge
      obtain ⟨oa, oc, e, _⟩ := ownsRow_form hR2.own
      subst e
      clear hR hR2 q1 q3 HL HA LE
      go_wp2
      go_end0
      exact ⟨rfl, _, GE.out, Q3.out.1, Q3.out.2⟩

/-- Those that stay, one more looked at. -/
theorem dropA_take {L : List Al} {bed : Int} {t : Nat} (h : t < L.length) : dropA (L.take (t + 1)) bed = dropA (L.take t) bed ++ (if decide (L[t].bed = bed) = true then [] else [L[t]]) := by
  unfold dropA
  rw [List.take_add_one, List.getElem?_eq_getElem h, List.filter_append]
  congr 1
  simp only [Option.toList_some]
  cases q : decide (L[t].bed = bed) <;> simp [q]

set_option maxRecDepth 100000 in
set_option maxHeartbeats 2000000 in
theorem refDrop16_raw (b : Nat) (bed : Int) (v : Value) (L : List Al) (u : Int) (w : World) (h : RawR w b v L u) (hf : L.length ≤ 40) :
    Calls Try.prog 21 #[.pointer (some ⟨b, 0, none⟩), .int .i64 bed] w fun e w' => e = .returned (.int .i64 ((L.length : Int) - ((dropA L bed).length : Int))) ∧ ∃ v', (∀ k, v'.ownBlock = some k → w.heap.size ≤ k) ∧ RawR w' b v' (dropA L bed) u ∧ Chg (fun k => k = b) w w' := by
  have HK := Hid.intro (fun (W : World) (hW : Below w.heap.size w W) => (h.below hW).cells.1)
  have HL := Hid.intro (fun (ws : World) (v' : Value) (hN : NewR 42 5 w.heap.size w (dropA L bed).length (acells (dropA L bed)) ws v') => h.laid hN rfl)
  obtain ⟨ao, c, rfl, hz⟩ := ownsRow_form h.own
  have HA := Hid.intro (fun (W : World) (hW : Below w.heap.size w W) t (ht : t < L.length) (g : Nat) (e : ao = some ⟨g, 0, none⟩) => (show AlAt W g (t * 5) L[t] from by subst e; exact al_at (h.below hW).own ht))
  have HZ := Hid.intro hz
  have EL := Hid.intro elem_al
  have LE := Hid.intro (fun t => (show (dropA (L.take t) bed).length ≤ t from Nat.le_trans (List.length_filter_le _ _) (by rw [List.length_take]; omega)))
  have LL := Hid.intro (show (dropA L bed).length ≤ L.length from List.length_filter_le _ _)
  obtain ⟨n, hn⟩ : ∃ n, n = L.length := ⟨_, rfl⟩
  have HN := Hid.intro hn
  rw [← hn] at HK hf
  clear h hz hn
  go_enter Try.func21, Try.ntmps21
  go_wp2_with fail
  go_loopw [5, 6] (fun ov iv ws => ∃ t : Nat, t ≤ n ∧ iv = .int .i64 t ∧ NewR 42 5 w.heap.size w (dropA (L.take t) bed).length (acells (dropA (L.take t) bed)) ws ov) (fun _ iv _ => n - (intOf iv).toNat)
  case atStart => exact ⟨0, by omega, rfl, own_noneR _ _ _, Below.refl _ _, (fun k hk => by cases hk)⟩
  case round =>
    obtain ⟨t, ht, rfl, hR⟩ := hrel
    have k0 := HK.out wr hR.below
    have RH := Hid.intro hR
    by_cases hlt : t < n
    · have hlt' : t < L.length := by rw [← HN.out]; exact hlt
      obtain ⟨g, hg⟩ := HZ.out.resolve_left (by have := HN.out; omega)
      have hx := HA.out wr hR.below t hlt' g hg
      have LT := Hid.intro (LE.out t)
      have NX := Hid.intro (dropA_take (bed := bed) hlt')
      have t0 : (0 : Int) ≤ (t : Int) := by omega
      have t1 : (t : Int) < (n : Int) := by omega
      subst hg
      clear hR
      generalize L[t] = x at *
      obtain ⟨x0, x1, x2, x3, x4⟩ := x
      obtain ⟨d0, d1, d2, d3, d4⟩ := hx
      simp only at d0 d1 d2 d3 d4
      have N1 := Hid.intro (heap_alloc_new wr (.cells #[.int .i64 x0, .int .i64 x1, .int .i64 x2, .bool x3, .bool x4] 42))
      have B2 := Hid.intro (bel_allocR RH.out.below (Nat.le_refl _) (.cells #[.int .i64 x0, .int .i64 x1, .int .i64 x2, .bool x3, .bool x4] 42))
      have OW := Hid.intro (ownsRow_keep RH.out.own fun k hk => alloc_keepR (o := .cells #[.int .i64 x0, .int .i64 x1, .int .i64 x2, .bool x3, .bool x4] 42) (World.ownsRow.lt RH.out.own k hk).2)
      by_cases e1 : x0 = bed
      · have e2 : decide (x0 = bed) = true := decide_eq_true e1
        subst e1
        have NXT := NX.out
        rw [if_pos e2, List.append_nil] at NXT
        have NXH := Hid.intro NXT
        clear NX NXT N1 B2 OW
        go_wp2
        go_roundw
        case rel =>
          refine ⟨t + 1, by omega, by go_num, ?_⟩
          rw [NXH.out]
          exact RH.out
        case measure => simp [intOf]; omega
      · have e2 : decide (x0 = bed) = false := decide_eq_false e1
        have e3 : (x0 == bed) = false := by rw [beq_eq_false_iff_ne]; exact e1
        clear e1
        have NXT := NX.out
        rw [if_neg (by rw [e2]; decide)] at NXT
        have NXH := Hid.intro NXT
        clear NX NXT
        generalize dropA (L.take t) bed = Lt at *
        go_wp2_with (at_builtin; refine append_row (by rfl) _ _ EL.out (by rfl) _ Lt.length (acells Lt) (by rfl) OW.out (.slice (some ⟨wr.heap.size, 0, none⟩) 1 1) 1 (acells [⟨x0, x1, x2, x3, x4⟩]) (by rfl) (src_block N1.out rfl) (acells_onecell _) (by have := LT.out; omega) ?_; intro v' wb hown hgrow hat; have QG := Hid.intro (newR RH.out.ge B2.out (Nat.le_refl _) hown hgrow hat); clear hown hgrow hat)
        go_roundw
        case rel =>
          refine ⟨t + 1, by omega, by go_num, ?_⟩
          rw [NXH.out, acells_append, List.length_append]
          exact QG.out
        case measure => simp [intOf]; omega
    · obtain rfl : t = n := by omega
      have t1 : ¬ (t : Int) < (t : Int) := by omega
      have TA : Hid (L.take t = L) := by rw [Hid, HN.out]; exact List.take_of_length_le (Nat.le_refl _)
      have hR2 := RH.out
      rw [TA.out] at hR2
      obtain ⟨⟨q1, q2⟩, q3⟩ := HL.out _ _ hR2
      have Q3 := Hid.intro q3
      have GE := Hid.intro hR2.ge
      obtain ⟨oa, oc, e, _⟩ := ownsRow_form hR2.own
      subst e
      have m0 : (0 : Int) ≤ ((dropA L bed).length : Int) := by omega
      have m1 : ((dropA L bed).length : Int) ≤ (t : Int) := by have := LL.out; have := HN.out; omega
      have m2 : (t : Int) ≤ 40 := by omega
      clear hR hR2 q1 q3 HL HA LE
      go_wp2
      go_ret
      exact ⟨by rw [← HN.out]; rfl, _, GE.out, Q3.out.1, Q3.out.2⟩

set_option maxRecDepth 100000 in
set_option maxHeartbeats 1000000 in
theorem refClear16_any (b : Nat) (bed kind : Int) (S : Nat → Prop) (L : List Al) (u : Int) (w : World) (h : PR b L u S w) :
    Calls Try.prog 19 #[.pointer (some ⟨b, 0, none⟩), .int .i64 bed, .int .i64 kind] w fun e w' => e = .returned (.bool (clearB L bed kind)) ∧ LeftG (PR b (clearL L bed kind) u) S w w' := by
  obtain ⟨v, h⟩ := h
  have hf := h.ok.few
  have FI := Hid.intro (refFind16_any b bed kind v L u w h.rawR hf)
  have HS := Hid.intro (h.same (Below.refl _ w))
  have ok := clear_ok h.ok bed kind
  unfold clearL at ok ⊢
  unfold clearB at ok ⊢
  have k0 := h.cells.1
  rcases posA_ways (isA bed kind) L with ⟨p1, p2, p3⟩ | ⟨i, hi, p1, p2, p3, p4⟩
  · rw [p1] at FI
    rw [p2]
    simp only [Bool.false_eq_true, if_false]
    clear h p1 p2 p3 ok hf k0
    go_enter Try.func19, Try.ntmps19
    go_wp2_with fail
    refine FI.out.mono ?_
    rintro e w1 ⟨rfl, rfl⟩
    clear FI
    go_wp2
    go_ret
    exact ⟨rfl, HS.out⟩
  · rw [p1] at FI
    rw [p2] at ok ⊢
    simp only at ok ⊢
    obtain ⟨ao, c, rfl, hz⟩ := ownsRow_form h.own
    obtain ⟨g, rfl⟩ := hz.resolve_left (by omega)
    have c3 := (al_at h.own hi).2.2.2.1
    have i0 : (0 : Int) ≤ (i : Int) := by omega
    have i1 : (i : Int) < (L.length : Int) := by omega
    have i2 : ¬ (i : Int) < 0 := by omega
    by_cases ho : L[i].on = true
    · simp only [ho, if_true] at ok ⊢
      rw [turn_place h.ok.once hi p3] at ok ⊢
      have f3 := frozen_ownA h.own (i * 5 + 3)
      obtain ⟨q1, q2, q3⟩ := h.put (k := 3) (y := { L[i] with on := false }) (x := .bool false) hi (by omega) rfl
      have TI := Hid.intro (refTidy16_any b _ (L.set i { L[i] with on := false }) u _ ⟨q1, by rw [List.length_set]; exact q2⟩ (by rw [List.length_set]; exact hf))
      have FN : Hid (∀ (w2 : World) (v' : Value), (∀ k, v'.ownBlock = some k → (w.setCell ⟨g, i * 5 + 3, none⟩ (.bool false)).heap.size ≤ k) → RawR w2 b v' (tidyA (L.set i { L[i] with on := false })) u → Chg (fun k => k = b) (w.setCell ⟨g, i * 5 + 3, none⟩ (.bool false)) w2 → LeftG (PR b (tidyA (L.set i { L[i] with on := false })) u) S w w2) := fun w2 v' z1 z2 z3 =>
        po_left h (q3.trans z3 (fun k e _ => by rw [e]; exact h.inB)) z2.head z2.own (fun k hk => .inr (Nat.le_trans q3.size (z1 k hk))) ok
      rw [ho] at c3
      clear h p1 p2 p3 p4 hz ok ho hf HS q1 q2 q3
      generalize tidyA (L.set i { L[i] with on := false }) = M at *
      clear hi
      generalize L.length = n at *
      go_enter Try.func19, Try.ntmps19
      go_wp2_with fail
      refine FI.out.mono ?_
      rintro e w1 ⟨rfl, rfl⟩
      clear FI
      go_wp2_with fail
      refine TI.out.mono ?_
      rintro e w2 ⟨rfl, v', z1, z2, z3⟩
      have FIN := Hid.intro (FN.out w2 v' z1 z2 z3)
      clear TI FN z1 z2 z3 c3 f3 k0
      go_wp2
      go_ret
      exact ⟨rfl, FIN.out⟩
    · have ho' : L[i].on = false := by simpa using ho
      simp only [ho', Bool.false_eq_true, if_false] at ok ⊢
      rw [ho'] at c3
      clear h p1 p2 p3 p4 hz ok ho ho' hf hi
      generalize L.length = n at *
      go_enter Try.func19, Try.ntmps19
      go_wp2_with fail
      refine FI.out.mono ?_
      rintro e w1 ⟨rfl, rfl⟩
      clear FI
      go_wp2
      go_ret
      exact ⟨rfl, HS.out⟩

set_option maxRecDepth 100000 in
set_option maxHeartbeats 1000000 in
theorem refAck16_any (b : Nat) (bed kind : Int) (S : Nat → Prop) (L : List Al) (u : Int) (w : World) (h : PR b L u S w) :
    Calls Try.prog 20 #[.pointer (some ⟨b, 0, none⟩), .int .i64 bed, .int .i64 kind] w fun e w' => e = .returned (.bool (ackB L bed kind)) ∧ LeftG (PR b (ackL L bed kind) u) S w w' := by
  obtain ⟨v, h⟩ := h
  have hf := h.ok.few
  have FI := Hid.intro (refFind16_any b bed kind v L u w h.rawR hf)
  have HS := Hid.intro (h.same (Below.refl _ w))
  have ok := ack_ok h.ok bed kind
  unfold ackL at ok ⊢
  unfold ackB at ok ⊢
  have k0 := h.cells.1
  rcases posA_ways (isA bed kind) L with ⟨p1, p2, p3⟩ | ⟨i, hi, p1, p2, p3, p4⟩
  · rw [p1] at FI
    rw [p2]
    simp only [Bool.false_eq_true, if_false]
    clear h p1 p2 p3 ok hf k0
    go_enter Try.func20, Try.ntmps20
    go_wp2_with fail
    refine FI.out.mono ?_
    rintro e w1 ⟨rfl, rfl⟩
    clear FI
    go_wp2
    go_ret
    exact ⟨rfl, HS.out⟩
  · rw [p1] at FI
    rw [p2] at ok ⊢
    simp only at ok ⊢
    obtain ⟨ao, c, rfl, hz⟩ := ownsRow_form h.own
    obtain ⟨g, rfl⟩ := hz.resolve_left (by omega)
    have c3 := (al_at h.own hi).2.2.2.2
    have i0 : (0 : Int) ≤ (i : Int) := by omega
    have i1 : (i : Int) < (L.length : Int) := by omega
    have i2 : ¬ (i : Int) < 0 := by omega
    by_cases ho : L[i].acked = false
    · simp only [ho, Bool.not_false, if_true] at ok ⊢
      rw [turn_place h.ok.once hi p3] at ok ⊢
      have f3 := frozen_ownA h.own (i * 5 + 4)
      obtain ⟨q1, q2, q3⟩ := h.put (k := 4) (y := { L[i] with acked := true }) (x := .bool true) hi (by omega) rfl
      have TI := Hid.intro (refTidy16_any b _ (L.set i { L[i] with acked := true }) u _ ⟨q1, by rw [List.length_set]; exact q2⟩ (by rw [List.length_set]; exact hf))
      have FN : Hid (∀ (w2 : World) (v' : Value), (∀ k, v'.ownBlock = some k → (w.setCell ⟨g, i * 5 + 4, none⟩ (.bool true)).heap.size ≤ k) → RawR w2 b v' (tidyA (L.set i { L[i] with acked := true })) u → Chg (fun k => k = b) (w.setCell ⟨g, i * 5 + 4, none⟩ (.bool true)) w2 → LeftG (PR b (tidyA (L.set i { L[i] with acked := true })) u) S w w2) := fun w2 v' z1 z2 z3 =>
        po_left h (q3.trans z3 (fun k e _ => by rw [e]; exact h.inB)) z2.head z2.own (fun k hk => .inr (Nat.le_trans q3.size (z1 k hk))) ok
      rw [ho] at c3
      clear h p1 p2 p3 p4 hz ok ho hf HS q1 q2 q3
      generalize tidyA (L.set i { L[i] with acked := true }) = M at *
      clear hi
      generalize L.length = n at *
      go_enter Try.func20, Try.ntmps20
      go_wp2_with fail
      refine FI.out.mono ?_
      rintro e w1 ⟨rfl, rfl⟩
      clear FI
      go_wp2_with fail
      refine TI.out.mono ?_
      rintro e w2 ⟨rfl, v', z1, z2, z3⟩
      have FIN := Hid.intro (FN.out w2 v' z1 z2 z3)
      clear TI FN z1 z2 z3 c3 f3 k0
      go_wp2
      go_ret
      exact ⟨rfl, FIN.out⟩
    · have ho' : L[i].acked = true := by simpa using ho
      simp only [ho', Bool.not_true, Bool.false_eq_true, if_false] at ok ⊢
      rw [ho'] at c3
      clear h p1 p2 p3 p4 hz ok ho ho' hf hi
      generalize L.length = n at *
      go_enter Try.func20, Try.ntmps20
      go_wp2_with fail
      refine FI.out.mono ?_
      rintro e w1 ⟨rfl, rfl⟩
      clear FI
      go_wp2
      go_ret
      exact ⟨rfl, HS.out⟩

theorem refDrop16_any (b : Nat) (bed : Int) (S : Nat → Prop) (L : List Al) (u : Int) (w : World) (h : PR b L u S w) :
    Calls Try.prog 21 #[.pointer (some ⟨b, 0, none⟩), .int .i64 bed] w fun e w' => e = .returned (.int .i64 ((L.length : Int) - ((dropA L bed).length : Int))) ∧ LeftG (PR b (dropA L bed) u) S w w' := by
  obtain ⟨v, h⟩ := h
  refine (refDrop16_raw b bed v L u w h.rawR h.ok.few).mono ?_
  rintro e w' ⟨rfl, v', z1, z2, z3⟩
  exact ⟨rfl, po_left h (z3.mono (fun k e _ => by rw [e]; exact h.inB)) z2.head z2.own (fun k hk => .inr (z1 k hk)) (drop_ok h.ok bed)⟩

end Go.Proofs.Ytbeeigfcchjdlaa
