/- A range over a map of one's own, whose rounds may delete; the order is whatever comes. No function of the program is named here. -/
import Derived.Test.YtcloneccfbcclaaMapL
import Derived.Maps.RangeWalk
namespace Go.Proofs.Ytcloneccfbcclaa
open Go.RowKit Go.WideMaps
open Go.ChangeMaps (setBlock heap_setBlock_same heap_setBlock_other)

/-- Block b is a map that reads as f, block r an iterator over it; 'left k': is k still to come? cnt: how many are. -/
def RngAt {κ : Type} (enc : κ → Value) (ok : κ → Prop) (w : World) (b r : Nat) (f : κ → Option Value) (left : κ → Bool) (cnt : Nat) : Prop :=
  ∃ es clock since seen c0, w.heap[b]? = some (.map es clock) ∧ (∀ e ∈ es.toList, ∃ x, ok x ∧ e.key = enc x) ∧ (es.toList.map (·.key)).Nodup ∧ (∀ x v, f x = some v ↔ ∃ e ∈ es.toList, e.key = enc x ∧ e.val = v) ∧ (∀ e ∈ es.toList, e.born < clock) ∧ (es.toList.map (·.born)).Nodup ∧
    w.heap[r]? = some (.mapIter (some b) since seen c0) ∧ (∀ e ∈ es.toList, e.born < since) ∧ since ≤ c0 ∧ since ≤ clock ∧ (leftOf es seen).size = cnt ∧ ∀ e ∈ es.toList, ∀ k, e.key = enc k → left k = !seen.contains e.born

section
variable {κ : Type} {enc : κ → Value} {ok : κ → Prop} {k e t : TypeId} {w w' : World} {b r : Nat} {f : κ → Option Value} {left : κ → Bool} {cnt : Nat}

theorem RngAt.map (h : RngAt enc ok w b r f left cnt) : MapAt enc ok w b f := by
  obtain ⟨es, clock, since, seen, c0, hb, hk, hn, hf, hbo, hbn, _⟩ := h
  exact ⟨es, clock, hb, hk, hn, hf, hbo, hbn⟩

theorem RngAt.ne (h : RngAt enc ok w b r f left cnt) : r ≠ b := by
  obtain ⟨es, clock, since, seen, c0, hb, _, _, _, _, _, hr, _⟩ := h
  intro e
  rw [e, hb] at hr
  cases hr

theorem RngAt.lt (h : RngAt enc ok w b r f left cnt) : r < w.heap.size := by
  obtain ⟨es, clock, since, seen, c0, hb, _, _, _, _, _, hr, _⟩ := h
  exact lt_of_heap hr

theorem RngAt.left_eq (h : RngAt enc ok w b r f left cnt) : w.rangeLeft b r = cnt := by
  obtain ⟨es, clock, since, seen, c0, hb, _, _, _, _, _, hr, _, _, _, hc, _⟩ := h
  simp only [World.rangeLeft, hb, hr]
  exact hc

theorem RngAt.kept (h : RngAt enc ok w b r f left cnt) (hb' : w'.heap[b]? = w.heap[b]?) (hr' : w'.heap[r]? = w.heap[r]?) : RngAt enc ok w' b r f left cnt := by
  obtain ⟨es, clock, since, seen, c0, hb, hk, hn, hf, hbo, hbn, hr, h1⟩ := h
  exact ⟨es, clock, since, seen, c0, hb'.trans hb, hk, hn, hf, hbo, hbn, hr'.trans hr, h1⟩

/-- 'range m'. -/
theorem MapAt.range (h : MapAt enc ok w b f) (ht : Try.prog.underlying t = some (.map k e)) :
    ∃ w' cnt, (Instr.range t (.map (some b))).run Try.prog w = .ok (.pointer (some ⟨w.heap.size, 0, none⟩)) w' ∧ RngAt enc ok w' b w.heap.size f (fun x => (f x).isSome) cnt ∧ Below w.heap.size w w' ∧ w'.heap.size = w.heap.size + 1 := by
  have hlt := h.lt
  obtain ⟨es, clock, hb, hk, hn, hf, hbo, hbn⟩ := h
  refine ⟨_, _, run_range_map w t k e b es clock ht hb, ⟨es, clock, clock, #[], clock, (Below.heap_alloc _ _ _ hlt).trans hb, hk, hn, hf, hbo, hbn, heap_alloc_new _ _, hbo, Nat.le_refl _, Nat.le_refl _, rfl, fun x hx y hy => ?_⟩, (Below.refl _ w).alloc (Nat.le_refl _) _, by simp⟩
  show (f y).isSome = _
  rw [(hf y x.val).2 ⟨x, hx, hy, rfl⟩]
  simp

/-- The step. -/
theorem RngAt.next [DecidableEq κ] (h : RngAt enc ok w b r f left cnt) (hi : ∀ x y, enc x = enc y → x = y) (ty : TypeId) :
    ((∀ x, (f x).isSome → left x = false) ∧ (Instr.next (.pointer (some ⟨r, 0, none⟩)) false ty).run Try.prog w = .ok (.tuple #[.bool false]) w) ∨
    ∃ x v w' cnt', ok x ∧ f x = some v ∧ left x = true ∧ (Instr.next (.pointer (some ⟨r, 0, none⟩)) false ty).run Try.prog w = .ok (.tuple #[.bool true, enc x, v]) w' ∧
      RngAt enc ok w' b r f (fun z => left z && !decide (z = x)) cnt' ∧ cnt' < cnt ∧ Chg (fun q => q = r) w w' ∧ w'.heap.size = w.heap.size ∧ (Instr.entry (.pointer (some ⟨r, 0, none⟩))).run Try.prog w' = .ok (.tuple #[enc x, v]) w' := by
  have hne := h.ne
  obtain ⟨es, clock, since, seen, c0, hb, hk, hn, hf, hbo, hbn, hr, hold, hsc, hsk, rfl, hl⟩ := h
  rcases run_next_at (P := Try.prog) w ty r b since c0 seen es clock hr hb hold hsc with ⟨h0, hrun⟩ | ⟨e, he, w1, hal, hrun⟩
  · refine Or.inl ⟨fun x hx => ?_, hrun⟩
    obtain ⟨v, hv⟩ := Option.isSome_iff_exists.1 hx
    obtain ⟨y, hy, h1, _⟩ := (hf x v).1 hv
    rw [hl y hy x h1, all_seen es seen h0 y hy]
    rfl
  · obtain ⟨hem, hes⟩ := mem_left he
    obtain ⟨x, hok, hx⟩ := hk e hem
    have hr1 : w1.heap[r]? = some (.mapIter (some b) since seen c0) := by rcases hal with rfl | rfl <;> exact hr
    have hb1 : w1.heap[b]? = some (.map es clock) := by rcases hal with rfl | rfl <;> exact hb
    have hset := MapKept.heap_set (o' := .mapIter (some b) since (seen.push e.born) clock) hr1
    have hb' : (setBlock w1 r (.mapIter (some b) since (seen.push e.born) clock)).heap[b]? = some (.map es clock) := (hset.2 b (fun e1 => hne e1.symm)).trans hb1
    rw [hx] at hrun
    refine Or.inr ⟨x, e.val, _, _, hok, (hf x e.val).2 ⟨e, hem, hx, rfl⟩, by rw [hl e hem x hx, hes]; rfl, hrun,
      ⟨es, clock, since, seen.push e.born, clock, hb', hk, hn, hf, hbo, hbn, hset.1, hold, hsk, hsk, rfl, fun y hy z hz => ?_⟩, left_shrinks es seen e he, ?_, ?_, ?_⟩
    · show (left z && !decide (z = x)) = _
      rw [hl y hy z hz, contains_push]
      by_cases q : z = x
      · subst q
        have e2 : y = e := by
          obtain ⟨i, hi1, rfl⟩ := List.mem_iff_getElem.1 hy
          obtain ⟨j, hj1, rfl⟩ := List.mem_iff_getElem.1 hem
          have := key_idx hn hi1 hj1 (hz.trans hx.symm)
          subst this
          rfl
        subst e2
        simp
      · have e2 : (y.born == e.born) = false := by
          cases q2 : (y.born == e.born) with
          | false => rfl
          | true =>
            have e3 := born_inj hbn hy hem (by simpa using q2)
            subst e3
            exact absurd (hi _ _ (hz.symm.trans hx)) q
        rw [e2]
        simp [q]
    · rcases hal with rfl | rfl <;> exact ⟨rfl, rfl, rfl, by simp [setBlock], fun i _ hi => hset.2 i hi⟩
    · rcases hal with rfl | rfl <;> simp [setBlock]
    · have := run_entry_at (P := Try.prog) _ r b since seen es clock e hset.1 hb' hem hbn
      rw [hx] at this
      exact this

/-- 'delete(m, k)' in the round. -/
theorem RngAt.drop [DecidableEq κ] (h : RngAt enc ok w b r f left cnt) (K : KeyBy k enc ok) (ht : Try.prog.underlying t = some (.map k e)) {key : κ} (hok : ok key) (ty : TypeId) :
    ∃ w' cnt', (Builtin.delete_ #[t, k] ty #[.map (some b), enc key]).run Try.prog w = .ok (.tuple #[]) w' ∧ RngAt enc ok w' b r (fun x => if x = key then none else f x) left cnt' ∧ cnt' ≤ cnt ∧ Chg (fun q => q = b) w w' ∧ w'.heap.size = w.heap.size := by
  have hne := h.ne
  obtain ⟨es, clock, since, seen, c0, hb, hk, hn, hf, hbo, hbn, hr, hold, hsc, hsk, rfl, hl⟩ := h
  obtain ⟨kl, hkey⟩ := K.key key hok
  have hk' : ∀ e ∈ es.toList, ∃ l, keyOf Try.prog k e.key = some l := fun e he => by
    obtain ⟨x, h1, h2⟩ := hk e he
    rw [h2]; exact K.key x h1
  have hsz : ∀ a : Array MapEntry, (leftOf a seen).size = (a.toList.filter fun e => !seen.contains e.born).length := fun a => by
    unfold leftOf
    rw [← Array.toList_filter, Array.length_toList]
  rcases K.law.find w hkey es.toList hk' with ⟨h1, h2⟩ | ⟨j, e0, h1, h2, h3⟩
  · refine ⟨setBlock w b (.map es clock), _, ?_, ⟨es, clock, since, seen, c0, heap_setBlock_same hb _, hk, hn, fun x v => ?_, hbo, hbn, (heap_setBlock_other hb _ hne).trans hr, hold, hsc, hsk, rfl, hl⟩, Nat.le_refl _, setBlock_chg hb, by simp [setBlock]⟩
    · simp [Builtin.delete_, run_underlying ht, MapKept.run_getObj_map hb, K.law.check w _ hkey, h1, MapKept.run_setObj_map _ hb, Result.andThen, setBlock]
    · show (if x = key then none else f x) = some v ↔ _
      by_cases q : x = key
      · subst q
        rw [if_pos rfl]
        exact ⟨(fun h => by cases h), fun ⟨y, hy, h4, _⟩ => absurd h4 (h2 y hy)⟩
      · rw [if_neg q]; exact hf x v
  · have hm0 : e0 ∈ es.toList := List.mem_of_getElem? h2
    have hj : j < es.toList.length := (List.getElem?_eq_some_iff.1 h2).1
    have hget : es.toList[j] = e0 := (List.getElem?_eq_some_iff.1 h2).2
    have her : (es.eraseIdxIfInBounds j).toList = es.toList.eraseIdx j := by
      unfold Array.eraseIdxIfInBounds
      rw [dif_pos (by simpa using hj), Array.toList_eraseIdx]
    have hsub : (es.toList.eraseIdx j).Sublist es.toList := List.eraseIdx_sublist _ _
    refine ⟨setBlock w b (.map (es.eraseIdxIfInBounds j) clock), _, ?_, ⟨es.eraseIdxIfInBounds j, clock, since, seen, c0, heap_setBlock_same hb _, fun x hx => hk x (hsub.subset (her ▸ hx)), by rw [her]; exact hn.sublist (hsub.map _), ?_, fun x hx => hbo x (hsub.subset (her ▸ hx)), by rw [her]; exact hbn.sublist (hsub.map _), (heap_setBlock_other hb _ hne).trans hr, fun x hx => hold x (hsub.subset (her ▸ hx)), hsc, hsk, rfl, fun x hx => hl x (hsub.subset (her ▸ hx))⟩, ?_, setBlock_chg hb, by simp [setBlock]⟩
    · simp [Builtin.delete_, run_underlying ht, MapKept.run_getObj_map hb, K.law.check w _ hkey, h1, MapKept.run_setObj_map _ hb, Result.andThen, setBlock]
    · intro x v
      show (if x = key then none else f x) = some v ↔ _
      rw [her]
      have hmem : ∀ y, y ∈ es.toList.eraseIdx j ↔ y ∈ es.toList ∧ y.key ≠ enc key := fun y => by
        rw [List.mem_eraseIdx_iff_getElem]
        constructor
        · rintro ⟨i, hi, hne, rfl⟩
          exact ⟨List.getElem_mem _, fun e4 => hne (key_idx hn hi hj (by rw [hget, h3, e4]))⟩
        · rintro ⟨hy, hne⟩
          obtain ⟨i, hi, rfl⟩ := List.mem_iff_getElem.1 hy
          refine ⟨i, hi, fun e4 => hne ?_, rfl⟩
          subst e4
          rw [hget]; exact h3
      by_cases q : x = key
      · subst q
        rw [if_pos rfl]
        exact ⟨(fun h => by cases h), fun ⟨y, hy, h4, _⟩ => absurd h4 ((hmem y).1 hy).2⟩
      · rw [if_neg q, hf]
        constructor
        · rintro ⟨y, hy, h4, h5⟩
          exact ⟨y, (hmem y).2 ⟨hy, fun e4 => q (K.inj _ _ (h4.symm.trans e4))⟩, h4, h5⟩
        · rintro ⟨y, hy, h4, h5⟩
          exact ⟨y, ((hmem y).1 hy).1, h4, h5⟩
    · rw [hsz, hsz, her]
      exact (hsub.filter _).length_le

theorem RngAt.congr {g : κ → Option Value} (h : RngAt enc ok w b r f left cnt) (hf : ∀ x, f x = g x) : RngAt enc ok w b r g left cnt := by
  obtain ⟨es, clock, since, seen, c0, hb, hk, hn, h4, h5⟩ := h
  exact ⟨es, clock, since, seen, c0, hb, hk, hn, fun x v => by rw [← hf x]; exact h4 x v, h5⟩

variable {ops : Array Oper} {rest : List Oper} {o : Oper} {a : Act} {Q : Exit → Act → World → Prop}

theorem wpList_range_map (hg : o.guard = none) (m : Operand) (t : TypeId) (hop : o.op = Op.range t m) (k e : TypeId) (ht : Try.prog.underlying t = some (.map k e)) (b : Nat) (f : κ → Option Value)
    (hm : a.eval m = .map (some b)) (h : MapAt enc ok w b f)
    (hK : ∀ w' cnt, RngAt enc ok w' b w.heap.size f (fun x => (f x).isSome) cnt → Below w.heap.size w w' → w'.heap.size = w.heap.size + 1 → wpList Try.prog ops Q rest (a.put o.dst (.pointer (some ⟨w.heap.size, 0, none⟩))) w') :
    wpList Try.prog ops Q (o :: rest) a w := by
  refine wpList_plain hg fun K' hK' => ?_
  obtain ⟨w', cnt, hrun, r1, r2, r3⟩ := h.range ht
  unfold Oper.wp
  simp [execOp, hop, hm, hrun, Result.andThen]
  exact hK' _ _ (hK w' cnt r1 r2 r3)

theorem wpList_next_map [DecidableEq κ] (hg : o.guard = none) (it : Operand) (hop : o.op = Op.next it false) (k : TypeId) (K : KeyBy k enc ok) (b r : Nat) (f : κ → Option Value) (left : κ → Bool) (cnt : Nat)
    (hit : a.eval it = .pointer (some ⟨r, 0, none⟩)) (h : RngAt enc ok w b r f left cnt)
    (hDone : (∀ x, (f x).isSome → left x = false) → wpList Try.prog ops Q rest (a.put o.dst (.tuple #[.bool false])) w)
    (hMore : ∀ (x : κ) (v : Value) (w' : World) (cnt' : Nat), ok x → f x = some v → left x = true → RngAt enc ok w' b r f (fun z => left z && !decide (z = x)) cnt' → cnt' < cnt → Chg (fun q => q = r) w w' → w'.heap.size = w.heap.size →
      (Instr.entry (.pointer (some ⟨r, 0, none⟩))).run Try.prog w' = .ok (.tuple #[enc x, v]) w' → wpList Try.prog ops Q rest (a.put o.dst (.tuple #[.bool true, enc x, v])) w') :
    wpList Try.prog ops Q (o :: rest) a w := by
  refine wpList_plain hg fun K' hK' => ?_
  unfold Oper.wp
  rcases h.next K.inj o.type with ⟨hl, hrun⟩ | ⟨x, v, w', cnt', h1, h2, h3, hrun, h4, h5, h6, h7, h8⟩
  · simp [execOp, hop, hit, hrun, Result.andThen]
    exact hK' _ _ (hDone hl)
  · simp [execOp, hop, hit, hrun, Result.andThen]
    exact hK' _ _ (hMore x v w' cnt' h1 h2 h3 h4 h5 h6 h7 h8)

theorem wpList_delete_map [DecidableEq κ] (hg : o.guard = none) (m x : Operand) (t k : TypeId) (hop : o.op = Op.call { callee := Callee.builtin Builtin.delete, args := #[m, x], argTypes := #[t, k] }) (e : TypeId) (K : KeyBy k enc ok) (ht : Try.prog.underlying t = some (.map k e))
    (b r : Nat) (f : κ → Option Value) (left : κ → Bool) (cnt : Nat) (hm : a.eval m = .map (some b)) (h : RngAt enc ok w b r f left cnt) (key : κ) (hx : a.eval x = enc key) (hok : ok key)
    (hK : ∀ w' cnt', RngAt enc ok w' b r (fun x => if x = key then none else f x) left cnt' → cnt' ≤ cnt → Chg (fun q => q = b) w w' → w'.heap.size = w.heap.size → wpList Try.prog ops Q rest (a.put o.dst (.tuple #[])) w') :
    wpList Try.prog ops Q (o :: rest) a w := by
  refine wpList_plain hg fun K' hK' => ?_
  obtain ⟨w', cnt', hrun, r1, r2, r3, r4⟩ := h.drop K ht hok o.type
  unfold Oper.wp
  simp [execOp, hop, resolve, invoke, builtin, hm, hx, hrun, Result.andThen]
  exact hK' _ _ (hK w' cnt' r1 r2 r3 r4)

end

end Go.Proofs.Ytcloneccfbcclaa
