/- Maps of one's own, read as functions of their keys; no function of the program is named here. -/
import Derived.Test.YthhggjakenalpaaGreatDoorBase
import Derived.Maps.Keyed
import Derived.Maps.OwnSet
import Derived.DeepKeys4
namespace Go.Proofs.YthhggjakenalpaaGreatDoor
set_option maxRecDepth 100000
open Go.RowKit Go.WideMaps
open Go.ChangeMaps (setBlock heap_setBlock_same heap_setBlock_other)

/-- How plain keys are a map's. -/
structure KeyBy {κ : Type} (k : TypeId) (enc : κ → Value) (ok : κ → Prop) : Prop where
  law : Maps.Keyed Tryz.prog k
  key : ∀ x, ok x → ∃ l, keyOf Tryz.prog k (enc x) = some l
  inj : ∀ x y, enc x = enc y → x = y

/-- A map's block, and what each key has there. -/
def MapAt {κ : Type} (enc : κ → Value) (ok : κ → Prop) (w : World) (b : Nat) (f : κ → Option Value) : Prop :=
  ∃ es clock, w.heap[b]? = some (.map es clock) ∧ (∀ e ∈ es.toList, ∃ x, ok x ∧ e.key = enc x) ∧ (es.toList.map (·.key)).Nodup ∧ (∀ x v, f x = some v ↔ ∃ e ∈ es.toList, e.key = enc x ∧ e.val = v) ∧ (∀ e ∈ es.toList, e.born < clock) ∧ (es.toList.map (·.born)).Nodup

section
variable {κ : Type} {enc : κ → Value} {ok : κ → Prop} {k e t : TypeId} {w : World} {b : Nat} {f : κ → Option Value}

theorem MapAt.lt (h : MapAt enc ok w b f) : b < w.heap.size := by
  obtain ⟨es, clock, hb, _⟩ := h
  exact lt_of_heap hb

theorem MapAt.kept {w' : World} (h : MapAt enc ok w b f) (hb : w'.heap[b]? = w.heap[b]?) : MapAt enc ok w' b f := by
  obtain ⟨es, clock, h1, h2⟩ := h
  exact ⟨es, clock, hb.trans h1, h2⟩

theorem MapAt.congr {g : κ → Option Value} (h : MapAt enc ok w b f) (hf : ∀ x, f x = g x) : MapAt enc ok w b g := by
  obtain ⟨es, clock, h1, h2, h3, h4, h5⟩ := h
  exact ⟨es, clock, h1, h2, h3, fun x v => by rw [← hf x]; exact h4 x v, h5⟩

theorem mapAt_made (enc : κ → Value) (ok : κ → Prop) (w : World) : MapAt enc ok (w.alloc (.map #[] 0)) w.heap.size (fun _ => none) :=
  ⟨#[], 0, heap_alloc_new w _, (fun e he => by cases he), (by simp), fun x v => ⟨(fun h => by cases h), (fun ⟨e, he, _⟩ => by cases he)⟩, (fun e he => by cases he), (by simp)⟩

theorem key_idx {l : List MapEntry} (h : (l.map (·.key)).Nodup) {i j : Nat} (hi : i < l.length) (hj : j < l.length) (e : l[i].key = l[j].key) : i = j := by
  have hp := List.pairwise_iff_getElem.1 h
  rcases Nat.lt_trichotomy i j with q | q | q
  · exact absurd (by rw [List.getElem_map, List.getElem_map]; exact e) (hp i j (by simpa using hi) (by simpa using hj) q)
  · exact q
  · exact absurd (by rw [List.getElem_map, List.getElem_map]; exact e.symm) (hp j i (by simpa using hj) (by simpa using hi) q)

/-- 'm[k]', and 'v, ok := m[k]'. -/
theorem MapAt.look (c : Bool) (h : MapAt enc ok w b f) (K : KeyBy k enc ok) (ht : Tryz.prog.underlying t = some (.map k e)) {z : Value} (hz : (zeroValue e).run Tryz.prog w = .ok z w) {key : κ} (hok : ok key) :
    (Instr.lookup t (.map (some b)) (enc key) c).run Tryz.prog w = .ok (if c then .tuple #[(f key).getD z, .bool (f key).isSome] else (f key).getD z) w := by
  obtain ⟨es, clock, hb, hk, hn, hf, hbo, hbn⟩ := h
  obtain ⟨kl, hkey⟩ := K.key key hok
  have hk' : ∀ e ∈ es.toList, ∃ l, keyOf Tryz.prog k e.key = some l := fun e he => by
    obtain ⟨x, h1, h2⟩ := hk e he
    rw [h2]; exact K.key x h1
  rcases K.law.find w hkey es.toList hk' with ⟨h1, h2⟩ | ⟨j, e0, h1, h2, h3⟩
  · have e1 : f key = none := by
      cases q : f key with
      | none => rfl
      | some v =>
        obtain ⟨x, hx, h3, _⟩ := (hf key v).1 q
        exact absurd h3 (h2 x hx)
    rw [e1]
    simp [Instr.lookup, run_underlying ht, MapKept.run_getObj_map hb, K.law.check w _ hkey, h1, hz, Result.andThen]
  · have e1 : f key = some e0.val := (hf key e0.val).2 ⟨e0, List.mem_of_getElem? h2, h3, rfl⟩
    rw [e1]
    simp [Instr.lookup, run_underlying ht, MapKept.run_getObj_map hb, K.law.check w _ hkey, h1, Result.andThen]

theorem setBlock_chg {es es' : Array MapEntry} {clock clock' : Nat} (hb : w.heap[b]? = some (.map es clock)) : Chg (fun q => q = b) w (setBlock w b (.map es' clock')) :=
  ⟨rfl, rfl, rfl, by simp [setBlock], fun q _ hq => heap_setBlock_other hb _ hq⟩

variable [DecidableEq κ]

/-- 'm[k] = v'. -/
theorem MapAt.store (h : MapAt enc ok w b f) (K : KeyBy k enc ok) (ht : Tryz.prog.underlying t = some (.map k e)) {key : κ} (hok : ok key) (val : Value) :
    ∃ w', (Instr.mapUpdate t (.map (some b)) (enc key) val).run Tryz.prog w = .ok () w' ∧ MapAt enc ok w' b (fun x => if x = key then some val else f x) ∧ Chg (fun q => q = b) w w' ∧ w'.heap.size = w.heap.size := by
  obtain ⟨es, clock, hb, hk, hn, hf, hbo, hbn⟩ := h
  obtain ⟨kl, hkey⟩ := K.key key hok
  have hk' : ∀ e ∈ es.toList, ∃ l, keyOf Tryz.prog k e.key = some l := fun e he => by
    obtain ⟨x, h1, h2⟩ := hk e he
    rw [h2]; exact K.key x h1
  rcases K.law.find w hkey es.toList hk' with ⟨h1, h2⟩ | ⟨j, e0, h1, h2, h3⟩
  · refine ⟨setBlock w b (.map (es.push ⟨enc key, val, clock⟩) (clock + 1)), ?_, ⟨_, _, heap_setBlock_same hb _, ?_, ?_, ?_, ?_, ?_⟩, setBlock_chg hb, by simp [setBlock]⟩
    · simp [Instr.mapUpdate, run_underlying ht, MapKept.run_getObj_map hb, K.law.check w false hkey, h1, MapKept.run_setObj_map _ hb, Result.andThen, setBlock]
    · intro x hx
      simp only [Array.toList_push, List.mem_append, List.mem_singleton] at hx
      rcases hx with hx | rfl
      · exact hk x hx
      · exact ⟨key, hok, rfl⟩
    · rw [Array.toList_push, List.map_append, List.nodup_append]
      refine ⟨hn, by simp, fun a ha c hc => ?_⟩
      simp at hc
      obtain ⟨x, hx, rfl⟩ := List.mem_map.1 ha
      rw [hc]
      exact h2 x hx
    · intro x v
      simp only [Array.toList_push, List.mem_append, List.mem_singleton]
      by_cases q : x = key
      · subst q
        rw [if_pos rfl]
        constructor
        · intro h
          cases h
          exact ⟨_, .inr rfl, rfl, rfl⟩
        · rintro ⟨y, hy | rfl, h4, h5⟩
          · exact absurd h4 (h2 y hy)
          · rw [← h5]
      · rw [if_neg q, hf]
        constructor
        · rintro ⟨y, hy, h4⟩
          exact ⟨y, .inl hy, h4⟩
        · rintro ⟨y, hy | rfl, h4, h5⟩
          · exact ⟨y, hy, h4, h5⟩
          · exact absurd (K.inj _ _ h4).symm q
    · intro x hx
      simp only [Array.toList_push, List.mem_append, List.mem_singleton] at hx
      rcases hx with hx | rfl
      · exact Nat.lt_succ_of_lt (hbo x hx)
      · exact Nat.lt_succ_self _
    · rw [Array.toList_push, List.map_append, List.nodup_append]
      refine ⟨hbn, by simp, fun a ha c hc => ?_⟩
      simp at hc
      obtain ⟨x, hx, rfl⟩ := List.mem_map.1 ha
      have := hbo x hx
      omega
  · have hm0 : e0 ∈ es.toList := List.mem_of_getElem? h2
    have hj : j < es.toList.length := (List.getElem?_eq_some_iff.1 h2).1
    have hget : es.toList[j] = e0 := (List.getElem?_eq_some_iff.1 h2).2
    have hbits : (Instr.keyThatStays (enc key) (enc key)).run Tryz.prog w = .ok (enc key) w := K.law.stays w hkey
    have hmod : (es.modify j fun e => { e with key := enc key, val := val }).toList = es.toList.set j ⟨enc key, val, e0.born⟩ := by
      rw [Array.toList_modify]
      apply List.ext_getElem
      · simp
      · intro i q1 q2
        rw [List.getElem_modify, List.getElem_set]
        by_cases q : j = i
        · subst q; rw [if_pos rfl, if_pos rfl, hget]
        · rw [if_neg q, if_neg q]
    refine ⟨setBlock w b (.map (es.modify j fun e => { e with key := enc key, val := val }) clock), ?_, ⟨_, _, heap_setBlock_same hb _, ?_, ?_, ?_, ?_, ?_⟩, setBlock_chg hb, by simp [setBlock]⟩
    · have h2' : es[j]? = some e0 := by simpa using h2
      simp [Instr.mapUpdate, run_underlying ht, MapKept.run_getObj_map hb, K.law.check w false hkey, h1, MapKept.run_setObj_map _ hb, Result.andThen, setBlock, h2', h3, hbits]
    · intro x hx
      rw [hmod] at hx
      rcases List.mem_or_eq_of_mem_set hx with hx | rfl
      · exact hk x hx
      · exact ⟨key, hok, rfl⟩
    · rw [hmod, List.map_set]
      have e2 : (es.toList.map (·.key)).set j (enc key) = es.toList.map (·.key) := by
        apply List.ext_getElem
        · simp
        · intro i q1 q2
          rw [List.getElem_set]
          split
          · rename_i q; subst q; rw [List.getElem_map, hget, h3]
          · rfl
      show ((es.toList.map (·.key)).set j (enc key)).Nodup
      rw [e2]; exact hn
    · intro x v
      show (if x = key then some val else f x) = some v ↔ _
      rw [hmod]
      by_cases q : x = key
      · subst q
        rw [if_pos rfl]
        constructor
        · intro h
          cases h
          exact ⟨_, List.mem_set hj _, rfl, rfl⟩
        · rintro ⟨y, hy, h4, h5⟩
          obtain ⟨i, hi, rfl⟩ := List.mem_iff_getElem.1 hy
          have hi' : i < es.toList.length := by simpa using hi
          rw [List.getElem_set] at h4 h5
          by_cases q : j = i
          · rw [if_pos q] at h5; rw [← h5]
          · rw [if_neg q] at h4
            exact absurd (key_idx hn hj hi' (by rw [hget, h3, h4])) q
      · rw [if_neg q, hf]
        constructor
        · rintro ⟨y, hy, h4, h5⟩
          obtain ⟨i, hi, rfl⟩ := List.mem_iff_getElem.1 hy
          refine ⟨es.toList[i], ?_, h4, h5⟩
          refine List.mem_iff_getElem.2 ⟨i, by simpa using hi, ?_⟩
          rw [List.getElem_set, if_neg]
          intro e4
          subst e4
          rw [hget, h3] at h4
          exact q (K.inj _ _ h4).symm
        · rintro ⟨y, hy, h4, h5⟩
          rcases List.mem_or_eq_of_mem_set hy with hy | rfl
          · exact ⟨y, hy, h4, h5⟩
          · exact absurd (K.inj _ _ h4).symm q
    · intro x hx
      rw [hmod] at hx
      rcases List.mem_or_eq_of_mem_set hx with hx | rfl
      · exact hbo x hx
      · exact hbo e0 hm0
    · rw [hmod, List.map_set]
      have e2 : (es.toList.map (·.born)).set j e0.born = es.toList.map (·.born) := by
        apply List.ext_getElem
        · simp
        · intro i q1 q2
          rw [List.getElem_set]
          split
          · rename_i q; subst q; rw [List.getElem_map, hget]
          · rfl
      show ((es.toList.map (·.born)).set j e0.born).Nodup
      rw [e2]; exact hbn

/-- 'delete(m, k)'. -/
theorem MapAt.drop (h : MapAt enc ok w b f) (K : KeyBy k enc ok) (ht : Tryz.prog.underlying t = some (.map k e)) {key : κ} (hok : ok key) (ty : TypeId) :
    ∃ w', (Builtin.delete_ #[t, k] ty #[.map (some b), enc key]).run Tryz.prog w = .ok (.tuple #[]) w' ∧ MapAt enc ok w' b (fun x => if x = key then none else f x) ∧ Chg (fun q => q = b) w w' ∧ w'.heap.size = w.heap.size := by
  obtain ⟨es, clock, hb, hk, hn, hf, hbo, hbn⟩ := h
  obtain ⟨kl, hkey⟩ := K.key key hok
  have hk' : ∀ e ∈ es.toList, ∃ l, keyOf Tryz.prog k e.key = some l := fun e he => by
    obtain ⟨x, h1, h2⟩ := hk e he
    rw [h2]; exact K.key x h1
  rcases K.law.find w hkey es.toList hk' with ⟨h1, h2⟩ | ⟨j, e0, h1, h2, h3⟩
  · refine ⟨setBlock w b (.map es clock), ?_, ⟨es, clock, heap_setBlock_same hb _, hk, hn, fun x v => ?_, hbo, hbn⟩, setBlock_chg hb, by simp [setBlock]⟩
    · simp [Builtin.delete_, run_underlying ht, MapKept.run_getObj_map hb, K.law.check w _ hkey, h1, MapKept.run_setObj_map _ hb, Result.andThen, setBlock]
    · show (if x = key then none else f x) = some v ↔ _
      by_cases q : x = key
      · subst q
        rw [if_pos rfl]
        exact ⟨(fun h => by cases h), fun ⟨y, hy, h4, _⟩ => absurd h4 (h2 y hy)⟩
      · rw [if_neg q]; exact hf x v
  · have hm0 : e0 ∈ es.toList := List.mem_of_getElem? h2
    have hj : j < es.toList.length := (List.getElem?_eq_some_iff.1 h2).1
    have hget : es.toList[j] = e0 := (List.getElem?_eq_some_iff.1 h2).2
    have her : (es.eraseIdxIfInBounds j).toList = es.toList.eraseIdx j := by
      unfold Array.eraseIdxIfInBounds
      rw [dif_pos (by simpa using hj), Array.toList_eraseIdx]
    have hsub : (es.toList.eraseIdx j).Sublist es.toList := List.eraseIdx_sublist _ _
    refine ⟨setBlock w b (.map (es.eraseIdxIfInBounds j) clock), ?_, ⟨_, _, heap_setBlock_same hb _, ?_, ?_, ?_, ?_, ?_⟩, setBlock_chg hb, by simp [setBlock]⟩
    · simp [Builtin.delete_, run_underlying ht, MapKept.run_getObj_map hb, K.law.check w _ hkey, h1, MapKept.run_setObj_map _ hb, Result.andThen, setBlock]
    · intro x hx
      rw [her] at hx
      exact hk x (hsub.subset hx)
    · rw [her]; exact hn.sublist (hsub.map _)
    · intro x v
      show (if x = key then none else f x) = some v ↔ _
      rw [her]
      have hmem : ∀ y, y ∈ es.toList.eraseIdx j ↔ y ∈ es.toList ∧ y.key ≠ enc key := fun y => by
        rw [List.mem_eraseIdx_iff_getElem]
        constructor
        · rintro ⟨i, hi, hne, rfl⟩
          exact ⟨List.getElem_mem _, fun e4 => hne (key_idx hn hi hj (by rw [hget, h3, e4]))⟩
        · rintro ⟨hy, hne⟩
          obtain ⟨i, hi, rfl⟩ := List.mem_iff_getElem.1 hy
          refine ⟨i, hi, fun e4 => hne ?_, rfl⟩
          subst e4
          rw [hget]; exact h3
      by_cases q : x = key
      · subst q
        rw [if_pos rfl]
        exact ⟨(fun h => by cases h), fun ⟨y, hy, h4, _⟩ => absurd h4 ((hmem y).1 hy).2⟩
      · rw [if_neg q, hf]
        constructor
        · rintro ⟨y, hy, h4, h5⟩
          exact ⟨y, (hmem y).2 ⟨hy, fun e4 => q (K.inj _ _ (h4.symm.trans e4))⟩, h4, h5⟩
        · rintro ⟨y, hy, h4, h5⟩
          exact ⟨y, ((hmem y).1 hy).1, h4, h5⟩
    · intro x hx
      rw [her] at hx
      exact hbo x (hsub.subset hx)
    · rw [her]; exact hbn.sublist (hsub.map _)

variable {ops : Array Oper} {rest : List Oper} {o : Oper} {a : Act} {Q : Exit → Act → World → Prop}

/-- At the operation 'm[k] = v'. -/
theorem wpList_store_at (hg : o.guard = none) (m x v : Operand) (t : TypeId) (hop : o.op = Op.mapUpdate t m x v) (e : TypeId) (K : KeyBy k enc ok) (ht : Tryz.prog.underlying t = some (.map k e))
    (b : Nat) (f : κ → Option Value) (hm : a.eval m = .map (some b)) (h : MapAt enc ok w b f) (key : κ) (val : Value) (hx : a.eval x = enc key) (hv : a.eval v = val) (hok : ok key)
    (hK : ∀ w', MapAt enc ok w' b (fun x => if x = key then some val else f x) → Chg (fun q => q = b) w w' → w'.heap.size = w.heap.size → wpList Tryz.prog ops Q rest (a.put o.dst undef) w') :
    wpList Tryz.prog ops Q (o :: rest) a w := by
  refine wpList_plain hg fun K' hK' => ?_
  obtain ⟨w', hrun, r1, r2, r3⟩ := h.store K ht hok val
  unfold Oper.wp
  simp [execOp, hop, hm, hx, hv, hrun, Result.andThen]
  exact hK' _ _ (hK w' r1 r2 r3)

/-- At the operation 'delete(m, k)'. -/
theorem wpList_drop_at (hg : o.guard = none) (m x : Operand) (t k : TypeId) (hop : o.op = Op.call { callee := Callee.builtin Builtin.delete, args := #[m, x], argTypes := #[t, k] }) (e : TypeId) (K : KeyBy k enc ok) (ht : Tryz.prog.underlying t = some (.map k e))
    (b : Nat) (f : κ → Option Value) (hm : a.eval m = .map (some b)) (h : MapAt enc ok w b f) (key : κ) (hx : a.eval x = enc key) (hok : ok key)
    (hK : ∀ w', MapAt enc ok w' b (fun x => if x = key then none else f x) → Chg (fun q => q = b) w w' → w'.heap.size = w.heap.size → wpList Tryz.prog ops Q rest (a.put o.dst (.tuple #[])) w') :
    wpList Tryz.prog ops Q (o :: rest) a w := by
  refine wpList_plain hg fun K' hK' => ?_
  obtain ⟨w', hrun, r1, r2, r3⟩ := h.drop K ht hok o.type
  unfold Oper.wp
  simp [execOp, hop, resolve, invoke, builtin, hm, hx, hrun, Result.andThen]
  exact hK' _ _ (hK w' r1 r2 r3)

end

end Go.Proofs.YthhggjakenalpaaGreatDoor
