/- The library's sort, over a row of alarms of one's own: they come in order. -/
import Derived.Test.YtbeeigfcchjdlaaPnCmp
namespace Go.Proofs.Ytbeeigfcchjdlaa
open Go.RowKit Go.Sort
open Pn

theorem flatK_acells (d : Array Al) : (flatK acell 5 d).toList = acells d.toList := by
  have hs : (flatK acell 5 d).toList.length = (acells d.toList).length := by
    rw [Array.length_toList, size_flatK, acells_length, Array.length_toList]
  refine List.ext_getElem hs fun t h1 h2 => ?_
  rw [Array.length_toList, size_flatK] at h1
  have e1 := get_flatK acell 5 d t h1
  rw [getElem!_pos _ t (by rw [size_flatK]; exact h1)] at e1
  rw [Array.getElem_toList, e1]
  have hi : t / 5 < d.toList.length := by rw [Array.length_toList]; omega
  have hj : t % 5 < 5 := Nat.mod_lt _ (by decide)
  have e2 := acells_at d.toList hi hj
  rw [show t / 5 * 5 + t % 5 = t by omega, List.getElem?_eq_getElem h2] at e2
  have hk : (acell d[t / 5]!).length = 5 := rfl
  rw [getElem!_pos (acell d[t / 5]!) (t % 5) (by rw [hk]; exact hj)]
  rw [getElem!_pos d (t / 5) (by simpa using hi)]
  rw [List.getElem?_eq_getElem (by exact hj)] at e2
  have e3 := Option.some.inj e2
  rw [e3]
  rfl

theorem heap_sortedA {w : World} {g n : Nat} {os : Array Obj} {cur : Array Value} {e : TypeId} {fr : Nat × Nat} (F : Array Value) (hb : w.heap[g]? = some (.cells cur e fr)) :
    (grow (putRow id (Sort.ahead w n) g 0 F) os).heap[g]? = some (.cells (putCells id 0 F cur) e fr) := by
  have hg : g < w.heap.size := (Array.getElem?_eq_some_iff.1 hb).1
  show ((putRow id (Sort.ahead w n) g 0 F).heap ++ os)[g]? = _
  rw [Array.getElem?_append_left (by simpa using hg)]
  simp [putRow, mapBlock, Sort.ahead, Array.getElem?_modify, hb, onCells]

theorem chg_sortedA {w : World} {g n : Nat} {os : Array Obj} (F : Array Value) : Chg (fun k => k = g) w (grow (putRow id (Sort.ahead w n) g 0 F) os) := by
  refine ⟨rfl, rfl, rfl, ?_, fun k hk hne => ?_⟩
  · show w.heap.size ≤ ((putRow id (Sort.ahead w n) g 0 F).heap ++ os).size
    simp
  · show ((putRow id (Sort.ahead w n) g 0 F).heap ++ os)[k]? = _
    rw [Array.getElem?_append_left (by simpa using hk)]
    have : g ≠ k := fun e => hne e.symm
    simp [putRow, mapBlock, Sort.ahead, Array.getElem?_modify, this]

theorem take_putCellsA (cur F : Array Value) (h : F.size ≤ cur.size) : (putCells id 0 F cur).toList.take F.size = F.toList := by
  apply List.ext_getElem?
  intro j
  by_cases hj : j < F.size
  · rw [List.getElem?_take_of_lt hj, Array.getElem?_toList]
    simp [putCells, hj, show j < cur.size by omega]
  · rw [List.getElem?_take_eq_none (by omega), List.getElem?_eq_none (by simp; omega)]

theorem owns_sortedA {w : World} {e : TypeId} {sz g n c m : Nat} {xs : List Value} {os : Array Obj} (h : w.ownsRow 0 e sz (.slice (some ⟨g, 0, none⟩) n c) n xs) (F : Array Value) (hF : F.size = n * sz) :
    (grow (putRow id (Sort.ahead w m) g 0 F) os).ownsRow 0 e sz (.slice (some ⟨g, 0, none⟩) n c) n F.toList := by
  rcases h.2 with ⟨hv, _⟩ | ⟨g', cap, cur, hv, hb, hg, hn, hm, hs, ht⟩
  · cases hv
  · simp only [Value.slice.injEq, Option.some.injEq, Addr.mk.injEq] at hv
    obtain ⟨⟨rfl, _, _⟩, _, rfl⟩ := hv
    have hle : n * sz ≤ c * sz := Nat.mul_le_mul_right _ hn
    exact ⟨by rw [Array.length_toList]; exact hF, .inr ⟨g, c, _, rfl, hb, heap_sortedA F hg, hn, hm, by simp [putCells, hs], by rw [← hF]; exact take_putCellsA cur F (by omega)⟩⟩

theorem holds_owned {w : World} {e : TypeId} {g n c : Nat} {L : List Al} (hn : n = L.length) (h : w.ownsRow 0 e 5 (.slice (some ⟨g, 0, none⟩) n c) n (acells L)) : HoldsK acell 5 w g 0 L.toArray := by
  subst hn
  intro j hj
  rw [size_flatK, List.size_toArray] at hj
  refine ⟨?_, by rw [Nat.zero_add]; exact frozen_ownA h j⟩
  rw [Nat.zero_add, h.cellAt j hj]
  have e := flatK_acells L.toArray
  rw [List.toList_toArray] at e
  rw [← e]
  rw [getElem!_pos _ j (by rw [size_flatK, List.size_toArray]; exact hj), List.getElem?_eq_getElem (by rw [Array.length_toList, size_flatK, List.size_toArray]; exact hj)]
  rfl

theorem perm_sortedA {L : List Al} {d' : Array Al} (hp : PermIn 0 L.toArray.size L.toArray d') (hs : SortedIn (ltOf cmpA) 0 L.toArray.size d') (hn : (L.map keyA).Nodup) : d'.toList = sortA L := by
  obtain ⟨h1, _, h3⟩ := hp
  have e1 : d'.extract 0 L.toArray.size = d' := by rw [← h1]; simp
  have e2 : L.toArray.extract 0 L.toArray.size = L.toArray := by simp
  rw [e1, e2, List.toList_toArray] at h3
  refine sortA_only hn h3 ?_
  unfold Sorted
  rw [List.pairwise_iff_getElem]
  intro i j hi hj hij
  have q := hs i j (Nat.zero_le _) hij (by rw [← h1]; simpa using hj)
  rw [lt_cmpA] at q
  rw [getElem!_pos d' j (by simpa using hj), getElem!_pos d' i (by simpa using hi)] at q
  exact q

theorem cmp_lays (g : Nat) (L : List Al) (w : World) : CmpLays Try.prog 34 #[] acell 5 cmpA g 0 L.toArray.size w := by
  intro m os dk _ x y
  refine (pcompare_any x y _).mono ?_
  rintro e w' ⟨rfl, h⟩
  exact ⟨rfl, h⟩

theorem psort_any (g c : Nat) (L : List Al) (hl : L.length ≤ 40) (hn : (L.map keyA).Nodup) (w : World) (own : w.ownsRow 0 48 5 (.slice (some ⟨g, 0, none⟩) L.length c) L.length (acells L)) :
    Calls Try.prog 33 #[.slice (some ⟨g, 0, none⟩) L.length c, .func (.func 34) #[] #[]] w fun e w' => e = .returned (.tuple #[]) ∧ w'.ownsRow 0 48 5 (.slice (some ⟨g, 0, none⟩) L.length c) L.length (acells (sortA L)) ∧ Chg (fun k => k = g) w w' := by
  have eg : ∀ args w, (callFunc 34 args).run Try.prog w = .ok (.enter 34 args) w := enters_of Try.func34 (by kernel_rfl) rfl
  have hcon := AnyQ.slices_SortFunc sortShL 5 Try.isAgg48 Try.sizeOf48 acell (fun _ => rfl) acell_onecell cmpA swoA 34 #[] g 0 c L.toArray w eg (cmp_lays g L w) (holds_owned rfl own) (World.ownsRow.lt own g rfl).2 (by rw [List.size_toArray]; omega)
  change Calls Try.prog 33 _ _ _ at hcon
  rw [List.size_toArray] at hcon
  refine hcon.mono ?_
  rintro e w' ⟨rfl, d', n, os, hp, hs, rfl⟩
  have hd := perm_sortedA (by rw [List.size_toArray]; exact hp) (by rw [List.size_toArray]; exact hs) hn
  have hsz : d'.size = L.length := by have := hp.1; rwa [List.size_toArray] at this
  refine ⟨rfl, ?_, chg_sortedA _⟩
  have q := owns_sortedA (m := n) (os := os) own (flatK acell 5 d') (by rw [size_flatK, hsz])
  rw [flatK_acells, hd] at q
  exact q

theorem psort_none (v : Value) (fv : Value) (hv : v = .slice none 0 0) (w : World) :
    Calls Try.prog 33 #[v, fv] w fun e w' => e = .returned (.tuple #[]) ∧ w' = w := by
  subst hv
  exact AnyF.slices_SortFunc_none sortShL none 0 fv w

end Go.Proofs.Ytbeeigfcchjdlaa
