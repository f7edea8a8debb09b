/- What an act of a law does to a panel, plainly; an act's cells in the midst of the argument. -/
import Derived.Test.YtbeeigfcchjdlaaPnAlive
import Derived.Test.YtbeeigfcchjdlaaPnArg
namespace Go.Proofs.Ytbeeigfcchjdlaa
open Go.RowKit
open Pn

theorem ActsAt16.at {w : World} {a : Option Addr} {l : List Act16} (h : ActsAt16 w a l) {t : Nat} (ht : t < l.length) : ∃ ab off, a = some ⟨ab, off, none⟩ ∧ ActAt16 w ab (off + t * 4) l[t] := by
  obtain ⟨ab, off, e, hc⟩ := h (by omega)
  exact ⟨ab, off, e, hc t ht⟩

theorem ActAt16.lt {w : World} {b o : Nat} {x : Act16} (h : ActAt16 w b o x) : b < w.heap.size := cell_lt h.1

/-- What is held stays, and so do an argument's cells. -/
theorem act_one {P : (Nat → Prop) → World → Prop} {w w1 w2 : World} {b o : Nat} {x : Act16} (h : ActAt16 w b o x) (hb : Below w.heap.size w w1) (ho : One P (fun k => k < w1.heap.size) w1 w2) : ActAt16 w2 b o x := by
  have h1 := h.below hb
  have hl : b < w1.heap.size := h1.lt
  exact ⟨ho.cell h1.1 hl, ho.cell h1.2.1 hl, ho.cell h1.2.2.1 hl, ho.cell h1.2.2.2 hl⟩

theorem sorted_next {L : List Al} {k : Nat} (hk : k + 1 < (sortA L).length) : ltA (sortA L)[k + 1] (sortA L)[k] = false :=
  List.pairwise_iff_getElem.1 (sortA_sorted L) k (k + 1) (by omega) hk (by omega)

theorem ltA_next {y z : Al} (h : ltA z y = false) : (y.acked = true → z.acked = true) ∧ (y.acked = z.acked → ¬ z.kind < y.kind) := by
  rw [← Bool.not_eq_true, ltA_iff] at h
  unfold ackN at h
  cases e1 : y.acked <;> cases e2 : z.acked <;> rw [e1, e2] at h <;> simp at h ⊢
  all_goals omega

theorem once_two {L : List Al} (ok : OkA L) {m k : Nat} (hm : m < k) (hk : k < (sortA L).length) : keyA (sortA L)[m] ≠ keyA (sortA L)[k] := by
  have h := List.pairwise_iff_getElem.1 (sortA_once ok.once) m k (by rw [List.length_map]; omega) (by rw [List.length_map]; omega) hm
  rw [List.getElem_map, List.getElem_map] at h
  exact h

theorem live_one {L : List Al} (ok : OkA L) {k : Nat} (hk : k < (sortA L).length) : overA (sortA L)[k] = false := ok.live _ (sortA_mem.1 (List.getElem_mem hk))

theorem any_first (L : List Al) : (L.any fun x => !x.acked) = match sortA L with
    | [] => false
    | x :: _ => !x.acked := by
  have hp : (L.any fun x => !x.acked) = ((sortA L).any fun x => !x.acked) := by
    rw [Bool.eq_iff_iff, List.any_eq_true, List.any_eq_true]
    exact ⟨fun ⟨x, h, q⟩ => ⟨x, sortA_mem.2 h, q⟩, fun ⟨x, h, q⟩ => ⟨x, sortA_mem.1 h, q⟩⟩
  rw [hp]
  have hs := sortA_sorted L
  generalize sortA L = M at hs
  cases M with
  | nil => rfl
  | cons x r =>
    show (!x.acked || r.any fun x => !x.acked) = !x.acked
    cases q : x.acked with
    | false => rfl
    | true =>
      show (false || r.any fun x => !x.acked) = false
      rw [Bool.false_or, List.any_eq_false]
      intro y hy
      rw [(ltA_next (List.rel_of_pairwise_cons hs hy)).1 q]
      decide

theorem drop_sort {L : List Al} (ok : OkA L) (bed : Int) : sortA (dropA L bed) = dropA (sortA L) bed := (sortA_filter ok.once (fun x => !decide (x.bed = bed))).symm

theorem drop_take {M : List Al} {bed : Int} {t : Nat} (h : t < M.length) : dropA (M.take (t + 1)) bed = dropA (M.take t) bed ++ (if decide (M[t].bed = bed) = true then [] else [M[t]]) := by
  unfold dropA
  rw [List.take_add_one, List.getElem?_eq_getElem h, List.filter_append]
  congr 1
  simp only [Option.toList_some]
  cases q : decide (M[t].bed = bed) <;> simp [q]

end Go.Proofs.Ytbeeigfcchjdlaa
