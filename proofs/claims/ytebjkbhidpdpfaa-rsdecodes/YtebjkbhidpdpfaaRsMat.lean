/- A table of bytes in memory of one's own: rows, and the slice of them. -/
import Derived.Test.YtebjkbhidpdpfaaBase
import Derived.Test.YtebjkbhidpdpfaaRsSolve
namespace Go.Proofs.Ytebjkbhidpdpfaa
open Go.RowKit
open Bt

theorem info_row : (Try.prog.info? 24).map (fun i => (i.zero, i.size, i.bytes)) = some (some (.slice none 0 0), 1, 24) := by kernel_rfl

/-- A row's bytes. -/
def rowL (n : Nat) (M : Nat → Nat → Nat) (r : Nat) : List Nat := (List.range n).map (M r)

theorem rowL_length (n : Nat) (M : Nat → Nat → Nat) (r : Nat) : (rowL n M r).length = n := by simp [rowL]

/-- A row as a value. -/
def sl (n : Nat) (g cp : Nat → Nat) (r : Nat) : Value := .slice (some ⟨g r, 0, none⟩) n (cp r)

theorem sl_block (n : Nat) (g cp : Nat → Nat) (r : Nat) : (sl n g cp r).ownBlock = some (g r) := rfl

/-- So many rows of so many bytes. -/
structure Mat (B : Nat) (w : World) (m : Value) (i n : Nat) (g cp : Nat → Nat) (M : Nat → Nat → Nat) : Prop where
  top : w.ownsRow 0 24 1 m i ((List.range i).map (sl n g cp))
  row : ∀ r, r < i → w.ownsRow 0 5 1 (sl n g cp r) n ((rowL n M r).map U)
  apart : ∀ r s, r < i → s < i → r ≠ s → g r ≠ g s
  newTop : ∀ k, m.ownBlock = some k → B ≤ k
  newRow : ∀ r, r < i → B ≤ g r

variable {B : Nat} {w : World} {m : Value} {i n : Nat} {g cp : Nat → Nat} {M : Nat → Nat → Nat}

theorem Mat.start (B : Nat) (w : World) (n : Nat) (g cp : Nat → Nat) (M : Nat → Nat → Nat) : Mat B w (.slice none 0 0) 0 n g cp M :=
  ⟨World.ownsRow_nil _ _ _ _, fun r hr => absurd hr (by omega), fun r s hr => absurd hr (by omega), nil_own _, fun r hr => absurd hr (by omega)⟩

theorem Mat.topApart (h : Mat B w m i n g cp M) {r : Nat} (hr : r < i) : m.ownBlock ≠ some (g r) := fun e =>
  rows_apart h.top (h.row r hr) (by decide) (g r) e rfl

theorem Mat.form (h : Mat B w m i n g cp M) (hi : 0 < i) : ∃ mb mc, m = .slice (some ⟨mb, 0, none⟩) i mc := by
  obtain ⟨ao, cap, e, h1⟩ := ownsRow_form h.top
  rcases h1 with h1 | ⟨b, rfl⟩
  · omega
  · exact ⟨b, cap, e⟩

theorem Mat.kept {S : Nat → Prop} {w' : World} (h : Mat B w m i n g cp M) (hc : Chg S w w') (hm : ∀ k, m.ownBlock = some k → ¬ S k) (hr : ∀ r, r < i → ¬ S (g r)) : Mat B w' m i n g cp M :=
  ⟨ownsRow_keep h.top fun k hk => hc.block k (ownsRow_lt h.top hk) (hm k hk),
    fun r hi => ownsRow_keep (h.row r hi) fun k hk => by
      have e : g r = k := by simpa [sl_block] using hk
      subst e
      exact hc.block _ (ownsRow_lt (h.row r hi) rfl) (hr r hi),
    h.apart, h.newTop, h.newRow⟩

theorem Mat.drew (h : Mat B w m i n g cp M) : Mat B w.drew m i n g cp M := h.kept ((Chg.refl (fun _ => False) w).drew) (fun _ _ => id) (fun _ _ => id)

theorem Mat.drewN (h : Mat B w m i n g cp M) (q : Nat) : Mat B (w.drewN q) m i n g cp M := h.kept ((Chg.refl (fun _ => False) w).drewN q) (fun _ _ => id) (fun _ _ => id)

theorem Mat.cellRow (h : Mat B w m i n g cp M) {r k : Nat} (hr : r < i) (hk : k < n) : w.cell? ⟨g r, k, none⟩ = some (U (M r k)) := by
  have := h.row r hr
  unfold sl at this
  rw [this.cellAt k (by omega)]
  simp [rowL, hk]

theorem Mat.frozenRow (h : Mat B w m i n g cp M) {r : Nat} (hr : r < i) (k : Nat) : w.frozen? ⟨g r, k, none⟩ = false := by
  have := h.row r hr
  unfold sl at this
  exact this.frozenAt k

theorem Mat.cellTop {mb mc : Nat} (h : Mat B w (.slice (some ⟨mb, 0, none⟩) i mc) i n g cp M) {r : Nat} (hr : r < i) : w.cell? ⟨mb, r, none⟩ = some (.slice (some ⟨g r, 0, none⟩) n (cp r)) := by
  rw [h.top.cellAt r (by omega)]
  simp [sl, hr]

theorem Mat.frozenTop {mb mc : Nat} (h : Mat B w (.slice (some ⟨mb, 0, none⟩) i mc) i n g cp M) (r : Nat) : w.frozen? ⟨mb, r, none⟩ = false := h.top.frozenAt r

/-- One byte turned. -/
def setM (r k v : Nat) (M : Nat → Nat → Nat) : Nat → Nat → Nat := fun s j => if s = r ∧ j = k then v else M s j

theorem Mat.set (h : Mat B w m i n g cp M) {r k v : Nat} (hr : r < i) : Mat B (w.setCell ⟨g r, k, none⟩ (U v)) m i n g cp (setM r k v M) := by
  refine ⟨ownsRow_setCell_other h.top (h.topApart hr) _, fun s hs => ?_, h.apart, h.newTop, h.newRow⟩
  by_cases e : s = r
  · subst e
    have h1 := h.row s hs
    unfold sl at h1 ⊢
    have h2 := (h1.stored k (U v)).1
    have e2 : ((rowL n M s).map U).set k (U v) = (rowL n (setM s k v M) s).map U := by
      apply List.ext_getElem
      · simp [rowL]
      · intro j h3 h4
        rw [List.getElem_set]
        simp only [rowL, List.getElem_map, List.getElem_range, setM, true_and]
        by_cases e : k = j
        · rw [if_pos e, if_pos e.symm]
        · rw [if_neg e, if_neg (fun e' => e e'.symm)]
    rw [e2] at h2
    exact h2
  · have e2 : rowL n (setM r k v M) s = rowL n M s := by
      unfold rowL setM
      refine List.map_congr_left (fun j _ => ?_)
      rw [if_neg (fun c => e c.1)]
    rw [e2]
    exact ownsRow_setCell_other (h.row s hs) (fun c => h.apart s r hs hr e (by simpa [sl_block] using c)) _

/-- Two rows exchanged. -/
def sw (c p : Nat) (f : Nat → Nat) : Nat → Nat := fun r => if r = c then f p else if r = p then f c else f r

theorem Mat.swap {mb mc c p : Nat} (h : Mat B w (.slice (some ⟨mb, 0, none⟩) i mc) i n g cp M) (hc : c < i) (hp : p < i) :
    Mat B ((w.setCell ⟨mb, c, none⟩ (.slice (some ⟨g p, 0, none⟩) n (cp p))).setCell ⟨mb, p, none⟩ (.slice (some ⟨g c, 0, none⟩) n (cp c))) (.slice (some ⟨mb, 0, none⟩) i mc) i n (sw c p g) (sw c p cp) (swapM c p M) := by
  have hpm : ∀ r, r < i → ∃ s, s < i ∧ sw c p g r = g s ∧ sw c p cp r = cp s ∧ ∀ k, swapM c p M r k = M s k := by
    intro r hr
    unfold sw swapM
    by_cases h1 : r = c
    · exact ⟨p, hp, by rw [if_pos h1], by rw [if_pos h1], fun k => by rw [if_pos h1]⟩
    · by_cases h2 : r = p
      · exact ⟨c, hc, by rw [if_neg h1, if_pos h2], by rw [if_neg h1, if_pos h2], fun k => by rw [if_neg h1, if_pos h2]⟩
      · exact ⟨r, hr, by rw [if_neg h1, if_neg h2], by rw [if_neg h1, if_neg h2], fun k => by rw [if_neg h1, if_neg h2]⟩
  refine ⟨?_, fun r hr => ?_, fun r s hr hs hne => ?_, h.newTop, fun r hr => ?_⟩
  · have h1 := (h.top.stored c (.slice (some ⟨g p, 0, none⟩) n (cp p))).1
    have h2 := (h1.stored p (.slice (some ⟨g c, 0, none⟩) n (cp c))).1
    have e : (((List.range i).map (sl n g cp)).set c (.slice (some ⟨g p, 0, none⟩) n (cp p))).set p (.slice (some ⟨g c, 0, none⟩) n (cp c)) = (List.range i).map (sl n (sw c p g) (sw c p cp)) := by
      apply List.ext_getElem
      · simp
      · intro j h3 h4
        rw [List.getElem_set, List.getElem_set]
        simp only [List.getElem_map, List.getElem_range, sl, sw]
        by_cases e1 : p = j
        · rw [if_pos e1]
          by_cases e2 : j = c
          · rw [if_pos e2, if_pos e2, e1, e2]
          · rw [if_neg e2, if_neg e2, if_pos e1.symm, if_pos e1.symm]
        · rw [if_neg e1]
          by_cases e2 : c = j
          · rw [if_pos e2, if_pos e2.symm, if_pos e2.symm]
          · have a1 : ¬ j = c := fun q => e2 q.symm
            have a2 : ¬ j = p := fun q => e1 q.symm
            simp only [if_neg e2, if_neg a1, if_neg a2]
    rw [e] at h2
    exact h2
  · obtain ⟨s, hs, e1, e2, e3⟩ := hpm r hr
    have e4 : sl n (sw c p g) (sw c p cp) r = sl n g cp s := by unfold sl; rw [e1, e2]
    have e5 : rowL n (swapM c p M) r = rowL n M s := by unfold rowL; exact List.map_congr_left (fun k _ => e3 k)
    rw [e4, e5]
    have ne : (sl n g cp s).ownBlock ≠ some mb := fun q => h.topApart hs (by rw [sl_block] at q; rw [q]; rfl)
    exact ownsRow_setCell_other (ownsRow_setCell_other (h.row s hs) ne _) ne _
  · have key : ∀ a b, a < i → b < i → g a = g b → a = b := fun a b ha hb e => Classical.byContradiction fun hn => h.apart a b ha hb hn e
    have hq : ∀ r, sw c p g r = g (if r = c then p else if r = p then c else r) := fun r => by
      unfold sw
      by_cases h1 : r = c
      · rw [if_pos h1, if_pos h1]
      · rw [if_neg h1, if_neg h1]
        by_cases h2 : r = p
        · rw [if_pos h2, if_pos h2]
        · rw [if_neg h2, if_neg h2]
    intro e
    rw [hq, hq] at e
    have l : ∀ r, r < i → (if r = c then p else if r = p then c else r) < i := fun r hr => by
      split
      · exact hp
      · split
        · exact hc
        · exact hr
    have := key _ _ (l r hr) (l s hs) e
    split at this <;> split at this <;> (try split at this) <;> (try split at this) <;> omega
  · obtain ⟨s, hs, e1, _⟩ := hpm r hr
    rw [e1]; exact h.newRow s hs

/-- A row more. -/
theorem Mat.push {w' : World} {m' : Value} {rb rc : Nat} (h : Mat B w m i n g cp M) (hr : w.ownsRow 0 5 1 (.slice (some ⟨rb, 0, none⟩) n rc) n ((rowL n M i).map U)) (hB : B ≤ rb) (hap : ∀ r, r < i → g r ≠ rb)
    (ht : w'.ownsRow 0 24 1 m' (i + 1) ((List.range i).map (sl n g cp) ++ [.slice (some ⟨rb, 0, none⟩) n rc]))
    (hc : Chg (fun k => m.ownBlock = some k) w w') (hm : ∀ k, m'.ownBlock = some k → B ≤ k) :
    Mat B w' m' (i + 1) n (fun r => if r = i then rb else g r) (fun r => if r = i then rc else cp r) M := by
  have hsl : ∀ r, r < i → sl n (fun r => if r = i then rb else g r) (fun r => if r = i then rc else cp r) r = sl n g cp r := by
    intro r hr; unfold sl; simp only [if_neg (Nat.ne_of_lt hr)]
  have hsi : sl n (fun r => if r = i then rb else g r) (fun r => if r = i then rc else cp r) i = .slice (some ⟨rb, 0, none⟩) n rc := by
    unfold sl; simp only [if_pos]
  refine ⟨?_, fun r hr' => ?_, fun r s hr' hs hne => ?_, hm, fun r hr' => ?_⟩
  · rw [List.range_succ, List.map_append, List.map_congr_left (fun r hr => hsl r (List.mem_range.1 hr)), List.map_cons, List.map_nil, hsi]
    exact ht
  · by_cases e : r = i
    · subst e
      rw [hsi]
      exact ownsRow_keep hr fun k hk => hc.block k (ownsRow_lt hr hk) (fun q => rows_apart h.top hr (by decide) k q hk)
    · have hlt : r < i := by omega
      rw [hsl r hlt]
      exact ownsRow_keep (h.row r hlt) fun k hk => hc.block k (ownsRow_lt (h.row r hlt) hk) (fun q => rows_apart h.top (h.row r hlt) (by decide) k q hk)
  · show (if r = i then rb else g r) ≠ (if s = i then rb else g s)
    split <;> split
    · omega
    · exact fun e => hap s (by omega) e.symm
    · exact hap r (by omega)
    · exact h.apart r s (by omega) (by omega) hne
  · show B ≤ if r = i then rb else g r
    split
    · exact hB
    · exact h.newRow r (by omega)

/-- What is told of a table is told of its places alone. -/
theorem Mat.congr {N : Nat → Nat → Nat} (h : Mat B w m i n g cp M) (e : ∀ r k, r < i → k < n → M r k = N r k) : Mat B w m i n g cp N :=
  ⟨h.top, fun r hr => by
    have e2 : rowL n N r = rowL n M r := List.map_congr_left (fun k hk => (e r k hr (List.mem_range.1 hk)).symm)
    rw [e2]; exact h.row r hr, h.apart, h.newTop, h.newRow⟩

end Go.Proofs.Ytebjkbhidpdpfaa
