/- A list of structs among a law's arguments, whose fields are one cell each: how its cells read. -/
import Derived.Test.YthhggjakenalpaaGreatDoorArgs
import Derived.Deep.Slices
import Derived.Deep.Fields
namespace Go.Proofs.YthhggjakenalpaaGreatDoor
set_option maxRecDepth 100000
open Go.ChangeShapes Go.WideShapes Go.ChangeAt Go.RowKit Go.Deep

theorem open_structs {H : Type} {enc : TypeId × Value → H} {P : Program} {w : World} {base : Nat} {sp : Nat → Bool} {held : Bool} {t e : TypeId} {fs : Array Field} {a : Option Addr} {len cap : Nat} {fuel : Nat} {x : DataW H × List MemPlace}
    (ht : P.underlying t = some (.slice e)) (he : P.underlying e = some (.struct fs)) (hone : ∀ (i : Nat) (f : Field), fs[i]? = some f → f.offset = i ∧ P.cellsOf f.type = 1) (hC : P.cellsOf e = fs.size) (hpos : 0 < fs.size)
    (h : DataW.trod enc P w base sp held fuel t [.slice a len cap] = some x) :
    len ≤ cap ∧ cap ≤ maxLen ∧ (a = none → cap = 0) ∧ (0 < len → ∃ b off n, a = some ⟨b, off, none⟩ ∧ ∀ i, i < len → ∀ (j : Nat) (f : Field), fs[j]? = some f → ∃ v y, w.cell? ⟨b, off + (i * fs.size + j), none⟩ = some v ∧ DataW.trod enc P w base sp held n f.type [v] = some y) := by
  rcases open_slice ht h with ⟨h0, _⟩ | ⟨ad, l, c, m, n, D, Pl, h0, hb, hl, hm, hmm, _, hx⟩
  · simp at h0
    obtain ⟨rfl, rfl, rfl⟩ := h0
    exact ⟨Nat.le_refl _, Nat.zero_le _, fun _ => rfl, fun h => absurd h (by omega)⟩
  · simp at h0
    obtain ⟨rfl, rfl, rfl⟩ := h0
    have hlm : len ≤ m := by rw [hmm]; split <;> omega
    refine ⟨hl, hm, (fun h => by cases h), fun hp => ?_⟩
    obtain ⟨b, off, spot⟩ := ad
    have hsp : spot = none := by
      obtain ⟨cs', h1, _⟩ := hx 0 (by omega)
      obtain ⟨_, hlen, hcell⟩ := World.cells?_some h1
      rw [hC] at hlen hcell
      have h2 := hcell 0 hpos
      rw [List.getElem?_eq_getElem (by omega)] at h2
      simpa [Addr.add] using World.cell?_spot h2
    subst hsp
    refine ⟨b, off, n - 1, rfl, fun i hi j f hf => ?_⟩
    obtain ⟨cs', h1, h2⟩ := hx i (by omega)
    obtain ⟨_, hlen, hcell⟩ := World.cells?_some h1
    rw [hC] at hlen hcell
    obtain ⟨xs, k, hk, _, _, hxl, hfs⟩ := DataW.trod_struct he h2
    have hk' : k = n - 1 := by omega
    subst hk'
    have hlt : j < fs.size := (Array.getElem?_eq_some_iff.1 hf).1
    obtain ⟨ho, hc1⟩ := hone j f hf
    have g := hfs j f hf
    rw [ho, hc1, take1_drop cs' j undef (by omega), List.getElem?_eq_getElem (by omega)] at g
    have e1 := hcell j hlt
    rw [add_add, add_plain, List.getElem?_eq_getElem (by omega)] at e1
    refine ⟨cs'.getD j undef, _, ?_, g⟩
    rw [e1]
    simp [List.getD, List.getElem?_eq_getElem (show j < cs'.length by omega)]

end Go.Proofs.YthhggjakenalpaaGreatDoor
