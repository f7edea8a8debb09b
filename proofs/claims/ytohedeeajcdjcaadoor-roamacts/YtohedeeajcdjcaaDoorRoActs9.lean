/- A list of acts of layer 9 among a law's arguments: structs that hold one that is seen. -/
import Derived.Test.YtohedeeajcdjcaaDoorStructArg
import Derived.Test.YtohedeeajcdjcaaDoorRoVal
namespace Go.Proofs.YtohedeeajcdjcaaDoor
open Go.ChangeShapes Go.WideShapes Go.ChangeAt Go.RowKit Go.Deep
open Bt

/-- A list of structs, each as its cells. -/
theorem open_cells {H : Type} {enc : TypeId × Value → H} {P : Program} {w : World} {base : Nat} {sp : Nat → Bool} {held : Bool} {t e : TypeId} {C : Nat} {a : Option Addr} {len cap : Nat} {fuel : Nat} {x : DataW H × List MemPlace}
    (ht : P.underlying t = some (.slice e)) (hC : P.cellsOf e = C) (hpos : 0 < C)
    (h : DataW.trod enc P w base sp held fuel t [.slice a len cap] = some x) :
    len ≤ cap ∧ cap ≤ maxLen ∧ (a = none → cap = 0) ∧ (0 < len → ∃ b off n, a = some ⟨b, off, none⟩ ∧ ∀ i, i < len → ∃ cs y, cs.length = C ∧ (∀ j, j < C → w.cell? ⟨b, off + (i * C + j), none⟩ = cs[j]?) ∧ DataW.trod enc P w base sp held n e cs = some y) := by
  rcases open_slice ht h with ⟨h0, _⟩ | ⟨ad, l, c, m, n, D, Pl, h0, hb, hl, hm, hmm, _, hx⟩
  · simp at h0
    obtain ⟨rfl, rfl, rfl⟩ := h0
    exact ⟨Nat.le_refl _, Nat.zero_le _, fun _ => rfl, fun h => absurd h (by omega)⟩
  · simp at h0
    obtain ⟨rfl, rfl, rfl⟩ := h0
    have hlm : len ≤ m := by rw [hmm]; split <;> omega
    refine ⟨hl, hm, (fun h => by cases h), fun hp => ?_⟩
    obtain ⟨b, off, spot⟩ := ad
    have hsp : spot = none := by
      obtain ⟨cs', h1, _⟩ := hx 0 (by omega)
      obtain ⟨_, hlen, hcell⟩ := World.cells?_some h1
      rw [hC] at hlen hcell
      have h2 := hcell 0 hpos
      rw [List.getElem?_eq_getElem (by omega)] at h2
      simpa [Addr.add] using World.cell?_spot h2
    subst hsp
    refine ⟨b, off, n, rfl, fun i hi => ?_⟩
    obtain ⟨cs', h1, h2⟩ := hx i (by omega)
    obtain ⟨_, hlen, hcell⟩ := World.cells?_some h1
    rw [hC] at hlen hcell
    refine ⟨cs', _, hlen, fun j hj => ?_, h2⟩
    have e1 := hcell j hj
    rw [add_add, add_plain] at e1
    exact e1

/-- An act: its kind, and what is seen. -/
structure Act9 where
  kind : Int
  s : Sen

/-- A slice that begins at ao reads as acts. -/
def ActAt9 (w : World) (b o : Nat) (x : Act9) : Prop :=
  w.cell? ⟨b, o, none⟩ = some (.int .i64 x.kind) ∧ w.cell? ⟨b, o + 1, none⟩ = some (.int .i64 x.s.tx) ∧ w.cell? ⟨b, o + 2, none⟩ = some (.int .i64 x.s.ant) ∧ w.cell? ⟨b, o + 3, none⟩ = some (.int .i64 x.s.rssi) ∧ w.cell? ⟨b, o + 4, none⟩ = some (.int .i64 x.s.last)

def ActsAt9 (w : World) (ao : Option Addr) (l : List Act9) : Prop :=
  0 < l.length → ∃ b off, ao = some ⟨b, off, none⟩ ∧ ∀ i, (hi : i < l.length) → ActAt9 w b (off + i * 5) l[i]

set_option maxRecDepth 100000 in
theorem act_cells9 {H : Type} {enc : TypeId × Value → H} {w : World} {base n : Nat} {held : Bool} {b o : Nat} {cs : List Value} {y : DataW H × List MemPlace} (hl : cs.length = 5) (hc : ∀ j, j < 5 → w.cell? ⟨b, o + j, none⟩ = cs[j]?)
    (h : DataW.trod enc Tryd.prog w base (fun _ => true) held n 43 cs = some y) : ∃ q : Act9, ActAt9 w b o q := by
  match cs, hl with
  | [v0, v1, v2, v3, v4], _ =>
    obtain ⟨xs, m, _, _, _, hlen, hg⟩ := DataW.trod_struct Tryd.underlying43 h
    have g0 := hg 0 _ rfl
    have g1 := hg 1 _ rfl
    clear hg
    have z0 : Tryd.prog.cellsOf 41 = 4 := by kernel_rfl
    have z1 : Tryd.prog.cellsOf 3 = 1 := by kernel_rfl
    match xs, hlen with
    | [y0, y1], _ =>
      simp [z0, z1] at g0 g1
      obtain ⟨ys, m', _, _, _, hlen', hg'⟩ := DataW.trod_struct Tryd.underlying41 g1
      have e0 := hg' 0 _ rfl
      have e1 := hg' 1 _ rfl
      have e2 := hg' 2 _ rfl
      have e3 := hg' 3 _ rfl
      clear hg'
      match ys, hlen' with
      | [u0, u1, u2, u3], _ =>
        simp [z1] at e0 e1 e2 e3
        obtain ⟨k, q0, _, _⟩ := DataW.trod_int Tryd.underlying3 g0
        obtain ⟨tx, q1, _, _⟩ := DataW.trod_int Tryd.underlying3 e0
        obtain ⟨an, q2, _, _⟩ := DataW.trod_int Tryd.underlying3 e1
        obtain ⟨rs, q3, _, _⟩ := DataW.trod_int Tryd.underlying3 e2
        obtain ⟨la, q4, _, _⟩ := DataW.trod_int Tryd.underlying3 e3
        simp only [List.cons.injEq, and_true] at q0 q1 q2 q3 q4
        subst q0 q1 q2 q3 q4
        exact ⟨⟨k, ⟨tx, an, rs, la⟩⟩, hc 0 (by omega), hc 1 (by omega), hc 2 (by omega), hc 3 (by omega), hc 4 (by omega)⟩

set_option maxRecDepth 100000 in
theorem open_acts {H : Type} {enc : TypeId × Value → H} {w : World} {base : Nat} {held : Bool} {a : Option Addr} {len cap : Nat} {d : DataW H} {p : List MemPlace}
    (h : DataW.Trod enc Tryd.prog w base (fun _ => true) held 24 (.slice a len cap) d p) : ∃ l : List Act9, l.length = len ∧ ActsAt9 w a l ∧ len ≤ maxLen := by
  obtain ⟨fuel, hf⟩ := h
  obtain ⟨h1, h2, _, h4⟩ := open_cells Tryd.underlying24 (C := 5) (by kernel_rfl) (by decide) hf
  rcases Nat.eq_zero_or_pos len with q | q
  · subst q
    exact ⟨[], rfl, (fun h0 => absurd h0 (by simp)), Nat.zero_le _⟩
  · obtain ⟨b, off, n, rfl, hx⟩ := h4 q
    have each : ∀ i, i < len → ∃ z : Act9, ActAt9 w b (off + i * 5) z := fun i hi => by
      obtain ⟨cs, y, hl, hc, hy⟩ := hx i hi
      exact act_cells9 hl (fun j hj => by rw [Nat.add_assoc]; exact hc j hj) hy
    have pick : ∀ i : Fin len, ∃ z : Act9, ActAt9 w b (off + i.val * 5) z := fun i => each i.val i.isLt
    refine ⟨List.ofFn (fun i => Classical.choose (pick i)), by simp, fun _ => ⟨b, off, rfl, fun i hi => ?_⟩, Nat.le_trans h1 h2⟩
    rw [List.getElem_ofFn]
    exact Classical.choose_spec (pick ⟨i, by simpa using hi⟩)

end Go.Proofs.YtohedeeajcdjcaaDoor
