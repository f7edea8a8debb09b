/- A list of acts of layer 8 among a law's arguments: structs that hold a frame. -/
import Derived.Test.YteacdckfnmjojaaDoorStructArg
import Derived.Test.YteacdckfnmjojaaDoorMSnA
namespace Go.Proofs.YteacdckfnmjojaaDoor
open Go.ChangeShapes Go.WideShapes Go.ChangeAt Go.RowKit Go.Deep
open Bt

/-- A list of structs, each as its cells. -/
theorem open_cells {H : Type} {enc : TypeId × Value → H} {P : Program} {w : World} {base : Nat} {sp : Nat → Bool} {held : Bool} {t e : TypeId} {C : Nat} {a : Option Addr} {len cap : Nat} {fuel : Nat} {x : DataW H × List MemPlace}
    (ht : P.underlying t = some (.slice e)) (hC : P.cellsOf e = C) (hpos : 0 < C)
    (h : DataW.trod enc P w base sp held fuel t [.slice a len cap] = some x) :
    len ≤ cap ∧ cap ≤ maxLen ∧ (a = none → cap = 0) ∧ (0 < len → ∃ b off n, a = some ⟨b, off, none⟩ ∧ ∀ i, i < len → ∃ cs y, cs.length = C ∧ (∀ j, j < C → w.cell? ⟨b, off + (i * C + j), none⟩ = cs[j]?) ∧ DataW.trod enc P w base sp held n e cs = some y) := by
  rcases open_slice ht h with ⟨h0, _⟩ | ⟨ad, l, c, m, n, D, Pl, h0, hb, hl, hm, hmm, _, hx⟩
  · simp at h0
    obtain ⟨rfl, rfl, rfl⟩ := h0
    exact ⟨Nat.le_refl _, Nat.zero_le _, fun _ => rfl, fun h => absurd h (by omega)⟩
  · simp at h0
    obtain ⟨rfl, rfl, rfl⟩ := h0
    have hlm : len ≤ m := by rw [hmm]; split <;> omega
    refine ⟨hl, hm, (fun h => by cases h), fun hp => ?_⟩
    obtain ⟨b, off, spot⟩ := ad
    have hsp : spot = none := by
      obtain ⟨cs', h1, _⟩ := hx 0 (by omega)
      obtain ⟨_, hlen, hcell⟩ := World.cells?_some h1
      rw [hC] at hlen hcell
      have h2 := hcell 0 hpos
      rw [List.getElem?_eq_getElem (by omega)] at h2
      simpa [Addr.add] using World.cell?_spot h2
    subst hsp
    refine ⟨b, off, n, rfl, fun i hi => ?_⟩
    obtain ⟨cs', h1, h2⟩ := hx i (by omega)
    obtain ⟨_, hlen, hcell⟩ := World.cells?_some h1
    rw [hC] at hlen hcell
    refine ⟨cs', _, hlen, fun j hj => ?_, h2⟩
    have e1 := hcell j hj
    rw [add_add, add_plain] at e1
    exact e1

/-- An act: its kind, its number, its bytes, its frame. -/
structure Act8 where
  kind : Int
  n : Int
  bs : List Nat
  f : FrV

/-- What is known of an act that came in. -/
def Act8.Wf (x : Act8) : Prop := Byt x.bs ∧ Byt x.f.data ∧ (-9223372036854775808 ≤ x.n ∧ x.n ≤ 9223372036854775807)

theorem num_range8 {p : Int} (h : (Lit.int .i64 p).wf = true) : -9223372036854775808 ≤ p ∧ p ≤ 9223372036854775807 := by
  simpa [Lit.wf, IntKind.min, IntKind.max, IntKind.signed, IntKind.bits] using h

/-- One act's cells. -/
def ActAt8 (w : World) (b o : Nat) (x : Act8) (a c : Option Addr × Nat) : Prop :=
  w.cell? ⟨b, o, none⟩ = some (.int .i64 x.kind) ∧ w.cell? ⟨b, o + 1, none⟩ = some (.int .i64 x.n) ∧ w.cell? ⟨b, o + 2, none⟩ = some (.slice a.1 x.bs.length a.2) ∧
  w.cell? ⟨b, o + 3, none⟩ = some (.int .i64 x.f.tx) ∧ w.cell? ⟨b, o + 4, none⟩ = some (.int .i64 x.f.sq) ∧ w.cell? ⟨b, o + 5, none⟩ = some (.int .i64 x.f.an) ∧ w.cell? ⟨b, o + 6, none⟩ = some (.int .i64 x.f.rs) ∧
  w.cell? ⟨b, o + 7, none⟩ = some (.int .i64 x.f.kd) ∧ w.cell? ⟨b, o + 8, none⟩ = some (.slice c.1 x.f.data.length c.2) ∧
  Reads w a.1 x.bs ∧ Room a.1 a.2 x.bs.length ∧ Reads w c.1 x.f.data ∧ Room c.1 c.2 x.f.data.length

/-- A slice that begins at ao reads as acts. -/
def ActsAt8 (w : World) (ao : Option Addr) (l : List Act8) : Prop :=
  0 < l.length → ∃ b off, ao = some ⟨b, off, none⟩ ∧ ∀ i, (hi : i < l.length) → ∃ a c, ActAt8 w b (off + i * 9) l[i] a c

set_option maxRecDepth 100000 in
theorem act_cells {H : Type} {enc : TypeId × Value → H} {w : World} {base n : Nat} {held : Bool} {b o : Nat} {cs : List Value} {y : DataW H × List MemPlace} (hl : cs.length = 9) (hc : ∀ j, j < 9 → w.cell? ⟨b, o + j, none⟩ = cs[j]?)
    (h : DataW.trod enc Tryd.prog w base (fun _ => true) held n 48 cs = some y) : ∃ q : Act8 × (Option Addr × Nat) × (Option Addr × Nat), ActAt8 w b o q.1 q.2.1 q.2.2 ∧ q.1.Wf := by
  match cs, hl with
  | [v0, v1, v2, v3, v4, v5, v6, v7, v8], _ =>
    obtain ⟨xs, m, _, _, _, hlen, hg⟩ := DataW.trod_struct Tryd.underlying48 h
    have g0 := hg 0 _ rfl
    have g1 := hg 1 _ rfl
    have g2 := hg 2 _ rfl
    have g3 := hg 3 _ rfl
    clear hg
    have z0 : Tryd.prog.cellsOf 39 = 6 := by kernel_rfl
    have z1 : Tryd.prog.cellsOf 3 = 1 := by kernel_rfl
    have z2 : Tryd.prog.cellsOf 37 = 1 := by kernel_rfl
    match xs, hlen with
    | [y0, y1, y2, y3], _ =>
      simp [z0, z1, z2] at g0 g1 g2 g3
      obtain ⟨ys, m', _, _, _, hlen', hg'⟩ := DataW.trod_struct Tryd.underlying39 g3
      have e0 := hg' 0 _ rfl
      have e1 := hg' 1 _ rfl
      have e2 := hg' 2 _ rfl
      have e3 := hg' 3 _ rfl
      have e4 := hg' 4 _ rfl
      have e5 := hg' 5 _ rfl
      clear hg'
      match ys, hlen' with
      | [u0, u1, u2, u3, u4, u5], _ =>
        simp [z1, z2] at e0 e1 e2 e3 e4 e5
        obtain ⟨k, q0, _, _⟩ := DataW.trod_int Tryd.underlying3 g0
        obtain ⟨nn, q1, _, wf1⟩ := DataW.trod_int Tryd.underlying3 g1
        obtain ⟨ao, la, ca, za, rfl, hza⟩ := open_bytes_cell g2
        obtain ⟨tx, q3, _, _⟩ := DataW.trod_int Tryd.underlying3 e0
        obtain ⟨sq, q4, _, _⟩ := DataW.trod_int Tryd.underlying3 e1
        obtain ⟨an, q5, _, _⟩ := DataW.trod_int Tryd.underlying3 e2
        obtain ⟨rs, q6, _, _⟩ := DataW.trod_int Tryd.underlying3 e3
        obtain ⟨kd, q7, _, _⟩ := DataW.trod_int Tryd.underlying3 e4
        obtain ⟨co, lc, cc, zc, rfl, hzc⟩ := open_bytes_cell e5
        simp only [List.cons.injEq, and_true] at q0 q1 q3 q4 q5 q6 q7
        subst q0 q1 q3 q4 q5 q6 q7
        obtain ⟨bs, rfl, hb, hr⟩ := hza.bytes
        obtain ⟨ds, rfl, hd, hq⟩ := hzc.bytes
        exact ⟨(⟨k, nn, bs, ⟨tx, sq, an, rs, kd, ds⟩⟩, (ao, ca), (co, cc)), ⟨hc 0 (by omega), hc 1 (by omega), hc 2 (by omega), hc 3 (by omega), hc 4 (by omega), hc 5 (by omega), hc 6 (by omega), hc 7 (by omega), hc 8 (by omega), hr, ⟨hza.none_cap, hza.le_cap⟩, hq, ⟨hzc.none_cap, hzc.le_cap⟩⟩, hb, hd, num_range8 wf1⟩

set_option maxRecDepth 100000 in
/-- A list of acts that came in. -/
theorem open_acts {H : Type} {enc : TypeId × Value → H} {w : World} {base : Nat} {held : Bool} {a : Option Addr} {len cap : Nat} {d : DataW H} {p : List MemPlace}
    (h : DataW.Trod enc Tryd.prog w base (fun _ => true) held 26 (.slice a len cap) d p) :
    ∃ (l : List Act8), l.length = len ∧ (∀ x ∈ l, x.Wf) ∧ ActsAt8 w a l ∧ len ≤ maxLen := by
  obtain ⟨fuel, hf⟩ := h
  obtain ⟨h1, h2, h3, h4⟩ := open_cells Tryd.underlying26 (C := 9) (by kernel_rfl) (by decide) hf
  by_cases h0 : 0 < len
  · obtain ⟨b, off, n, rfl, hc⟩ := h4 h0
    have each : ∀ i, i < len → ∃ q : Act8 × (Option Addr × Nat) × (Option Addr × Nat), ActAt8 w b (off + i * 9) q.1 q.2.1 q.2.2 ∧ q.1.Wf := fun i hi => by
      obtain ⟨cs, y, hl, hcell, ht⟩ := hc i hi
      exact act_cells hl (fun j hj => by rw [Nat.add_assoc]; exact hcell j hj) ht
    haveI : Inhabited Act8 := ⟨⟨0, 0, [], ⟨0, 0, 0, 0, 0, []⟩⟩⟩
    obtain ⟨q, hq⟩ := choose_lt each
    refine ⟨(List.range len).map (fun i => (q i).1), by simp, fun x hx => ?_, fun _ => ⟨b, off, rfl, fun i hi => ?_⟩, by omega⟩
    · obtain ⟨i, hi, rfl⟩ := List.mem_map.1 hx
      exact (hq i (List.mem_range.1 hi)).2
    · have hi' : i < len := by simpa using hi
      simp only [List.getElem_map, List.getElem_range]
      exact ⟨_, _, (hq i hi').1⟩
  · exact ⟨[], (by simp; omega), (fun x hx => by cases hx), (fun hp => absurd hp (by simp)), by omega⟩

end Go.Proofs.YteacdckfnmjojaaDoor
