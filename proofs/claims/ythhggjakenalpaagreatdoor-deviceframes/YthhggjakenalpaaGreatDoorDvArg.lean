/- A list of acts of layer 18 among a law's arguments: structs that hold a sample. -/
import Derived.Test.YthhggjakenalpaaGreatDoorStructArg
import Derived.Test.YthhggjakenalpaaGreatDoorCellsArg
import Derived.Test.YthhggjakenalpaaGreatDoorRcVal
import Derived.Test.YthhggjakenalpaaGreatDoorMDvB
namespace Go.Proofs.YthhggjakenalpaaGreatDoor
set_option maxRecDepth 100000
open Go.ChangeShapes Go.WideShapes Go.ChangeAt Go.RowKit Go.Deep
open Bt

/-- An act: its kind, its sample, its bytes. -/
structure Act18 where
  kind : Int
  s : Smp
  bs : List Nat

/-- One act's cells. -/
def ActAt18 (w : World) (b o : Nat) (x : Act18) (v : Value) : Prop :=
  w.cell? ⟨b, o, none⟩ = some (.int .i64 x.kind) ∧ w.cell? ⟨b, o + 1, none⟩ = some (.int .i64 x.s.kind) ∧ w.cell? ⟨b, o + 2, none⟩ = some (.int .i64 x.s.tick) ∧ w.cell? ⟨b, o + 3, none⟩ = some (.int .i64 x.s.value) ∧
  w.cell? ⟨b, o + 4, none⟩ = some v ∧ RwV (fun k => k < w.heap.size) w v x.bs

/-- A slice that begins at ao reads as acts. -/
def ActsAt18 (w : World) (ao : Option Addr) (l : List Act18) : Prop :=
  0 < l.length → ∃ b off, ao = some ⟨b, off, none⟩ ∧ ∀ i, (hi : i < l.length) → ∃ v, ActAt18 w b (off + i * 5) l[i] v

theorem acts_below {w w' : World} {ao : Option Addr} {l : List Act18} (h : ActsAt18 w ao l) (hb : Below w.heap.size w w') : ActsAt18 w' ao l := fun h0 => by
  obtain ⟨b, off, e, hc⟩ := h h0
  refine ⟨b, off, e, fun i hi => ?_⟩
  obtain ⟨v, x0, x1, x2, x3, x4, x5⟩ := hc i hi
  exact ⟨v, (hb.cell (cell_lt x0)).trans x0, (hb.cell (cell_lt x1)).trans x1, (hb.cell (cell_lt x2)).trans x2, (hb.cell (cell_lt x3)).trans x3, (hb.cell (cell_lt x4)).trans x4, (x5.kept (below_chg hb) (fun _ _ => id)).mono (fun k hk => Nat.lt_of_lt_of_le hk hb.size)⟩

set_option maxRecDepth 100000 in
theorem act_cells {H : Type} {enc : TypeId × Value → H} {w : World} {base n : Nat} {held : Bool} {b o : Nat} {cs : List Value} {y : DataW H × List MemPlace} (hl : cs.length = 5) (hc : ∀ j, j < 5 → w.cell? ⟨b, o + j, none⟩ = cs[j]?)
    (h : DataW.trod enc Tryz.prog w base (fun _ => true) held n 44 cs = some y) : ∃ q : Act18 × Value, ActAt18 w b o q.1 q.2 ∧ Byt q.1.bs := by
  match cs, hl with
  | [v0, v1, v2, v3, v4], _ =>
    obtain ⟨xs, m, _, _, _, hlen, hg⟩ := DataW.trod_struct Tryz.underlying44 h
    have g0 := hg 0 _ rfl
    have g1 := hg 1 _ rfl
    have g2 := hg 2 _ rfl
    clear hg
    have z0 : Tryz.prog.cellsOf 35 = 3 := by kernel_rfl
    have z1 : Tryz.prog.cellsOf 3 = 1 := by kernel_rfl
    have z2 : Tryz.prog.cellsOf 42 = 1 := by kernel_rfl
    match xs, hlen with
    | [y0, y1, y2], _ =>
      simp [z0, z1, z2] at g0 g1 g2
      obtain ⟨ys, m', _, _, _, hlen', hg'⟩ := DataW.trod_struct Tryz.underlying35 g1
      have e0 := hg' 0 _ rfl
      have e1 := hg' 1 _ rfl
      have e2 := hg' 2 _ rfl
      clear hg'
      match ys, hlen' with
      | [u0, u1, u2], _ =>
        simp [z1] at e0 e1 e2
        obtain ⟨k, q0, _, _⟩ := DataW.trod_int Tryz.underlying3 g0
        obtain ⟨sk, q1, _, _⟩ := DataW.trod_int Tryz.underlying3 e0
        obtain ⟨st, q2, _, _⟩ := DataW.trod_int Tryz.underlying3 e1
        obtain ⟨sv, q3, _, _⟩ := DataW.trod_int Tryz.underlying3 e2
        obtain ⟨ao, la, ca, za, rfl, hza⟩ := open_bytes_cell g2
        simp only [List.cons.injEq, and_true] at q0 q1 q2 q3
        subst q0 q1 q2 q3
        obtain ⟨bs, rfl, hb, hr⟩ := hza.bytes
        refine ⟨(⟨k, ⟨sk, st, sv⟩, bs⟩, .slice ao bs.length ca), ⟨hc 0 (by omega), hc 1 (by omega), hc 2 (by omega), hc 3 (by omega), hc 4 (by omega), ao, ca, rfl, hr, hza.none_cap, ⟨hza.le_cap, hza.cap_le⟩, fun z ad ha => ?_⟩, hb⟩
        obtain ⟨bb, o2, e2', hc2⟩ := reads_at hr z
        rw [e2'] at ha
        cases ha
        exact cell_lt (hc2 0 z)

set_option maxRecDepth 100000 in
/-- A list of acts that came in. -/
theorem open_acts {H : Type} {enc : TypeId × Value → H} {w : World} {base : Nat} {held : Bool} {a : Option Addr} {len cap : Nat} {d : DataW H} {p : List MemPlace}
    (h : DataW.Trod enc Tryz.prog w base (fun _ => true) held 26 (.slice a len cap) d p) :
    ∃ (l : List Act18), l.length = len ∧ (∀ x ∈ l, Byt x.bs) ∧ ActsAt18 w a l ∧ len ≤ maxLen := by
  obtain ⟨fuel, hf⟩ := h
  obtain ⟨h1, h2, h3, h4⟩ := open_cells Tryz.underlying26 (C := 5) (by kernel_rfl) (by decide) hf
  by_cases h0 : 0 < len
  · obtain ⟨b, off, n, rfl, hc⟩ := h4 h0
    have each : ∀ i, i < len → ∃ q : Act18 × Value, ActAt18 w b (off + i * 5) q.1 q.2 ∧ Byt q.1.bs := fun i hi => by
      obtain ⟨cs, y, hl, hcell, ht⟩ := hc i hi
      exact act_cells hl (fun j hj => by rw [Nat.add_assoc]; exact hcell j hj) ht
    haveI : Inhabited Act18 := ⟨⟨0, ⟨0, 0, 0⟩, []⟩⟩
    haveI : Inhabited Value := ⟨.bool false⟩
    obtain ⟨q, hq⟩ := choose_lt each
    refine ⟨(List.range len).map (fun i => (q i).1), by simp, fun x hx => ?_, fun _ => ⟨b, off, rfl, fun i hi => ?_⟩, by omega⟩
    · obtain ⟨i, hi, rfl⟩ := List.mem_map.1 hx
      exact (hq i (List.mem_range.1 hi)).2
    · have hi' : i < len := by simpa using hi
      simp only [List.getElem_map, List.getElem_range]
      exact ⟨_, (hq i hi').1⟩
  · exact ⟨[], (by simp; omega), (fun x hx => by cases hx), (fun hp => absurd hp (by simp)), by omega⟩

end Go.Proofs.YthhggjakenalpaaGreatDoor
