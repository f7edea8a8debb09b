/- How a link among a law's arguments reads. -/
import Derived.Test.YthhggjakenalpaaGreatDoorArgs
import Derived.Test.YthhggjakenalpaaGreatDoorMSnA
import Derived.Lib.SmallJoins
namespace Go.Proofs.YthhggjakenalpaaGreatDoor
set_option maxRecDepth 100000
open Go.ChangeShapes Go.WideShapes Go.ChangeAt Go.RowKit Go.Joins Go.Deep
open Bt

theorem array5 {α : Type} {cs : Array α} (h : cs.size = 5) : ∃ c0 c1 c2 c3 c4, cs = #[c0, c1, c2, c3, c4] := by
  obtain ⟨l⟩ := cs
  match l, h with
  | [c0, c1, c2, c3, c4], _ => exact ⟨c0, c1, c2, c3, c4, rfl⟩

set_option maxRecDepth 100000 in
/-- A link that came in: its value, its numbers. -/
theorem open_link {H : Type} {enc : TypeId × Value → H} {w : World} {r : Reach} {b0 base : Nat} {held : Bool} {v : Value} {d : DataW H} {p : List MemPlace}
    (hv : Value.okWide Tryz.prog w r b0 25 v) (h : DataW.Trod enc Tryz.prog w base (fun _ => true) held 25 v d p) :
    ∃ (k n s wt ms : Int), v = Lk k n s wt ms ∧ ((Lit.int .i64 k).wf = true ∧ (Lit.int .i64 n).wf = true ∧ (Lit.int .i64 s).wf = true ∧ (Lit.int .i64 wt).wf = true ∧ (Lit.int .i64 ms).wf = true) := by
  have hs := Tryz.underlying25
  have hc := Tryz.underlying23
  obtain ⟨cs, rfl, hsz⟩ := okWide_struct hs hv
  obtain ⟨c0, c1, c2, c3, c4, rfl⟩ := array5 (hsz.trans (by kernel_rfl))
  obtain ⟨fuel, hf⟩ := h
  obtain ⟨xs, n, _, _, _, hlen, hg⟩ := DataW.trod_struct hs hf
  have g0 := hg 0 _ rfl
  have g1 := hg 1 _ rfl
  have g2 := hg 2 _ rfl
  clear hg
  have z0 : Tryz.prog.cellsOf 23 = 3 := by kernel_rfl
  have z1 : Tryz.prog.cellsOf 3 = 1 := by kernel_rfl
  match xs, hlen with
  | [y0, y1, y2], _ =>
    simp [Value.cells, z0, z1] at g0 g1 g2
    obtain ⟨ys, n', _, _, _, hlen', hg'⟩ := DataW.trod_struct hc g0
    have e0 := hg' 0 _ rfl
    have e1 := hg' 1 _ rfl
    have e2 := hg' 2 _ rfl
    clear hg'
    match ys, hlen' with
    | [u0, u1, u2], _ =>
      simp [z1] at e0 e1 e2
      obtain ⟨k, q0, _, w0⟩ := DataW.trod_int Tryz.underlying3 e0
      obtain ⟨m, q1, _, w1⟩ := DataW.trod_int Tryz.underlying3 e1
      obtain ⟨s, q2, _, w2⟩ := DataW.trod_int Tryz.underlying3 e2
      obtain ⟨wt, q3, _, w3⟩ := DataW.trod_int Tryz.underlying3 g1
      obtain ⟨ms, q4, _, w4⟩ := DataW.trod_int Tryz.underlying3 g2
      simp only [List.cons.injEq, and_true] at q0 q1 q2 q3 q4
      subst q0 q1 q2 q3 q4
      exact ⟨k, m, s, wt, ms, rfl, w0, w1, w2, w3, w4⟩

end Go.Proofs.YthhggjakenalpaaGreatDoor
