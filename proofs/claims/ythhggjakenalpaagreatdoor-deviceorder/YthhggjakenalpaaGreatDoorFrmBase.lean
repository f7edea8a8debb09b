/- What the texts on frames lean on, the program's and the document's alike; no function of a package is named here. -/
import Derived.Test.YthhggjakenalpaaGreatDoorBase
import Derived.Test.YthhggjakenalpaaGreatDoorAppB
import Derived.Test.YthhggjakenalpaaGreatDoorRowTmp
import Derived.Test.YthhggjakenalpaaGreatDoorMPlain
import Derived.Laws.ResultCell
import Derived.Deep.RegionHeld3
namespace Go.Proofs.YthhggjakenalpaaGreatDoor
set_option maxRecDepth 100000
open Go.RowKit
open Bt

theorem below_drewN {B : Nat} {w w' : World} (h : Below B w w') (n : Nat) : Below B w (w'.drewN n) := ⟨h.os, h.tape, h.output, h.size, h.block⟩

/-- A frame as a value. -/
abbrev Fr (tx sq an rs kd : Int) (a : Option Addr) (len cap : Nat) : Value := .agg #[.int .i64 tx, .int .i64 sq, .int .i64 an, .int .i64 rs, .int .i64 kd, .slice a len cap]

/-- Are two frames the same? -/
def sameFrm (tx sq an rs kd : Int) (ds : List Nat) (tx' sq' an' rs' kd' : Int) (es : List Nat) : Bool :=
  decide (tx = tx' ∧ sq = sq' ∧ an = an' ∧ rs = rs' ∧ kd = kd' ∧ ds = es)

/-- What Put answers, of whatever frame. -/
def putF (tx sq an rs kd : Int) (ds : List Nat) : List Nat := if isFrm tx sq an rs kd ds.length = true then frmB (headN tx.toNat sq.toNat an.toNat rs.toNat kd.toNat) ds else []

theorem below_undrew {B : Nat} {w w' : World} (h : Below B w.drew w') : Below B w w' := ⟨h.os, h.tape, h.output, h.size, h.block⟩

theorem ownsRow_cap {w : World} {e : TypeId} {sz g n cap : Nat} {xs : List Value} (h : w.ownsRow 0 e sz (.slice (some ⟨g, 0, none⟩) n cap) n xs) : n ≤ cap ∧ cap ≤ 9223372036854775807 := by
  rcases h.2 with ⟨h', _⟩ | ⟨g', cap', _, h', _, _, hn, hm, _⟩
  · cases h'
  · simp only [Value.slice.injEq, Option.some.injEq, Addr.mk.injEq, and_true, true_and] at h'
    obtain ⟨rfl, rfl⟩ := h'
    unfold maxLen at hm
    exact ⟨hn, hm⟩

/-- What an append leaves as it was. -/
theorem grown_step {w w1 w2 : World} {v v' : Value} {B : Nat} (hgrow : w1.grownBy w2 v.ownBlock) (hat : v'.ownBlock = v.ownBlock ∨ v'.ownBlock = some w1.heap.size) (hB : Below B w w1) (hBw : B ≤ w.heap.size) (hv : ∀ k, v.ownBlock = some k → B ≤ k) :
    Below B w w2 ∧ ∀ k, v'.ownBlock = some k → B ≤ k := by
  have hs := hB.size
  refine ⟨hB.grown hgrow (by omega) hv, fun k hk => ?_⟩
  rcases hat with h | h
  · exact hv k (by rw [← h]; exact hk)
  · rw [hk] at h
    have e : k = w1.heap.size := by simpa using h
    omega

/-- The cells of a zero frame. -/
abbrev ZC : Array Value := #[.int .i64 0, .int .i64 0, .int .i64 0, .int .i64 0, .int .i64 0, .slice none 0 0]

theorem below_setRow {B : Nat} {w w' : World} (h : Below B w w') (g : Nat) (hg : B ≤ g) (cs : Array Value) : Below B w (w'.setRow g cs) :=
  ⟨h.os, h.tape, h.output, by rw [size_setRow]; exact h.size, fun k hk => (setRow_other w' g k cs (by omega)).trans (h.block k hk)⟩

theorem reads_part {w : World} {bb off : Nat} {bs : List Nat} (h : Reads w (some ⟨bb, off, none⟩) bs) (i n : Nat) (hin : i + n ≤ bs.length) : Reads w (some ⟨bb, off + i, none⟩) ((bs.drop i).take n) := by
  intro h0
  have h0' : 0 < n ∧ i < bs.length := by
    simp only [List.length_take, List.length_drop] at h0
    omega
  obtain ⟨bb', off', e, hc⟩ := reads_at h (by omega)
  cases e
  refine ⟨_, rfl, fun j u hu => ?_⟩
  have hj := (List.getElem?_eq_some_iff.1 hu).1
  simp only [List.length_map, List.length_take, List.length_drop] at hj
  have hu2 : u = U (bs[i + j]'(by omega)) := by
    have := (List.getElem?_eq_some_iff.1 hu).2
    rw [← this]
    simp
  rw [WideShapes.add_plain, Nat.add_assoc, hc (i + j) (by omega), hu2]

theorem none_cap_of_owns {w : World} {e : TypeId} {sz n c : Nat} {ao : Option Addr} {xs : List Value} (h : w.ownsRow 0 e sz (.slice ao n c) n xs) : ao = none → c = 0 := by
  intro ha
  rcases h.2 with ⟨h', _⟩ | ⟨g', cap', _, h', _⟩
  · cases h'; rfl
  · cases h'; cases ha

theorem below_cell {w w' : World} (h : Below w.heap.size w w') {a : Addr} {v : Value} (hc : w.cell? a = some v) : w'.cell? a = some v := (h.cell (cell_lt hc)).trans hc

end Go.Proofs.YthhggjakenalpaaGreatDoor
