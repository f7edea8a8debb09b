/- A list of jobs that is being made, a job behind the other. -/
import Derived.Test.YtgcpkploeobafaaEdApp
namespace Go.Proofs.Ytgcpkploeobafaa
open Go.RowKit
open Bt

/-- A list under way: its row is new. -/
structure Mk (B : Nat) (ws : World) (v : Value) (m : Nat) (l : List Jb) : Prop where
  len : m = l.length
  own : ws.ownsRow 0 38 7 v m (jcells l)
  new : ∀ k, v.ownBlock = some k → B ≤ k

theorem mk_start (B : Nat) (ws : World) : Mk B ws (.slice none 0 0) 0 [] := ⟨rfl, World.ownsRow_nil _ _ _ _, fun k hk => by simp [Value.ownBlock] at hk⟩

theorem Mk.below {B : Nat} {ws w' : World} {v : Value} {m : Nat} {l : List Jb} (h : Mk B ws v m l) (hb : Below ws.heap.size ws w') : Mk B w' v m l :=
  ⟨h.len, ownsRow_keep h.own fun k hk => hb.block k (World.ownsRow.lt h.own k hk).2, h.new⟩

theorem Mk.form {B : Nat} {ws : World} {v : Value} {m : Nat} {l : List Jb} (h : Mk B ws v m l) : ∃ ao c, v = .slice ao m c := by
  obtain ⟨ao, c, e, _⟩ := ownsRow_form h.own
  exact ⟨ao, c, e⟩

/-- One more. -/
theorem Mk.more {B : Nat} {w ws W wb : World} {v v' : Value} {m : Nat} {l : List Jb} {j : Jb} (h : Mk B ws v m l) (hB : Below B w W) (hBw : B ≤ w.heap.size) (hown : wb.ownsRow 0 38 7 v' (m + 1) (jcells (l ++ [j]))) (hgrow : W.grownBy wb v.ownBlock) (hat : v'.ownBlock = v.ownBlock ∨ v'.ownBlock = some W.heap.size) : Mk B wb v' (m + 1) (l ++ [j]) ∧ Below B w wb := by
  obtain ⟨g1, g2⟩ := grownJ hgrow hat hB hBw h.new
  exact ⟨⟨by rw [List.length_append, h.len]; rfl, hown, g2⟩, g1⟩

theorem filter_takeJ (p : Jb → Bool) (l : List Jb) {t : Nat} (h : t < l.length) : (l.take (t + 1)).filter p = (l.take t).filter p ++ (if p l[t] = true then [l[t]] else []) := by
  rw [List.take_add_one, List.getElem?_eq_getElem h, List.filter_append]
  congr 1
  simp only [Option.toList_some]
  cases q : p l[t] <;> simp [q]

theorem Mk.kept {B : Nat} {T : Nat → Prop} {ws w' : World} {v : Value} {m : Nat} {l : List Jb} (h : Mk B ws v m l) (hc : Chg T ws w') (hT : ∀ k, T k → k < B) : Mk B w' v m l :=
  ⟨h.len, ownsRow_keep h.own fun k hk => hc.block k (World.ownsRow.lt h.own k hk).2 (fun q => by have := hT k q; have := h.new k hk; omega), h.new⟩

/-- One more, while other blocks were written. -/
theorem Mk.push {B : Nat} {S : Nat → Prop} {w W wb : World} {v v' : Value} {m : Nat} {l : List Jb} {j : Jb} (h : Mk B W v m l) (hC : Chg S w W) (hB : B = w.heap.size) (hown : wb.ownsRow 0 38 7 v' (m + 1) (jcells (l ++ [j]))) (hgrow : W.grownBy wb v.ownBlock) (hat : v'.ownBlock = v.ownBlock ∨ v'.ownBlock = some W.heap.size) : Mk B wb v' (m + 1) (l ++ [j]) ∧ Chg S w wb := by
  refine ⟨⟨by rw [List.length_append, h.len]; rfl, hown, fun k hk => ?_⟩, hC.grown hgrow (fun k hk hk2 => by have := h.new k hk; omega)⟩
  rcases hat with q | q
  · exact h.new k (by rw [← q]; exact hk)
  · rw [hk] at q
    have e : k = W.heap.size := by simpa using q
    have := hC.size
    omega

/-- What is made, as an answer. -/
theorem Mk.answer {B : Nat} {S : Nat → Prop} {ws : World} {v : Value} {m : Nat} {l : List Jb} (h : Mk B ws v m l) (hS : ∀ k, S k → k < B) : JsAt (fun k => B ≤ k ∧ k < ws.heap.size ∧ ¬ S k) ws v l := by
  have o := h.own
  rw [h.len] at o
  exact js_of_owns o (fun k hk => ⟨h.new k hk, (World.ownsRow.lt o k hk).2, fun q => by have := hS k q; have := h.new k hk; omega⟩)

/-- A slice's length. -/
def lenV : Value → Nat
  | .slice _ n _ => n
  | _ => 0

end Go.Proofs.Ytgcpkploeobafaa
