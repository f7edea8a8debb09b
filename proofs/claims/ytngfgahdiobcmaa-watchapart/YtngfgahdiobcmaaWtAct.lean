/- A watch beside another thing; an act in a block of its own. -/
import Derived.Test.YtngfgahdiobcmaaWtL
import Derived.Test.YtngfgahdiobcmaaWtArg
namespace Go.Proofs.Ytngfgahdiobcmaa
open Go.RowKit
open Bt

/-- Look, its answer's length alone. -/
theorem wlook_left (b : Nat) (now : Int) (hnow : timeWb now) (S : Nat → Prop) (L : List Wb) (w : World) (h : WS b L S w) :
    Calls Try.prog 14 #[.pointer (some ⟨b, 0, none⟩), .int .i64 now] w fun e w' => (∃ ao c, e = .returned (.slice ao (lookWl L now).length c)) ∧ LeftG (WS b (lookWt L now)) S w w' :=
  (wlook_any b now hnow S L w h).mono fun e w' ⟨v, he, hn, hS, hC⟩ => by
    obtain ⟨ao, c, rfl⟩ := hn.len
    exact ⟨⟨ao, c, he⟩, S, hS, hC, fun k hk => .inl hk⟩

theorem wheard_left (b : Nat) (bed now : Int) (ht : timeWb now) (S : Nat → Prop) (L : List Wb) (w : World) (h : WS b L S w) :
    Calls Try.prog 13 #[.pointer (some ⟨b, 0, none⟩), .int .i64 bed, .int .i64 now] w fun e w' => e = .returned (.bool (lostWb L bed)) ∧ LeftG (WS b (heardWt L bed now)) S w w' := by
  obtain ⟨v, h⟩ := h
  exact wheard_any b bed now ht S v L w h

theorem wlost_left (b : Nat) (bed : Int) (S : Nat → Prop) (L : List Wb) (w : World) (h : WS b L S w) :
    Calls Try.prog 15 #[.pointer (some ⟨b, 0, none⟩), .int .i64 bed] w fun e w' => e = .returned (.bool (lostWb L bed)) ∧ LeftG (WS b L) S w w' := by
  obtain ⟨v, h⟩ := h
  exact (wlost_any b bed S v L w h).mono fun e w' ⟨he, hb⟩ => ⟨he, h.same hb⟩

theorem two_ok {P : (Nat → Prop) → World → Prop} {b B : Nat} {L : List Wb} {R : Nat → Prop} {w : World} (h : Two (WS b L) P R B w) : OkWb L := by
  obtain ⟨S, T, ⟨v, h⟩, _⟩ := h
  exact h.ok

/-- An act's cells, in a block of its own. -/
abbrev actV15 (k x0 x1 x2 : Int) : Obj := .cells #[.int .i64 k, .int .i64 x0, .int .i64 x1, .int .i64 x2] 39 (0, 0)

/-- What an act's cells hold, plainly. -/
def Cells4 (W : World) (bs : Nat) (k x0 x1 x2 : Int) : Prop := W.cell? ⟨bs, 0, none⟩ = some (.int .i64 k) ∧ W.cell? ⟨bs, 1, none⟩ = some (.int .i64 x0) ∧ W.cell? ⟨bs, 2, none⟩ = some (.int .i64 x1) ∧ W.cell? ⟨bs, 3, none⟩ = some (.int .i64 x2)

theorem act15_block {w : World} {g : Nat} {k x0 x1 x2 : Int} (h : w.heap[g]? = some (actV15 k x0 x1 x2)) : Cells4 w g k x0 x1 x2 :=
  ⟨by rw [cell_of_row _ _ 0 _ _ _ h]; rfl, by rw [cell_of_row _ _ 1 _ _ _ h]; rfl, by rw [cell_of_row _ _ 2 _ _ _ h]; rfl, by rw [cell_of_row _ _ 3 _ _ _ h]; rfl⟩

theorem Cells4.chg {S : Nat → Prop} {w w' : World} {b : Nat} {k x0 x1 x2 : Int} (h : Cells4 w b k x0 x1 x2) (hc : Chg S w w') (hS : ¬ S b) : Cells4 w' b k x0 x1 x2 :=
  ⟨cell_chg hc h.1 hS, cell_chg hc h.2.1 hS, cell_chg hc h.2.2.1 hS, cell_chg hc h.2.2.2 hS⟩

end Go.Proofs.Ytngfgahdiobcmaa
