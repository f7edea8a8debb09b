/- A watch among other things: what its calls answer and leave. -/
import Derived.Test.YtngfgahdiobcmaaWtK5
import Derived.Test.YtngfgahdiobcmaaWtK7
import Derived.Test.YtngfgahdiobcmaaWtK8
namespace Go.Proofs.Ytngfgahdiobcmaa
open Go.RowKit
open Bt

variable {F : Nat → Prop} {w0 w w' : World} {b : Nat} {L : List Wb}

theorem wone_ok (h : One (WS b L) F w0 w) : OkWb L := by
  obtain ⟨S, ⟨v, h⟩, _⟩ := h
  exact h.ok

theorem tadd (bed most now : Int) (ht : timeWb now) (h : One (WS b L) F w0 w) :
    Calls Try.prog 11 #[.pointer (some ⟨b, 0, none⟩), .int .i64 bed, .int .i64 most, .int .i64 now] w fun e w' => e = .returned (.int .i64 (addWe L bed most)) ∧ One (WS b (addWt L bed most now)) F w0 w' :=
  h.call fun S hS => wadd_any b bed most now ht S L w hS

theorem trem (bed : Int) (h : One (WS b L) F w0 w) :
    Calls Try.prog 12 #[.pointer (some ⟨b, 0, none⟩), .int .i64 bed] w fun e w' => e = .returned (.int .i64 (remWe L bed)) ∧ One (WS b (remWt L bed)) F w0 w' :=
  h.call fun S hS => wrem_any b bed S L w hS

theorem theard (bed now : Int) (ht : timeWb now) (h : One (WS b L) F w0 w) :
    Calls Try.prog 13 #[.pointer (some ⟨b, 0, none⟩), .int .i64 bed, .int .i64 now] w fun e w' => e = .returned (.bool (lostWb L bed)) ∧ One (WS b (heardWt L bed now)) F w0 w' :=
  h.call fun S ⟨v, hS⟩ => wheard_any b bed now ht S v L w hS

theorem tlost (bed : Int) (h : One (WS b L) F w0 w) :
    Calls Try.prog 15 #[.pointer (some ⟨b, 0, none⟩), .int .i64 bed] w fun e w' => e = .returned (.bool (lostWb L bed)) ∧ One (WS b L) F w0 w' :=
  h.look (ws_owned b L) fun S ⟨v, hS⟩ => wlost_any b bed S v L w hS

theorem tbeds (h : One (WS b L) F w0 w) :
    Calls Try.prog 16 #[.pointer (some ⟨b, 0, none⟩)] w fun e w' => ∃ v, e = .returned v ∧ NumsAt (fun k => w.heap.size ≤ k ∧ k < w'.heap.size) w' v (bedsWb L) ∧ One (WS b L) F w0 w' ∧ Below w.heap.size w w' := by
  have h0 := h
  obtain ⟨S, h1, _⟩ := h
  exact (wbeds_any b S L w h1).mono fun e w' ⟨v, he, hl, hb⟩ => ⟨v, he, hl, h0.below (ws_owned b L) hb, hb⟩

/-- What was made beside it is held from now on. -/
theorem tlook (now : Int) (ht : timeWb now) (h : One (WS b L) F w0 w) :
    Calls Try.prog 14 #[.pointer (some ⟨b, 0, none⟩), .int .i64 now] w fun e w' => ∃ v, e = .returned v ∧ NumsAt (fun k => w.heap.size ≤ k ∧ k < w'.heap.size) w' v (lookWl L now) ∧ One (WS b (lookWt L now)) F w0 w' ∧ One (WS b (lookWt L now)) (fun k => F k ∨ (w.heap.size ≤ k ∧ k < w'.heap.size)) w' w' := by
  obtain ⟨S, h1, h2, h3, h4⟩ := h
  refine (wlook_any b now ht S L w h1).mono fun e w' ⟨v, he, hl, hS, hC⟩ => ⟨v, he, hl, ⟨S, hS, h2, h3, h4.trans hC (fun k hk _ => h2 k hk)⟩, S, hS, fun k hk q => ?_, fun k hk => ?_, Chg.refl _ _⟩
  · rcases q with q | q
    · exact h2 k hk q
    · have := (ws_owned b L).lt h1 k hk
      omega
  · rcases hk with q | q
    · have := h3 k q
      have := h4.size
      have := hC.size
      omega
    · exact q.2

end Go.Proofs.Ytngfgahdiobcmaa
