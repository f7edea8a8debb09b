/- A panel among other things: what its calls answer and leave. -/
import Derived.Test.YtbeeigfcchjdlaaPnK4
namespace Go.Proofs.Ytbeeigfcchjdlaa
open Go.RowKit
open Pn

variable {F : Nat → Prop} {w0 w w' : World} {b : Nat} {L : List Al} {u : Int}

theorem pone_ok (h : One (PK b L u) F w0 w) : OkA L := by
  obtain ⟨S, ⟨v, h⟩, _⟩ := h
  exact h.ok

theorem traise (bed kind now : Int) (h : One (PK b L u) F w0 w) :
    Calls Try.prog 11 #[.pointer (some ⟨b, 0, none⟩), .int .i64 bed, .int .i64 kind, .int .i64 now] w fun e w' => e = .returned (.bool (raiseB L bed kind)) ∧ One (PK b (raiseL L bed kind now) u) F w0 w' :=
  h.call fun S hS => praise_any b bed kind now S L u w hS

theorem tclear (bed kind : Int) (h : One (PK b L u) F w0 w) :
    Calls Try.prog 12 #[.pointer (some ⟨b, 0, none⟩), .int .i64 bed, .int .i64 kind] w fun e w' => e = .returned (.bool (clearB L bed kind)) ∧ One (PK b (clearL L bed kind) u) F w0 w' :=
  h.call fun S hS => pclear_any b bed kind S L u w hS

theorem tack (bed kind : Int) (h : One (PK b L u) F w0 w) :
    Calls Try.prog 13 #[.pointer (some ⟨b, 0, none⟩), .int .i64 bed, .int .i64 kind] w fun e w' => e = .returned (.bool (ackB L bed kind)) ∧ One (PK b (ackL L bed kind) u) F w0 w' :=
  h.call fun S hS => pack_any b bed kind S L u w hS

theorem tdrop (bed : Int) (h : One (PK b L u) F w0 w) :
    Calls Try.prog 15 #[.pointer (some ⟨b, 0, none⟩), .int .i64 bed] w fun e w' => e = .returned (.int .i64 ((L.length : Int) - ((dropA L bed).length : Int))) ∧ One (PK b (dropA L bed) u) F w0 w' :=
  h.call fun S hS => pdrop_any b bed S L u w hS

theorem tsil (x : Int) (h : One (PK b L u) F w0 w) :
    Calls Try.prog 10 #[.pointer (some ⟨b, 0, none⟩), .int .i64 x] w fun e w' => e = .returned (.tuple #[]) ∧ One (PK b L x) F w0 w' :=
  h.call fun S hS => psil_any b x S L u w hS

theorem tsound (x : Int) (h : One (PK b L u) F w0 w) :
    Calls Try.prog 14 #[.pointer (some ⟨b, 0, none⟩), .int .i64 x] w fun e w' => e = .returned (.bool (soundA L u x)) ∧ One (PK b L u) F w0 w' :=
  h.look (pk_owned b L u) fun S hS => psound_any b x S L u w hS

/-- What is answered lies in new memory. -/
theorem tlist (h : One (PK b L u) F w0 w) :
    Calls Try.prog 16 #[.pointer (some ⟨b, 0, none⟩)] w fun e w' => ∃ ao c, e = .returned (.slice ao L.length c) ∧ NewR 42 5 w.heap.size w L.length (acells (sortA L)) w' (.slice ao L.length c) ∧ One (PK b L u) F w0 w' := by
  have h0 := h
  obtain ⟨S, h1, _⟩ := h
  refine (plist_any b S L u w h1).mono fun e w' ⟨v, he, hN⟩ => ?_
  obtain ⟨ao, c, rfl, _⟩ := ownsRow_form hN.own
  exact ⟨ao, c, he, hN, h0.below (pk_owned b L u) hN.below⟩

end Go.Proofs.Ytbeeigfcchjdlaa
