/- A table among other things: what its calls answer and leave. -/
import Derived.Test.YtcloneccfbcclaaOwnG
import Derived.Test.YtcloneccfbcclaaLmK4
import Derived.Test.YtcloneccfbcclaaLmK6
import Derived.Test.YtcloneccfbcclaaLmK7
namespace Go.Proofs.Ytcloneccfbcclaa
open Go.RowKit
open Bt

/-- A table, as something that owns its blocks. -/
def TB (b : Nat) (L : List Kp) (n : Nat) : (Nat → Prop) → World → Prop := fun S w => Tab S w b L n

theorem tb_owned (b : Nat) (L : List Kp) (n : Nat) : Owned (TB b L n) := ⟨fun h hc hT => Tab.kept h hc hT, fun h => Tab.lt h⟩

variable {F : Nat → Prop} {w0 w : World} {b : Nat} {L : List Kp} {n : Nat}

theorem one_ok (h : One (TB b L n) F w0 w) : OkT L n := by
  obtain ⟨S, h, _⟩ := h
  exact Tab.ok h

theorem one_more (h : One (TB b L n) F w0 w) {k : Nat} (hk : n ≤ k) : One (TB b L k) F w0 w := by
  obtain ⟨S, h, r⟩ := h
  exact ⟨S, Tab.more h hk, r⟩

theorem tset (l : Lm) (h : One (TB b L n) F w0 w) :
    Calls Try.prog 11 #[.pointer (some ⟨b, 0, none⟩), Lv l] w fun e w' => e = .returned (.int .i64 (setE L l)) ∧ One (TB b (setT L l) n) F w0 w' :=
  h.call fun S hS => lset_any b l S L n w hS

theorem tsee (bed kind v : Int) (ho : okO (bed, kind)) (h : One (TB b L n) F w0 w) (hn : n ≤ 1000000 := by omega) :
    Calls Try.prog 10 #[.pointer (some ⟨b, 0, none⟩), .int .i64 bed, .int .i64 kind, .int .i64 v] w fun e w' => e = .returned (.tuple #[.bool (onK L bed kind), .bool (onK (seeT L bed kind v) bed kind)]) ∧ One (TB b (seeT L bed kind v) (n + 1)) F w0 w' :=
  h.call fun S hS => lsee_any b bed kind v ho S L n hn w hS

theorem tdrop (bed : Int) (h : One (TB b L n) F w0 w) :
    Calls Try.prog 14 #[.pointer (some ⟨b, 0, none⟩), .int .i64 bed] w fun e w' => e = .returned (.int .i64 (dropN L bed : Int)) ∧ One (TB b (dropT L bed) n) F w0 w' :=
  h.call fun S hS => ldrop_any b bed S L n w hS

theorem ton (bed kind : Int) (ho : okO (bed, kind)) (h : One (TB b L n) F w0 w) :
    Calls Try.prog 12 #[.pointer (some ⟨b, 0, none⟩), .int .i64 bed, .int .i64 kind] w fun e w' => e = .returned (.bool (onK L bed kind)) ∧ One (TB b L n) F w0 w' :=
  h.look (tb_owned b L n) fun S hS => lon_any b bed kind ho S L n w hS

theorem tbey (bed kind : Int) (ho : okO (bed, kind)) (h : One (TB b L n) F w0 w) :
    Calls Try.prog 13 #[.pointer (some ⟨b, 0, none⟩), .int .i64 bed, .int .i64 kind] w fun e w' => e = .returned (.int .i64 (beyK L bed kind : Int)) ∧ One (TB b L n) F w0 w' :=
  h.look (tb_owned b L n) fun S hS => lbey_any b bed kind ho S L n w hS

theorem tlist (h : One (TB b L n) F w0 w) :
    Calls Try.prog 15 #[.pointer (some ⟨b, 0, none⟩)] w fun e w' => ∃ v, e = .returned v ∧ LmsAt (fun k => w.heap.size ≤ k ∧ k < w'.heap.size) w' v (listT L) ∧ One (TB b L n) F w0 w' ∧ Below w.heap.size w w' := by
  have h0 := h
  obtain ⟨S, h1, _⟩ := h
  exact (llist_any b S L n w h1).mono fun e w' ⟨v, he, hl, hb⟩ => ⟨v, he, hl, h0.below (tb_owned b L n) hb, hb⟩

theorem okO_11 : okO (1, 1) := ⟨rfl, rfl⟩

end Go.Proofs.Ytcloneccfbcclaa
