/- Package load's calls, by the names that the laws' texts lean on. -/
import Derived.Test.YthofgajchejdfaaLdK5
namespace Go.Proofs.Ythofgajchejdfaa
open Go.RowKit
open Bt

theorem lfits_any (R : Nat → Prop) (v : Value) (l : List Bdd) (hl : l.length ≤ 100) (cap : Int) (_hc : 0 ≤ cap ∧ cap ≤ 10000) (w : World) (h : BdsAt R w v l) (hv : RoomV v) :
    Calls Try.prog 16 #[v, .int .i64 cap] w fun e w' => e = .returned (.bool (fitsB l cap)) ∧ Below w.heap.size w w' := lfits_in R v l hl cap w h hv

theorem ladmit_any (R : Nat → Prop) (ao : Option Addr) (c : Nat) (l : List Bdd) (hl : l.length ≤ 100) (hr : l.length ≤ c ∧ (ao = none → c = 0)) (b : Bdd) (cap : Int) (_hc : 0 ≤ cap ∧ cap ≤ 10000) (w : World) (h : BdsAt R w (.slice ao l.length c) l) :
    Calls Try.prog 22 #[.slice ao l.length c, Bv b, .int .i64 cap] w fun e w' => ∃ a d, e = .returned (.tuple #[.slice a (admitL l b cap).length d, .int .i64 (admitE l b cap)]) ∧ BdsAt (fun k => w.heap.size ≤ k) w' (.slice a (admitL l b cap).length d) (admitL l b cap) ∧ ((admitL l b cap).length ≤ d ∧ (a = none → d = 0)) ∧ Below w.heap.size w w' := ladmit_in R ao c l hl hr.2 b cap w h

theorem ldischarge_any (R : Nat → Prop) (ao : Option Addr) (c : Nat) (l : List Bdd) (hl : l.length ≤ 100) (hr : l.length ≤ c ∧ (ao = none → c = 0)) (x : Int) (w : World) (h : BdsAt R w (.slice ao l.length c) l) :
    Calls Try.prog 24 #[.slice ao l.length c, .int .i64 x] w fun e w' => ∃ a d, e = .returned (.tuple #[.slice a (dischL l x).length d, .int .i64 (dischE l x)]) ∧ BdsAt (fun k => w.heap.size ≤ k) w' (.slice a (dischL l x).length d) (dischL l x) ∧ ((dischL l x).length ≤ d ∧ (a = none → d = 0)) ∧ Below w.heap.size w w' := ldisch_in R ao c l hl hr x w h

end Go.Proofs.Ythofgajchejdfaa
