/- The document's own watch beside the code's. -/
import Derived.Test.YtngfgahdiobcmaaWtAct
import Derived.Test.YtngfgahdiobcmaaWtRefC
import Derived.Test.YtngfgahdiobcmaaWtRefD
import Derived.Test.YtngfgahdiobcmaaIntsA
namespace Go.Proofs.Ytngfgahdiobcmaa
open Go.RowKit
open Bt

/-- Both watches hold the same. -/
def TwinW (ta rb : Nat) (L : List Wb) (R : Nat → Prop) (B : Nat) (w : World) : Prop := Two (WS ta L) (WR rb L) R B w

variable {ta rb B : Nat} {L L1 : List Wb} {R G : Nat → Prop} {w w' : World}

theorem TwinW.below (h : TwinW ta rb L R B w) (hb : Below w.heap.size w w') : TwinW ta rb L R B w' := Two.below (ws_owned _ _) (wr_owned _ _) h hb

theorem TwinW.grow (h : TwinW ta rb L R B w) (hb : Below w.heap.size w w') : TwinW ta rb L (fun k => R k ∨ w.heap.size ≤ k) B w' := Two.grow (ws_owned _ _) (wr_owned _ _) h hb

theorem TwinW.less (h : TwinW ta rb L R B w) (hG : ∀ k, G k → R k) : TwinW ta rb L G B w := Two.less h hG

theorem TwinW.ok (h : TwinW ta rb L R B w) : OkWb L := two_ok h

theorem twin_lost (bed : Int) (h : TwinW ta rb L R B w) : Calls Try.prog 15 #[.pointer (some ⟨ta, 0, none⟩), .int .i64 bed] w fun e w' => e = .returned (.bool (lostWb L bed)) ∧ Below w.heap.size w w' := by
  obtain ⟨S, T, ⟨v, h1⟩, _⟩ := h
  exact wlost_any ta bed S v L w h1

theorem twin_rlost (bed : Int) (h : TwinW ta rb L R B w) : Calls Try.prog 23 #[.pointer (some ⟨rb, 0, none⟩), .int .i64 bed] w fun e w' => e = .returned (.bool (lostWb L bed)) ∧ Below w.heap.size w w' := by
  obtain ⟨S, T, _, h2, _⟩ := h
  exact refLost15_any rb bed T L w h2

theorem twin_beds (h : TwinW ta rb L R B w) : Calls Try.prog 16 #[.pointer (some ⟨ta, 0, none⟩)] w fun e w' => ∃ v', e = .returned v' ∧ NumsAt (fun _ => True) w' v' (bedsWb L) ∧ Below w.heap.size w w' := by
  obtain ⟨S, T, h1, _⟩ := h
  exact (wbeds_any ta S L w h1).mono fun e w' ⟨v, he, hl, hb⟩ => ⟨v, he, hl.mono (fun _ _ => trivial), hb⟩

theorem twin_rbeds (h : TwinW ta rb L R B w) : Calls Try.prog 24 #[.pointer (some ⟨rb, 0, none⟩)] w fun e w' => ∃ v', e = .returned v' ∧ NumsAt (fun _ => True) w' v' (bedsWb L) ∧ Below w.heap.size w w' := by
  obtain ⟨S, T, _, h2, _⟩ := h
  exact (refBeds15_any rb T L w h2).mono fun e w' ⟨v, he, hl, hb⟩ => ⟨v, he, hl.mono (fun _ _ => trivial), hb⟩

/-- The code's Look: what it answers is held from now on. -/
theorem twin_look1 (now : Int) (ht : timeWb now) (h : Two (WS ta L) (WR rb L1) R B w) : Calls Try.prog 14 #[.pointer (some ⟨ta, 0, none⟩), .int .i64 now] w fun e w' => ∃ v', e = .returned v' ∧ NumsAt (fun k => w.heap.size ≤ k ∧ k < w'.heap.size) w' v' (lookWl L now) ∧ Two (WS ta (lookWt L now)) (WR rb L1) (fun k => R k ∨ (w.heap.size ≤ k ∧ k < w'.heap.size)) B w' ∧ Chg (fun k => B ≤ k ∧ ¬ R k) w w' := by
  obtain ⟨S, T, h1, h2, h3, h4, h5⟩ := h
  refine (wlook_any ta now ht S L w h1).mono fun e w' ⟨v, he, hl, hS, hC⟩ => ⟨v, he, hl, ⟨S, T, hS, (wr_owned rb L1).kept h2 hC (fun k hk q => h3 k q hk), h3, fun k hk => ⟨(h4 k hk).1, fun q => ?_⟩, fun k hk => ⟨(h5 k hk).1, fun q => ?_⟩⟩, hC.mono (fun k hk _ => h4 k hk)⟩
  · rcases q with q | q
    · exact (h4 k hk).2 q
    · have := (ws_owned ta L).lt h1 k hk; omega
  · rcases q with q | q
    · exact (h5 k hk).2 q
    · have := (wr_owned rb L1).lt h2 k hk; omega

theorem twin_look2 (now : Int) (h : Two (WS ta L1) (WR rb L) R B w) : Calls Try.prog 22 #[.pointer (some ⟨rb, 0, none⟩), .int .i64 now] w fun e w' => ∃ v', e = .returned v' ∧ NumsAt (fun _ => True) w' v' (lookWl L now) ∧ Two (WS ta L1) (WR rb (lookWt L now)) R B w' ∧ Chg (fun k => B ≤ k ∧ ¬ R k) w w' := by
  obtain ⟨S, T, h1, h2, h3, h4, h5⟩ := h
  exact (refLook15_any rb now T L w h2).mono fun e w' ⟨v, he, hl, hS, hC⟩ => ⟨v, he, hl.mono (fun _ _ => trivial), ⟨S, T, (ws_owned ta L1).kept h1 hC (fun k hk q => h3 k hk q), hS, h3, h4, h5⟩, hC.mono (fun k hk _ => h5 k hk)⟩

end Go.Proofs.Ytngfgahdiobcmaa
