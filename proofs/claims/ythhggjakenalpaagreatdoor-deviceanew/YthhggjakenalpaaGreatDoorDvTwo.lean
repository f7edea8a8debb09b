/- Two devices apart from one another. -/
import Derived.Test.YthhggjakenalpaaGreatDoorDvLaw
import Derived.Test.YthhggjakenalpaaGreatDoorRefLists
namespace Go.Proofs.YthhggjakenalpaaGreatDoor
set_option maxRecDepth 100000
open Go.RowKit
open Bt

/-- Beginning anew forgets all but the time. -/
theorem anew_take (x : Dev) (s : Smp) : anewD (takeD x s) = anewD x := by unfold takeD; split <;> rfl

theorem anew_tick (x : Dev) : anewD (tickD x) = { anewD x with now := (anewD x).now + 1 } := by
  have q := pushD_same (x := x)
  obtain ⟨q1, q2, q3, q4, q5, q6, q7, q8, q9, q10⟩ := q
  unfold tickD stepD anewD
  simp only [q1, q2, q3, q5, q6, q7, q8, q9, q10]

theorem take_same (x : Dev) (s : Smp) : (takeD x s).session = x.session ∧ (takeD x s).snd.lost = x.snd.lost := by unfold takeD; split <;> exact ⟨rfl, rfl⟩

theorem tick_same (x : Dev) : (tickD x).session = x.session ∧ (tickD x).snd.lost = x.snd.lost := by
  refine ⟨(pushD_same (x := x)).2.1, ?_⟩
  show (pushD x).snd.lost = _
  unfold pushD
  split
  · show (pushC x.snd (textD x)).lost = _
    unfold pushC
    split <;> rfl
  · rfl

theorem RowsV.reads {R : Nat → Prop} {w : World} {ao : Option Addr} {n c : Nat} {L : List (List Nat)} (h : RowsV R w (.slice ao n c) L) : ReadsL w ao L := fun h0 => by
  obtain ⟨ao', cap, e, hp⟩ := h
  cases e
  obtain ⟨g, ha, _, hr⟩ := hp h0
  refine ⟨g, 0, ha, fun r hl => ?_⟩
  obtain ⟨u, hu, a, c', e2, q1, q2, _⟩ := hr r hl
  rw [e2] at hu
  exact ⟨a, c', by rw [Nat.zero_add]; exact hu, q1, q2⟩

variable {P P' Q Q' : (Nat → Prop) → World → Prop} {R : Nat → Prop} {w w' : World} {B M M' b b' : Nat} {x y : Dev}

theorem Two.imp (h : Two P Q R B w) (f : ∀ S, P S w → P' S w) (g : ∀ S, Q S w → Q' S w) : Two P' Q' R B w := by
  obtain ⟨S, T, h1, h2, h3⟩ := h
  exact ⟨S, T, f S h1, g T h2, h3⟩

theorem two_lt {S : Nat → Prop} (hS : ∀ k, S k → B ≤ k ∧ ¬ R k) (hB : 2 ≤ B) : ∀ k, S k → 2 ≤ k := fun k hk => Nat.le_trans hB (hS k hk).1

abbrev TD (M b : Nat) (x : Dev) (M' b' : Nat) (y : Dev) (R : Nat → Prop) (B : Nat) (w : World) : Prop := Two (DvS M b x) (DvS M' b' y) R B w

theorem two_okD (h : TD M b x M' b' y R B w) : y.Ok M' := by
  obtain ⟨S, T, _, g2, _⟩ := h
  exact g2.ok

theorem td_take (s : Smp) (h : TD M b x M' b' y R B w) (hR : ∀ k, R k → k < w.heap.size) (hB : B ≤ w.heap.size) :
    Calls Tryz.prog 14 #[.pointer (some ⟨b, 0, none⟩), Sm s] w fun e w' => e = .returned (.int .i64 (takeE x s)) ∧ TD M b (takeD x s) M' b' y R B w' ∧ Chg (fun k => B ≤ k ∧ ¬ R k) w w' :=
  h.call (dvO _ _ _) hR hB (fun _ hS => dtake_any s w hS)

theorem td_take2 (s : Smp) (h : TD M b x M' b' y R B w) (hR : ∀ k, R k → k < w.heap.size) (hB : B ≤ w.heap.size) :
    Calls Tryz.prog 14 #[.pointer (some ⟨b', 0, none⟩), Sm s] w fun e w' => e = .returned (.int .i64 (takeE y s)) ∧ TD M b x M' b' (takeD y s) R B w' ∧ Chg (fun k => B ≤ k ∧ ¬ R k) w w' :=
  h.call2 (dvO _ _ _) hR hB (fun _ hS => dtake_any s w hS)

theorem td_reset (h : TD M b x M' b' y R B w) (hR : ∀ k, R k → k < w.heap.size) (hB : B ≤ w.heap.size) (h2 : 2 ≤ B) (hW : Wd w) :
    Calls Tryz.prog 13 #[.pointer (some ⟨b, 0, none⟩)] w fun e w' => e = .returned (.tuple #[]) ∧ TD M b (anewD x) M' b' y R B w' ∧ Chg (fun k => B ≤ k ∧ ¬ R k) w w' := by
  obtain ⟨S, T, g1, g2, g3, g4, g5⟩ := h
  refine (dreset_any w hW g1 (fun k hk => by have := (g4 k hk).1; omega)).mono ?_
  rintro e w' ⟨rfl, hl⟩
  exact ⟨rfl, Two.left (dvO _ _ _) g2 g3 g4 g5 hR hB hl⟩

theorem td_reset2 (h : TD M b x M' b' y R B w) (hR : ∀ k, R k → k < w.heap.size) (hB : B ≤ w.heap.size) (h2 : 2 ≤ B) (hW : Wd w) :
    Calls Tryz.prog 13 #[.pointer (some ⟨b', 0, none⟩)] w fun e w' => e = .returned (.tuple #[]) ∧ TD M b x M' b' (anewD y) R B w' ∧ Chg (fun k => B ≤ k ∧ ¬ R k) w w' :=
  (td_reset h.swap hR hB h2 hW).mono fun _ _ ⟨he, h1, hc⟩ => ⟨he, h1.swap, hc⟩

theorem td_tick (h : TD M b x M' b' y R B w) (hR : ∀ k, R k → k < w.heap.size) (hB : B ≤ w.heap.size) (h2 : 2 ≤ B) (hW : Wd w) (hM : M ≤ 1000000) :
    Calls Tryz.prog 15 #[.pointer (some ⟨b, 0, none⟩)] w fun e w' => ∃ v R', e = .returned v ∧ (∀ k, R k → R' k) ∧ (∀ k, R' k → k < w'.heap.size) ∧ RowsV R' w' v ((tickO x).map frmY) ∧ TD (M + 1) b (tickD x) M' b' y R' B w' ∧ Chg (fun k => B ≤ k ∧ ¬ R k) w w' := by
  obtain ⟨S, T, g1, g2, g3, g4, g5⟩ := h
  refine (dtick_any w hW g1 (fun k hk => by have := (g4 k hk).1; omega) hM).mono ?_
  rintro e w' ⟨S', v, rfl, hr, hd, hc, hs⟩
  have lt2 := (dvO M' b' y).lt g2
  have hsz := hc.size
  refine ⟨v, fun k => R k ∨ (w.heap.size ≤ k ∧ k < w'.heap.size ∧ ¬ S' k), rfl, fun k hk => .inl hk, fun k hk => ?_, hr.mono (fun k hk => .inr hk), ⟨S', T, hd, (dvO M' b' y).kept g2 hc (fun k hk q => g3 k q hk), fun k hk q => ?_, fun k hk => ⟨?_, fun q => ?_⟩, fun k hk => ⟨(g5 k hk).1, fun q => ?_⟩⟩, hc.mono (fun k hk _ => g4 k hk)⟩
  · rcases hk with q | q
    · have := hR k q; omega
    · exact q.2.1
  · rcases hs k hk with r | r
    · exact g3 k r q
    · have := lt2 k q; omega
  · rcases hs k hk with r | r
    · exact (g4 k r).1
    · omega
  · rcases q with q | q
    · rcases hs k hk with r | r
      · exact (g4 k r).2 q
      · have := hR k q; omega
    · exact q.2.2 hk
  · rcases q with q | q
    · exact (g5 k hk).2 q
    · have := lt2 k hk; omega

theorem td_tick2 (h : TD M b x M' b' y R B w) (hR : ∀ k, R k → k < w.heap.size) (hB : B ≤ w.heap.size) (h2 : 2 ≤ B) (hW : Wd w) (hM : M' ≤ 1000000) :
    Calls Tryz.prog 15 #[.pointer (some ⟨b', 0, none⟩)] w fun e w' => ∃ v R', e = .returned v ∧ (∀ k, R k → R' k) ∧ (∀ k, R' k → k < w'.heap.size) ∧ RowsV R' w' v ((tickO y).map frmY) ∧ TD M b x (M' + 1) b' (tickD y) R' B w' ∧ Chg (fun k => B ≤ k ∧ ¬ R k) w w' :=
  (td_tick h.swap hR hB h2 hW hM).mono fun _ _ ⟨v, R', he, h1, h2, h3, h4, h5⟩ => ⟨v, R', he, h1, h2, h3, h4.swap, h5⟩

theorem td_kept (h : TD M b x M' b' y R B w) :
    Calls Tryz.prog 17 #[.pointer (some ⟨b, 0, none⟩)] w fun e w' => e = .returned (.int .i64 (x.kept.length : Int)) ∧ Below w.heap.size w w' := by
  obtain ⟨S, T, g1, _⟩ := h
  exact dkept_any w g1

theorem td_out (h : TD M b x M' b' y R B w) :
    Calls Tryz.prog 18 #[.pointer (some ⟨b, 0, none⟩)] w fun e w' => e = .returned (.int .i64 (x.snd.fl.length : Int)) ∧ Below w.heap.size w w' := by
  obtain ⟨S, T, g1, _⟩ := h
  exact dout_any w g1

theorem td_sess (h : TD M b x M' b' y R B w) :
    Calls Tryz.prog 20 #[.pointer (some ⟨b, 0, none⟩)] w fun e w' => e = .returned (.int .i64 (x.session : Int)) ∧ Below w.heap.size w w' := by
  obtain ⟨S, T, g1, _⟩ := h
  exact dsess_any w g1

theorem td_lost (h : TD M b x M' b' y R B w) :
    Calls Tryz.prog 19 #[.pointer (some ⟨b, 0, none⟩)] w fun e w' => e = .returned (.int .i64 (x.snd.lost : Int)) ∧ Below w.heap.size w w' := by
  obtain ⟨S, T, g1, _⟩ := h
  exact dlost_any w g1

theorem chg_out {B0 : Nat} (h : Chg (fun k => B ≤ k ∧ ¬ R k) w w') (hB : B ≤ w.heap.size) (h0 : B0 ≤ B) : Below B0 w w' := h.below (by omega) (fun k hk => by have := hk.1; omega)

end Go.Proofs.YthhggjakenalpaaGreatDoor
