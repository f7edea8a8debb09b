/- A device and a collector apart from one another; a row of samples that is held. -/
import Derived.Test.YthhggjakenalpaaGreatDoorDvLaw
import Derived.Test.YthhggjakenalpaaGreatDoorMCo
import Derived.Test.YthhggjakenalpaaGreatDoorRcK7
import Derived.Test.YthhggjakenalpaaGreatDoorRcRefS
import Derived.Test.YthhggjakenalpaaGreatDoorRcArg
namespace Go.Proofs.YthhggjakenalpaaGreatDoor
set_option maxRecDepth 100000
open Go.RowKit
open Bt

/-- A collector as something that owns its blocks. -/
def ColO (b : Nat) (c : Col) : (Nat → Prop) → World → Prop := fun S w => Coll S w b c

theorem colO (b : Nat) (c : Col) : Owned (ColO b c) := ⟨fun h hc hT => Coll.kept h hc hT, fun h => Coll.lt h⟩

/-- A row of samples in blocks that are held. -/
def SR (R : Nat → Prop) (w : World) (v : Value) (l : List Smp) : Prop := w.ownsRow 0 35 3 v l.length (mcells l) ∧ ∀ k, v.ownBlock = some k → R k

section
variable {P Q : (Nat → Prop) → World → Prop} {R R' : Nat → Prop} {w w' : World} {B : Nat} {v v' : Value} {l : List Smp}

theorem SR.mono (h : SR R w v l) (hR : ∀ k, R k → R' k) : SR R' w v l := ⟨h.1, fun k hk => hR k (h.2 k hk)⟩

theorem SR.kept {U : Nat → Prop} (h : SR R w v l) (hc : Chg U w w') (hU : ∀ k, R k → ¬ U k) : SR R w' v l :=
  ⟨ownsRow_keep h.1 fun k hk => hc.block k (World.ownsRow.lt h.1 k hk).2 (hU k (h.2 k hk)), h.2⟩

theorem SR.below (h : SR R w v l) (hb : Below w.heap.size w w') : SR R w' v l := h.kept (below_chg hb) (fun _ _ => id)

theorem SR.form (h : SR R w v l) : ∃ ao c, v = .slice ao l.length c := by
  obtain ⟨ao, c, e, _⟩ := ownsRow_form h.1
  exact ⟨ao, c, e⟩

theorem SR.sms (h : SR R w v l) : SmsAt R w v l := sms_of_owns h.1 h.2

theorem sr_none (R : Nat → Prop) (w : World) : SR R w (.slice none 0 0) [] := ⟨World.ownsRow_nil _ _ _ _, fun k hk => by simp [Value.ownBlock] at hk⟩

/-- What is held behind an append. -/
def moreR (R : Nat → Prop) (w w' : World) : Nat → Prop := fun k => R k ∨ (w.heap.size ≤ k ∧ k < w'.heap.size)

theorem moreR_lt (hR : ∀ k, R k → k < w.heap.size) (hs : w.heap.size ≤ w'.heap.size) : ∀ k, moreR R w w' k → k < w'.heap.size := fun k hk => by
  rcases hk with q | q
  · have := hR k q; omega
  · exact q.2

/-- Behind an append onto it. -/
theorem SR.grown (h : SR R w v l) {m : List Smp} (hown : w'.ownsRow 0 35 3 v' (l.length + m.length) (mcells l ++ mcells m)) (hat : v'.ownBlock = v.ownBlock ∨ v'.ownBlock = some w.heap.size) : SR (moreR R w w') w' v' (l ++ m) := by
  refine ⟨by rw [List.length_append, mcells_append]; exact hown, fun k hk => ?_⟩
  have hlt := (World.ownsRow.lt hown k hk).2
  rcases hat with q | q
  · exact .inl (h.2 k (q.symm.trans hk))
  · rw [q] at hk
    cases hk
    exact .inr ⟨Nat.le_refl _, hlt⟩

theorem grown_chgO {ob : Option Nat} (hg : w.grownBy w' ob) : Chg (fun k => ob = some k) w w' := ⟨hg.os, hg.tape, hg.output, hg.size, fun k hk hn => hg.block k hk (fun q => hn q.symm)⟩

/-- Another held row, behind an append. -/
theorem SR.other {u : Value} {m : List Smp} (h : SR R w u m) {ob : Option Nat} (hg : w.grownBy w' ob) (hne : ∀ k, u.ownBlock = some k → ob ≠ some k) : SR (moreR R w w') w' u m :=
  ⟨ownsRow_keep h.1 fun k hk => (grown_chgO hg).block k (World.ownsRow.lt h.1 k hk).2 (hne k hk), fun k hk => .inl (h.2 k hk)⟩

theorem apart_grown {u : Value} {m : List Smp} (h : SR R w u m) (hap : ∀ k, u.ownBlock = some k → v.ownBlock ≠ some k) (hat : v'.ownBlock = v.ownBlock ∨ v'.ownBlock = some w.heap.size) : ∀ k, u.ownBlock = some k → v'.ownBlock ≠ some k := fun k hk q => by
  rcases hat with z | z
  · exact hap k hk (z.symm.trans q)
  · rw [z] at q
    cases q
    have := (World.ownsRow.lt h.1 _ hk).2
    omega

theorem two_impO {P' : (Nat → Prop) → World → Prop} (h : Two P Q R B w) (f : ∀ S, P S w → P' S w) : Two P' Q R B w := by
  obtain ⟨S, T, h1, h2, h3⟩ := h
  exact ⟨S, T, f S h1, h2, h3⟩

theorem Two.grown (O : Owned P) (O' : Owned Q) (h : Two P Q R B w) {ob : Option Nat} (hg : w.grownBy w' ob) (hv : ∀ k, ob = some k → R k) : Two P Q (moreR R w w') B w' := by
  obtain ⟨S, T, h1, h2, h3, h4, h5⟩ := h
  have hc := grown_chgO hg
  refine ⟨S, T, O.kept h1 hc (fun k hk q => (h4 k hk).2 (hv k q)), O'.kept h2 hc (fun k hk q => (h5 k hk).2 (hv k q)), h3, fun k hk => ⟨(h4 k hk).1, fun q => ?_⟩, fun k hk => ⟨(h5 k hk).1, fun q => ?_⟩⟩
  · rcases q with q | q
    · exact (h4 k hk).2 q
    · have := O.lt h1 k hk; omega
  · rcases q with q | q
    · exact (h5 k hk).2 q
    · have := O'.lt h2 k hk; omega

theorem One.grown (O : Owned P) (h : One P R w w) {ob : Option Nat} (hg : w.grownBy w' ob) (hv : ∀ k, ob = some k → R k) : One P (moreR R w w') w' w' := by
  obtain ⟨S, h1, h2, h3, _⟩ := h
  refine ⟨S, O.kept h1 (grown_chgO hg) (fun k hk q => h2 k hk (hv k q)), fun k hk q => ?_, moreR_lt h3 hg.size, Chg.refl _ _⟩
  rcases q with q | q
  · exact h2 k hk q
  · have := O.lt h1 k hk; omega

/-- What a change outside the held blocks leaves. -/
theorem chgR_out {B1 : Nat} (hc : Chg (fun k => B ≤ k ∧ ¬ R k) w w') (hB : ∀ k, k < B1 → R k) (hle : B1 ≤ w.heap.size) : Below B1 w w' := hc.below hle (fun k hk => by
  rcases Nat.lt_or_ge k B1 with q | q
  · exact absurd (hB k q) hk.2
  · exact q)

/-- Samples as what is appended. -/
theorem src_sms {a : Option Addr} {n c : Nat} (h : SmsAt R w (.slice a n c) l) (hn : n = l.length) (hc : a = none → c = 0) : SrcV w 3 (.slice a n c) n (mcells l) := by
  obtain ⟨ao, cap, e, hp⟩ := h
  cases e
  rcases Nat.eq_zero_or_pos l.length with z | z
  · have hl : l = [] := List.eq_nil_of_length_eq_zero z
    subst hl
    cases a with
    | none => exact .inl ⟨by rw [hc rfl]; rfl, rfl, rfl⟩
    | some ad => exact .inr ⟨ad, c, rfl, rfl, fun j u hu => by simp [mcells] at hu⟩
  · obtain ⟨pb, off, rfl, _, hq⟩ := hp z
    refine .inr ⟨_, c, rfl, mcells_length l, fun j u hu => ?_⟩
    have hj : j < l.length * 3 := by rw [← mcells_length]; exact (List.getElem?_eq_some_iff.1 hu).1
    have ht : j / 3 < l.length := by omega
    obtain ⟨q0, q1, q2⟩ := hq (j / 3) ht
    have m := mcells_at l ht (j := j % 3) (Nat.mod_lt _ (by decide))
    have e3 : j / 3 * 3 + j % 3 = j := by omega
    rw [e3, hu] at m
    rw [WideShapes.add_plain]
    have h3 : j % 3 = 0 ∨ j % 3 = 1 ∨ j % 3 = 2 := by omega
    rcases h3 with r | r | r
    · rw [r] at m
      rw [show off + j = off + j / 3 * 3 by omega, q0]
      exact m.symm
    · rw [r] at m
      rw [show off + j = off + j / 3 * 3 + 1 by omega, q1]
      exact m.symm
    · rw [r] at m
      rw [show off + j = off + j / 3 * 3 + 2 by omega, q2]
      exact m.symm

end

/-! ### A device and a collector -/

abbrev OC (M b : Nat) (x : Dev) (b' : Nat) (c : Col) (R : Nat → Prop) (w : World) : Prop := Two (DvS M b x) (ColO b' c) R 2 w

variable {M b b' : Nat} {x : Dev} {c : Col} {R : Nat → Prop} {w w' : World}

theorem OC.ok (h : OC M b x b' c R w) : x.Ok M := by
  obtain ⟨S, T, h1, _⟩ := h
  exact h1.ok

theorem oc_tick (h : OC M b x b' c R w) (hR : ∀ k, R k → k < w.heap.size) (h2 : 2 ≤ w.heap.size) (hW : Wd w) (hM : M ≤ 1000000) :
    Calls Tryz.prog 15 #[.pointer (some ⟨b, 0, none⟩)] w fun e w' => ∃ v R', e = .returned v ∧ (∀ k, R k → R' k) ∧ (∀ k, R' k → k < w'.heap.size) ∧ RowsV R' w' v ((tickO x).map frmY) ∧ OC (M + 1) b (tickD x) b' c R' w' ∧ Chg (fun k => 2 ≤ k ∧ ¬ R k) w w' := by
  obtain ⟨S, T, g1, g2, g3, g4, g5⟩ := h
  refine (dtick_any w hW g1 (fun k hk => (g4 k hk).1) hM).mono ?_
  rintro e w' ⟨S', v, rfl, hr, hd, hc, hs⟩
  have lt2 := (colO b' c).lt g2
  have hsz := hc.size
  refine ⟨v, fun k => R k ∨ (w.heap.size ≤ k ∧ k < w'.heap.size ∧ ¬ S' k), rfl, fun k hk => .inl hk, fun k hk => ?_, hr.mono (fun k hk => .inr hk), ⟨S', T, hd, (colO b' c).kept g2 hc (fun k hk q => g3 k q hk), fun k hk q => ?_, fun k hk => ⟨?_, fun q => ?_⟩, fun k hk => ⟨(g5 k hk).1, fun q => ?_⟩⟩, hc.mono (fun k hk _ => g4 k hk)⟩
  · rcases hk with q | q
    · have := hR k q; omega
    · exact q.2.1
  · rcases hs k hk with r | r
    · exact g3 k r q
    · have := lt2 k q; omega
  · rcases hs k hk with r | r
    · exact (g4 k r).1
    · omega
  · rcases q with q | q
    · rcases hs k hk with r | r
      · exact (g4 k r).2 q
      · have := hR k q; omega
    · exact q.2.2 hk
  · rcases q with q | q
    · exact (g5 k hk).2 q
    · have := lt2 k hk; omega

theorem oc_hear {Q : Nat → Prop} (v : Value) (bs : List Nat) (hl : bs.length ≤ 100000) (h256 : Byt bs) (h : OC M b x b' c R w) (hR : ∀ k, R k → k < w.heap.size) (h2 : 2 ≤ w.heap.size) (hW : Wd w) (hv : RwV Q w v bs) (hM : M ≤ 1000000) :
    Calls Tryz.prog 16 #[.pointer (some ⟨b, 0, none⟩), v] w fun e w' => e = .returned (.bool (hearB x bs)) ∧ OC (M + 4) b (hearD x bs) b' c R w' ∧ Chg (fun k => 2 ≤ k ∧ ¬ R k) w w' := by
  obtain ⟨a, cc, rfl, hr, _, hm, _⟩ := hv
  exact h.call (colO _ _) hR h2 fun _ hS => dhear_any a cc bs hl hm.1 hm.2 h256 w hW hr hS hM

theorem oc_shard (g p : Int) (ao : Option Addr) (cap : Nat) (bs : List Nat) (hb : Byt bs) (hroom : Room ao cap bs.length) (h : OC M b x b' c R w) (hR : ∀ k, R k → k < w.heap.size) (h2 : 2 ≤ w.heap.size) (hr : Reads w ao bs) (hF : 0 < bs.length → ∀ ad, ao = some ad → R ad.block) :
    Calls Tryz.prog 29 #[.pointer (some ⟨b', 0, none⟩), .int .i64 g, .int .i64 p, .slice ao bs.length cap] w fun e w' => e = .returned (.int .i64 (shardE c g p bs.length)) ∧ OC M b x b' (shardC c g p bs) R w' ∧ Chg (fun k => 2 ≤ k ∧ ¬ R k) w w' := by
  obtain ⟨S, T, g1, g2, g3, g4, g5⟩ := h
  refine (cshard_any b' g p ao cap bs hb hroom T c w g2 hr (fun h0 ad ha q => (g5 _ q).2 (hF h0 ad ha))).mono ?_
  rintro e w' ⟨rfl, hl⟩
  have hl' : LeftG (ColO b' (shardC c g p bs)) T w w' := hl
  obtain ⟨q1, q2⟩ := Two.left (dvO M b x) g1 (fun k hk q => g3 k q hk) g5 g4 hR h2 hl'
  exact ⟨rfl, q1.swap, q2⟩

theorem oc_due (h : OC M b x b' c R w) (hR : ∀ k, R k → k < w.heap.size) (h2 : 2 ≤ w.heap.size) :
    Calls Tryz.prog 30 #[.pointer (some ⟨b', 0, none⟩)] w fun e w' => ∃ v, e = .returned v ∧ PartsAt w.heap.size w' v (dueP c) ∧ OC M b x b' (dueC c) R w' ∧ Chg (fun k => 2 ≤ k ∧ ¬ R k) w w' := by
  obtain ⟨S, T, g1, g2, g3, g4, g5⟩ := h
  refine (cdue_any b' T c w g2).mono ?_
  rintro e w' ⟨v, rfl, hp, hl⟩
  have hl' : LeftG (ColO b' (dueC c)) T w w' := hl
  obtain ⟨q1, q2⟩ := Two.left (dvO M b x) g1 (fun k hk q => g3 k q hk) g5 g4 hR h2 hl'
  exact ⟨v, rfl, hp, q1.swap, q2⟩

theorem oc_base (h : OC M b x b' c R w) :
    Calls Tryz.prog 33 #[.pointer (some ⟨b', 0, none⟩)] w fun e w' => e = .returned (.int .i64 (c.base : Int)) ∧ Below w.heap.size w w' := by
  obtain ⟨S, T, g1, g2, _⟩ := h
  exact cbase_any b' T c w g2

theorem oc_ready (h : OC M b x b' c R w) :
    Calls Tryz.prog 34 #[.pointer (some ⟨b', 0, none⟩)] w fun e w' => e = .returned (.int .i64 (readyN c : Int)) ∧ Below w.heap.size w w' := by
  obtain ⟨S, T, g1, g2, _⟩ := h
  exact cready_any b' T c w g2

theorem oc_kept (h : OC M b x b' c R w) :
    Calls Tryz.prog 17 #[.pointer (some ⟨b, 0, none⟩)] w fun e w' => e = .returned (.int .i64 (x.kept.length : Int)) ∧ Below w.heap.size w w' := by
  obtain ⟨S, T, g1, _⟩ := h
  exact dkept_any w g1

theorem oc_out (h : OC M b x b' c R w) :
    Calls Tryz.prog 18 #[.pointer (some ⟨b, 0, none⟩)] w fun e w' => e = .returned (.int .i64 (x.snd.fl.length : Int)) ∧ Below w.heap.size w w' := by
  obtain ⟨S, T, g1, _⟩ := h
  exact dout_any w g1

theorem oc_below (h : OC M b x b' c R w) (hb : Below w.heap.size w w') : OC M b x b' c R w' := Two.below (dvO _ _ _) (colO _ _) h hb

/-- A new collector beside a device. -/
theorem oc_new {F : Nat → Prop} (h : One (DvS M b x) R w w) (h2 : ∀ k, k < 2 → R k) (hC : Coll F w' b' c) (hF : ∀ k, F k → w.heap.size ≤ k) (hb : Below w.heap.size w w') (hz : 2 ≤ w.heap.size) : OC M b x b' c R w' := by
  obtain ⟨S, g1, g2, g3, _⟩ := h
  have ltS := (dvO M b x).lt g1
  refine ⟨S, F, (dvO M b x).kept g1 (below_chg hb) (fun _ _ => id), hC, fun k hk q => ?_, fun k hk => ⟨?_, g2 k hk⟩, fun k hk => ⟨?_, fun q => ?_⟩⟩
  · have := ltS k hk; have := hF k q; omega
  · rcases Nat.lt_or_ge k 2 with q | q
    · exact absurd (h2 k q) (g2 k hk)
    · exact q
  · have := hF k hk; omega
  · have := hF k hk; have := g3 k q; omega

end Go.Proofs.YthhggjakenalpaaGreatDoor
