/- Several texts, one behind the other: DvAir DvK5 DvK6 DvTick DvK7 DvK8 DvCon DvAlive. -/
import Derived.Test.YthhggjakenalpaaGreatDoorApRow
import Derived.Test.YthhggjakenalpaaGreatDoorOwnG
import Derived.Test.YthhggjakenalpaaGreatDoorMSnA
import Derived.Test.YthhggjakenalpaaGreatDoorMPlain
import Derived.Test.YthhggjakenalpaaGreatDoorMDvA
import Derived.Test.YthhggjakenalpaaGreatDoorMFrmA
import Derived.Deep.RegionLaw
import Derived.Test.YthhggjakenalpaaGreatDoorSnKb
import Derived.Test.YthhggjakenalpaaGreatDoorMFrmB
import Derived.Test.YthhggjakenalpaaGreatDoorMSnE
import Derived.BigQuiet
/- Package device: what goes out at a tick, as it is made: a box that holds a list of rows of bytes. -/
namespace Go.Proofs.YthhggjakenalpaaGreatDoor
set_option maxRecDepth 100000
open Go.RowKit
open Bt

/-- A row of bytes as a value; its block lies in Q. -/
def RwV (Q : Nat → Prop) (w : World) (v : Value) (bs : List Nat) : Prop :=
  ∃ a c, v = .slice a bs.length c ∧ Reads w a bs ∧ (a = none → c = 0) ∧ (bs.length ≤ c ∧ c ≤ 9223372036854775807) ∧ (0 < bs.length → ∀ ad, a = some ad → Q ad.block)

theorem RwV.kept {Q U : Nat → Prop} {w w' : World} {v : Value} {bs : List Nat} (h : RwV Q w v bs) (hc : Chg U w w') (hQ : ∀ k, Q k → ¬ U k) : RwV Q w' v bs := by
  obtain ⟨a, c, e, r, n, m, q⟩ := h
  refine ⟨a, c, e, ?_, n, m, q⟩
  rcases Nat.eq_zero_or_pos bs.length with z | z
  · rw [List.eq_nil_of_length_eq_zero z]; exact reads_empty
  · exact r.kept hc (fun ad ha => hQ _ (q z ad ha))

theorem RwV.mono {Q Q' : Nat → Prop} {w : World} {v : Value} {bs : List Nat} (h : RwV Q w v bs) (hQ : ∀ k, Q k → Q' k) : RwV Q' w v bs := by
  obtain ⟨a, c, e, r, n, m, q⟩ := h
  exact ⟨a, c, e, r, n, m, fun z ad ha => hQ _ (q z ad ha)⟩

/-- A list of rows as a value. -/
def RowsV (R : Nat → Prop) (w : World) (v : Value) (L : List (List Nat)) : Prop :=
  ∃ ao cap, v = .slice ao L.length cap ∧ (0 < L.length → ∃ g, ao = some ⟨g, 0, none⟩ ∧ R g ∧ ∀ t, t < L.length → ∃ u, w.cell? ⟨g, t, none⟩ = some u ∧ RwV R w u (L.getD t []))

theorem RowsV.kept {R U : Nat → Prop} {w w' : World} {v : Value} {L : List (List Nat)} (h : RowsV R w v L) (hc : Chg U w w') (hR : ∀ k, R k → ¬ U k) : RowsV R w' v L := by
  obtain ⟨ao, cap, e, h⟩ := h
  refine ⟨ao, cap, e, fun z => ?_⟩
  obtain ⟨g, ha, hg, hr⟩ := h z
  refine ⟨g, ha, hg, fun t ht => ?_⟩
  obtain ⟨u, hu, hv⟩ := hr t ht
  exact ⟨u, cell_chg hc hu (hR g hg), hv.kept hc hR⟩

theorem RowsV.mono {R R' : Nat → Prop} {w : World} {v : Value} {L : List (List Nat)} (h : RowsV R w v L) (hR : ∀ k, R k → R' k) : RowsV R' w v L := by
  obtain ⟨ao, cap, e, h⟩ := h
  refine ⟨ao, cap, e, fun z => ?_⟩
  obtain ⟨g, ha, hg, hr⟩ := h z
  refine ⟨g, ha, hR g hg, fun t ht => ?_⟩
  obtain ⟨u, hu, hv⟩ := hr t ht
  exact ⟨u, hu, hv.mono hR⟩

/-- The box bx holds the rows L; all that it is made of lies in S. -/
def AirP (bx : Nat) (L : List (List Nat)) (S : Nat → Prop) (w : World) : Prop :=
  ∃ v xs, w.heap[bx]? = some (.cells #[v] 79 (0, 0)) ∧ w.ownsRow 0 42 1 v L.length xs ∧ S bx ∧ (∀ k, v.ownBlock = some k → S k ∧ k ≠ bx) ∧
    (∀ t, t < L.length → ∃ u, xs[t]? = some u ∧ RwV (fun k => S k ∧ k ≠ bx ∧ v.ownBlock ≠ some k) w u (L.getD t [])) ∧ (∀ k, S k → k < w.heap.size)

theorem airO (bx : Nat) (L : List (List Nat)) : Owned (AirP bx L) := by
  refine ⟨fun h hc hT => ?_, fun h => ?_⟩
  · obtain ⟨v, xs, hb, ho, hS, hv, hr, hl⟩ := h
    refine ⟨v, xs, (hc.block bx (hl bx hS) (hT bx hS)).trans hb, ownsRow_keep ho (fun k hk => hc.block k (hl k (hv k hk).1) (hT k (hv k hk).1)), hS, hv, fun t ht => ?_, fun k hk => Nat.lt_of_lt_of_le (hl k hk) hc.size⟩
    obtain ⟨u, hu, hq⟩ := hr t ht
    exact ⟨u, hu, hq.kept hc (fun k hk => hT k hk.1)⟩
  · obtain ⟨v, xs, hb, ho, hS, hv, hr, hl⟩ := h
    exact hl

theorem air_new {w : World} {bx : Nat} (hb : w.heap[bx]? = some (.cells #[.slice none 0 0] 79 (0, 0))) : AirP bx [] (fun k => k = bx) w :=
  ⟨_, [], hb, World.ownsRow_nil _ _ _ _, rfl, fun k hk => by simp [Value.ownBlock] at hk, fun t ht => absurd ht (by simp), fun k hk => by rw [hk]; exact lt_of_heap hb⟩

theorem getD_snocD {L : List (List Nat)} {bs : List Nat} {t : Nat} (ht : t < L.length) : (L ++ [bs]).getD t [] = L.getD t [] := by
  rw [List.getD_eq_getElem?_getD, List.getElem?_append_left ht, ← List.getD_eq_getElem?_getD]

theorem getD_lastD (L : List (List Nat)) (bs : List Nat) : (L ++ [bs]).getD L.length [] = bs := by
  rw [List.getD_eq_getElem?_getD, List.getElem?_append_right (Nat.le_refl _)]; simp

/-- A row is appended. -/
theorem AirP.grew {bx : Nat} {L : List (List Nat)} {S : Nat → Prop} {w w1 w2 : World} {v v' : Value} {xs : List Value} {ao : Option Addr} {c : Nat} {bs : List Nat} (h : AirP bx L S w) (hv0 : w.cell? ⟨bx, 0, none⟩ = some v) (ho0 : w.ownsRow 0 42 1 v L.length xs)
    (hb : Below w.heap.size w w1) (hr : Reads w1 ao bs) (hn : ao = none → c = 0) (hm : bs.length ≤ c ∧ c ≤ 9223372036854775807) (hnew : ∀ ad, ao = some ad → w.heap.size ≤ ad.block)
    (hown : w2.ownsRow 0 42 1 v' (L.length + 1) (xs ++ [.slice ao bs.length c])) (hgrow : w1.grownBy w2 v.ownBlock) (hat : v'.ownBlock = v.ownBlock ∨ v'.ownBlock = some w1.heap.size) :
    (w2.cell? ⟨bx, 0, none⟩ = some v ∧ w2.frozen? ⟨bx, 0, none⟩ = false) ∧ LeftG (AirP bx (L ++ [bs])) S w (w2.setCell ⟨bx, 0, none⟩ v') := by
  obtain ⟨v1, xs1, hbx, ho, hS, hv, hrw, hl⟩ := h
  have e1 : v1 = v := by
    rw [cell_of_row w bx 0 _ _ _ hbx] at hv0
    simpa using hv0
  subst e1
  have ex : xs1 = xs := by
    have l1 := ho.1
    have l2 := ho0.1
    refine List.ext_getElem? fun j => ?_
    rcases Nat.lt_or_ge j (L.length * 1) with q | q
    · rcases ho.2 with ⟨r, r0⟩ | ⟨g, cap, cur, r, _⟩
      · omega
      · subst r
        have a1 := ho.cellAt j (by omega)
        have a2 := ho0.cellAt j (by omega)
        rw [← a1, ← a2]
    · rw [List.getElem?_eq_none (by omega), List.getElem?_eq_none (by omega)]
  subst ex
  have hsz := hb.size
  have hgs := hgrow.size
  have hbl := hl bx hS
  have keep : ∀ k, k < w.heap.size → v1.ownBlock ≠ some k → w2.heap[k]? = w.heap[k]? := fun k hk hne => (hgrow.block k (by omega) (fun q => hne q.symm)).trans (hb.block k hk)
  have hd : w2.heap[bx]? = some (.cells #[v1] 79 (0, 0)) := (keep bx hbl (fun q => (hv bx q).2 rfl)).trans hbx
  refine ⟨⟨by rw [cell_of_row w2 _ 0 _ _ _ hd]; rfl, frozen_of_row w2 _ 0 _ _ hd⟩, ?_⟩
  have hc1 : Chg (fun k => v1.ownBlock = some k) w1 w2 := ⟨hgrow.os, hgrow.tape, hgrow.output, hgs, fun k hk hn => hgrow.block k hk (fun q => hn q.symm)⟩
  have hc2 : Chg (fun k => k = bx) w2 (w2.setCell ⟨bx, 0, none⟩ v') := (Chg.refl (fun k => k = bx) w2).setCell (p := ⟨bx, 0, none⟩) (fun _ => rfl) v'
  have hc12 : Chg (fun k => v1.ownBlock = some k ∨ k = bx) w1 (w2.setCell ⟨bx, 0, none⟩ v') := (hc1.mono (fun k q _ => Or.inl q)).trans hc2 (fun k q _ => Or.inr q)
  have hc : Chg S w (w2.setCell ⟨bx, 0, none⟩ v') := ((below_chg hb).mono (fun _ f _ => f.elim)).trans hc12 (fun k q _ => by
    rcases q with q | q
    · exact (hv k q).1
    · rw [q]; exact hS)
  have hsf : (w2.setCell ⟨bx, 0, none⟩ v').heap.size = w2.heap.size := by simp
  have hvb : ∀ k, v'.ownBlock = some k → (S k ∨ w.heap.size ≤ k) ∧ k ≠ bx ∧ k < w2.heap.size := fun k hk => by
    have hlt := (World.ownsRow.lt hown k hk).2
    rcases hat with r | r
    · have := hv k (r.symm.trans hk)
      exact ⟨.inl this.1, this.2, hlt⟩
    · rw [hk] at r; cases r
      exact ⟨.inr hsz, by omega, hlt⟩
  have rowsOk : ∀ (u : Value) (bs' : List Nat), RwV (fun k => S k ∧ k ≠ bx ∧ v1.ownBlock ≠ some k) w u bs' → RwV (fun k => (S k ∨ (w.heap.size ≤ k ∧ k < w2.heap.size)) ∧ k ≠ bx ∧ v'.ownBlock ≠ some k) (w2.setCell ⟨bx, 0, none⟩ v') u bs' := fun u bs' q => by
    have q1 := (q.kept (below_chg hb) (fun _ _ => id)).kept hc12 (fun k hk r => by
      rcases r with r | r
      · exact hk.2.2 r
      · exact hk.2.1 r)
    refine q1.mono fun k hk => ⟨.inl hk.1, hk.2.1, fun r => ?_⟩
    have := hl k hk.1
    rcases hat with t | t
    · exact hk.2.2 (t.symm.trans r)
    · rw [t] at r; cases r; omega
  refine ⟨fun k => S k ∨ (w.heap.size ≤ k ∧ k < w2.heap.size), ⟨v', xs1 ++ [.slice ao bs.length c], ?_, ?_, .inl hS, fun k hk => ?_, fun t ht => ?_, fun k hk => ?_⟩, hc, fun k hk => ?_⟩
  · rw [heap_setCell_same w2 bx 0 _ _ _ hd]; rfl
  · rw [List.length_append]
    exact ownsRow_keep hown fun k hk => heap_setCell_other _ _ _ _ (fun q => (hvb k hk).2.1 (by simpa using q))
  · obtain ⟨q1, q2, q3⟩ := hvb k hk
    refine ⟨?_, q2⟩
    rcases q1 with q | q
    · exact .inl q
    · exact .inr ⟨q, q3⟩
  · rw [List.length_append, List.length_singleton] at ht
    have hx : xs1.length = L.length := by have := ho.1; omega
    rcases Nat.lt_or_ge t L.length with q | q
    · obtain ⟨u, hu, hq⟩ := hrw t q
      refine ⟨u, by rw [List.getElem?_append_left (by omega)]; exact hu, ?_⟩
      rw [getD_snocD q]
      exact rowsOk u _ hq
    · obtain rfl : t = L.length := by omega
      refine ⟨_, by rw [List.getElem?_append_right (by omega), hx]; simp; rfl, ?_⟩
      rw [getD_lastD]
      have lt1 : 0 < bs.length → ∀ ad, ao = some ad → ad.block < w1.heap.size := fun z ad ha => by
        obtain ⟨bb, off, e, hc⟩ := reads_at hr z
        rw [e] at ha; cases ha
        have := cell_lt (hc 0 z)
        exact this
      have base : RwV (fun k => (S k ∨ (w.heap.size ≤ k ∧ k < w2.heap.size)) ∧ k ≠ bx ∧ v1.ownBlock ≠ some k ∧ v'.ownBlock ≠ some k) w1 (.slice ao bs.length c) bs := by
        refine ⟨ao, c, rfl, hr, hn, hm, fun z ad ha => ?_⟩
        have h1 := lt1 z ad ha
        have h2 := hnew ad ha
        refine ⟨.inr ⟨h2, by omega⟩, by omega, fun r => ?_, fun r => ?_⟩
        · have := hl _ (hv _ r).1; omega
        · rcases hat with t | t
          · have := hl _ (hv _ (t.symm.trans r)).1; omega
          · rw [t] at r
            have := Option.some.inj r
            omega
      exact (base.kept hc12 (fun k hk r => by
        rcases r with r | r
        · exact hk.2.2.1 r
        · exact hk.2.1 r)).mono (fun k hk => ⟨hk.1, hk.2.1, hk.2.2.2⟩)
  · rw [hsf]
    rcases hk with q | q
    · have := hl k q; omega
    · exact q.2
  · rcases hk with q | q
    · exact .inl q
    · exact .inr q.1

/-- What the box holds. -/
theorem AirP.box {bx : Nat} {L : List (List Nat)} {S : Nat → Prop} {w : World} (h : AirP bx L S w) : ∃ v xs, w.cell? ⟨bx, 0, none⟩ = some v ∧ w.ownsRow 0 42 1 v L.length xs ∧ RowsV S w v L := by
  obtain ⟨v, xs, hb, ho, hS, hv, hr, hl⟩ := h
  refine ⟨v, xs, by rw [cell_of_row w bx 0 _ _ _ hb]; rfl, ho, ?_⟩
  rcases ho.2 with ⟨rfl, h0⟩ | ⟨g, cap, cur, rfl, _⟩
  · exact ⟨none, 0, by rw [h0], fun z => by omega⟩
  · refine ⟨_, cap, rfl, fun _ => ⟨g, rfl, (hv g rfl).1, fun t ht => ?_⟩⟩
    obtain ⟨u, hu, hq⟩ := hr t ht
    exact ⟨u, by rw [ho.cellAt t (by have := ho.1; omega)]; exact hu, hq.mono (fun k hk => hk.1)⟩

end Go.Proofs.YthhggjakenalpaaGreatDoor

/- Package device: air.put. -/
namespace Go.Proofs.YthhggjakenalpaaGreatDoor
set_option maxRecDepth 100000
open Go.RowKit
open Bt

theorem elem_air : ElemT 79 42 1 :=
  ⟨Tryz.underlying79, ⟨_, _, 24, rfl, rfl, rfl, rfl, rfl, by omega⟩, by omega⟩

theorem frmY_eq (f : FrV) : frmY f = putF f.tx f.sq f.an f.rs f.kd f.data := rfl

set_option maxRecDepth 100000 in
set_option maxHeartbeats 2000000 in
theorem aput_any (bx : Nat) (L : List (List Nat)) (hL : L.length ≤ 1000) (f : FrV) (a : Option Addr) (c : Nat) (hn : a = none → c = 0) (hY : Byt f.data) (S : Nat → Prop) (w : World) (hw : Wid w) (hr : Reads w a f.data) (hA : AirP bx L S w) :
    Calls Tryz.prog 45 #[.pointer (some ⟨bx, 0, none⟩), Fr f.tx f.sq f.an f.rs f.kd a f.data.length c] w fun e w' => e = .returned (.tuple #[]) ∧ LeftG (AirP bx (L ++ [frmY f])) S w w' := by
  obtain ⟨v, xs, hv, ho, ao, cap, rfl, _⟩ := hA.box
  have AH := Hid.intro hA
  have hlt := cell_lt hv
  obtain ⟨O, hO⟩ : ∃ O, O = Obj.cells #[.int .i64 f.tx, .int .i64 f.sq, .int .i64 f.an, .int .i64 f.rs, .int .i64 f.kd, .slice a f.data.length c] 55 (0, 0) := ⟨_, rfl⟩
  obtain ⟨W1, hW1⟩ : ∃ W1, W1 = w.alloc O := ⟨_, rfl⟩
  have B0 : Below w.heap.size w W1 := by rw [hW1]; exact (Below.refl _ w).alloc (Nat.le_refl _) O
  have b0 : W1.heap[w.heap.size]? = some O := by rw [hW1]; exact heap_alloc_new w O
  rw [hO] at b0
  have s0 : W1.cell? ⟨w.heap.size, 0, none⟩ = some (.int .i64 f.tx) := by rw [cell_of_row _ _ 0 _ _ _ b0]; rfl
  have s1 : W1.cell? ⟨w.heap.size, 1, none⟩ = some (.int .i64 f.sq) := by rw [cell_of_row _ _ 1 _ _ _ b0]; rfl
  have s2 : W1.cell? ⟨w.heap.size, 2, none⟩ = some (.int .i64 f.an) := by rw [cell_of_row _ _ 2 _ _ _ b0]; rfl
  have s3 : W1.cell? ⟨w.heap.size, 3, none⟩ = some (.int .i64 f.rs) := by rw [cell_of_row _ _ 3 _ _ _ b0]; rfl
  have s4 : W1.cell? ⟨w.heap.size, 4, none⟩ = some (.int .i64 f.kd) := by rw [cell_of_row _ _ 4 _ _ _ b0]; rfl
  have s5 : W1.cell? ⟨w.heap.size, 5, none⟩ = some (.slice a f.data.length c) := by rw [cell_of_row _ _ 5 _ _ _ b0]; rfl
  have k0 := cellD B0 hv
  have PU := Hid.intro (fun (W : World) (hW : Below W1.heap.size W1 W) => put_frame f.tx f.sq f.an f.rs f.kd a c f.data hn hY W (hw.below (B0.trans (hW.mono B0.size))) (hr.below (B0.trans (hW.mono B0.size))))
  have OW := Hid.intro (fun (W : World) (hW : Below W1.heap.size W1 W) => (ownsRow_keep ho fun k hk => (B0.trans (hW.mono B0.size)).block k (World.ownsRow.lt ho k hk).2 : W.ownsRow 0 42 1 (.slice ao L.length cap) L.length xs))
  rw [← frmY_eq] at PU
  have GR := Hid.intro (fun (w1 w2 : World) (v' : Value) (p : Option Addr) (pc : Nat) (h1 : Below W1.heap.size W1 w1) (h2 : Reads w1 p (frmY f)) (h3 : p = none → pc = 0) h4 (h5 : ∀ ad, p = some ad → W1.heap.size ≤ ad.block) h6 (h7 : w1.grownBy w2 (Value.slice ao L.length cap).ownBlock) h8 => AH.out.grew (w1 := w1) (w2 := w2) (v' := v') (ao := p) (c := pc) (bs := frmY f) hv ho (B0.trans (h1.mono B0.size)) h2 h3 h4 (fun ad ha => Nat.le_trans B0.size (h5 ad ha)) h6 h7 h8)
  have EL := Hid.intro elem_air
  have KP := Hid.intro (fun (W : World) (hW : Below W1.heap.size W1 W) => (show W.cell? ⟨bx, 0, none⟩ = some (.slice ao L.length cap) ∧ W.cell? ⟨w.heap.size, 0, none⟩ = some (.int .i64 f.tx) ∧ W.cell? ⟨w.heap.size, 1, none⟩ = some (.int .i64 f.sq) ∧ W.cell? ⟨w.heap.size, 2, none⟩ = some (.int .i64 f.an) ∧ W.cell? ⟨w.heap.size, 3, none⟩ = some (.int .i64 f.rs) ∧ W.cell? ⟨w.heap.size, 4, none⟩ = some (.int .i64 f.kd) ∧ W.cell? ⟨w.heap.size, 5, none⟩ = some (.slice a f.data.length c) from
    ⟨cellD hW k0, cellD hW s0, cellD hW s1, cellD hW s2, cellD hW s3, cellD hW s4, cellD hW s5⟩))
  generalize frmY f = pb at *
  generalize L ++ [pb] = L2 at *
  generalize L.length = n at *
  have B0H := Hid.intro B0
  clear hA hr hw ho AH B0 b0 hv hY
  have hsz : W1.heap.size = w.heap.size + 1 := by rw [hW1]; simp
  subst hO
  go_enter Tryz.func45, Tryz.ntmps45
  go_wp2_with fail
  rw [← hW1]
  clear hW1
  go_region_law (first
    | (refine step_append_row (by rfl) _ _ EL.out (by rfl) (.slice ao n cap) n xs (by rfl) (OW.out _ (bel_allocR E2 (Nat.le_refl _) _)) (.slice (some ⟨w2.heap.size, 0, none⟩) 1 1) 1 [.slice p pb.length pc] (by rfl) (src_block (alloc_atR rfl) rfl) (fun z hz => by rw [List.mem_singleton.1 hz]; rfl) (by omega) ?_; intro v' wb hown hgrow hat; obtain ⟨⟨z1, z2⟩, z3⟩ := GR.out _ _ v' p pc (bel_allocR E2 (Nat.le_refl _) _) (R2.out.below (bel_allocR (Below.refl _ w2) (Nat.le_refl _) _)) N2.out.1 N2.out.2.1 N2.out.2.2 hown hgrow hat; have Z3 := Hid.intro z3; obtain ⟨oa, oc, e, _⟩ := ownsRow_form hown; subst e; clear hown hgrow hat z3)
    | (go_simp; go_at_call 32; refine (PU.out _ (Below.refl _ W1).drew).mono ?_; rintro e w2 ⟨p, pc, rfl, r2, n2, m2, new2, B2⟩; have E2 : Below W1.heap.size W1 w2 := ⟨B2.os, B2.tape, B2.output, B2.size, B2.block⟩; have R2 := Hid.intro r2; have N2 : Hid ((p = none → pc = 0) ∧ (pb.length ≤ pc ∧ pc ≤ 9223372036854775807) ∧ ∀ ad, p = some ad → W1.heap.size ≤ ad.block) := Hid.intro ⟨n2, m2, new2⟩; have k2 := cellD E2 k0; have k3 := cellD (bel_allocR E2 (Nat.le_refl _) (.cells #[.slice p pb.length pc] 42)) k0; clear r2 n2 m2 new2 B2)
    | fail)
  all_goals
    go_end0
    exact ⟨rfl, Z3.out⟩

end Go.Proofs.YthhggjakenalpaaGreatDoor

/- Package device: each, of air's put. -/
namespace Go.Proofs.YthhggjakenalpaaGreatDoor
set_option maxRecDepth 100000
open Go.RowKit
open Bt

abbrev PutF (bx : Nat) : Value := .func (.func 45) #[.pointer (some ⟨bx, 0, none⟩)] #[]

theorem take_succY {fs : List FrV} {k : Nat} (hk : k < fs.length) (L : List (List Nat)) : (L ++ (fs.take k).map frmY) ++ [frmY fs[k]] = L ++ (fs.take (k + 1)).map frmY := by
  rw [List.append_assoc, List.take_add_one, List.getElem?_eq_getElem hk, List.map_append]
  rfl

set_option maxRecDepth 100000 in
set_option maxHeartbeats 2000000 in
theorem aeach_any (bx : Nat) (fs : List FrV) (hl : fs.length ≤ 200) (hY : ∀ f ∈ fs, Byt f.data) (L : List (List Nat)) (hL : L.length ≤ 200) (F : Nat → Prop) (v : Value) (w : World) (hw : Wid w) (h0 : F 0) (hf : FrsAt F F w v fs) (hA : One (AirP bx L) F w w) :
    Calls Tryz.prog 43 #[v, PutF bx] w fun e w' => e = .returned (.tuple #[]) ∧ One (AirP bx (L ++ fs.map frmY)) F w w' := by
  obtain ⟨ao, cap, rfl, hp⟩ := hf
  have WH := Hid.intro hw
  have HY := Hid.intro hY
  have HP := Hid.intro hp
  have A0 : Hid (One (AirP bx (L ++ (fs.take 0).map frmY)) F w w) := Hid.intro (by simpa using hA)
  have ST := Hid.intro (fun (k : Nat) (hk : k < fs.length) => take_succY hk L)
  have EN : Hid ((L ++ (fs.take fs.length).map frmY) = L ++ fs.map frmY) := Hid.intro (by rw [List.take_length])
  clear hw hY hp hA
  obtain ⟨n, hn⟩ : ∃ n, n = fs.length := ⟨_, rfl⟩
  rw [← hn] at hl EN ⊢
  have HN := Hid.intro hn
  clear hn
  go_enter Tryz.func43, Tryz.ntmps43
  go_wp2_with fail
  go_loopw [8] (fun i wr => ∃ k : Nat, k ≤ n ∧ i = .int .i64 k ∧ One (AirP bx (L ++ (fs.take k).map frmY)) F w wr) (fun i _ => n - (intOf i).toNat)
  case atStart => exact ⟨0, by omega, rfl, A0.out⟩
  case round =>
    clear A0
    obtain ⟨k, hk, rfl, hO⟩ := hrel
    by_cases hlt : k < n
    · have hlf : k < fs.length := by have := HN.out; omega
      obtain ⟨pb, off, rfl, hpb, hq⟩ := HP.out (by omega)
      obtain ⟨a, c, c0, c1, c2, c3, c4, c5, hr, hm, hQ⟩ := hq k hlf
      have k0 := hO.cell c0 hpb
      have k1 := hO.cell c1 hpb
      have k2 := hO.cell c2 hpb
      have k3 := hO.cell c3 hpb
      have k4 := hO.cell c4 hpb
      have k5 := hO.cell c5 hpb
      have WR : Wid wr := by
        obtain ⟨t, fr, q⟩ := WH.out
        exact ⟨t, fr, (hO.block h0).trans q⟩
      have RR : Reads wr a fs[k].data := by
        rcases Nat.eq_zero_or_pos fs[k].data.length with z | z
        · rw [List.eq_nil_of_length_eq_zero z]; exact reads_empty
        · exact hr.kept hO.chg (fun ad ha q => q (hQ z ad ha))
      have YY := HY.out fs[k] (List.getElem_mem hlf)
      have S1 := ST.out k hlf
      have hLL : (L ++ (fs.take k).map frmY).length ≤ 1000 := by rw [List.length_append, List.length_map, List.length_take]; omega
      generalize fs[k] = f at k0 k1 k2 k3 k4 k5 RR hm YY S1
      have BA := (Below.refl _ wr).alloc (Nat.le_refl _) (.cells #[.int .i64 f.tx, .int .i64 f.sq, .int .i64 f.an, .int .i64 f.rs, .int .i64 f.kd, .slice a f.data.length c] 55)
      have PT := Hid.intro ((hO.below (airO _ _) BA).call (fun S hS => aput_any bx _ hLL f a c hm.1 YY S _ (WR.below BA) (RR.below BA) hS))
      rw [S1] at PT
      have i0 : (0 : Int) ≤ (k : Int) := by omega
      have i1 : (k : Int) < (n : Int) := by omega
      clear hO c0 c1 c2 c3 c4 c5 hq hpb hr hm hQ WR RR YY S1 hLL BA
      go_wp2_with fail
      refine PT.out.mono ?_
      rintro e w2 ⟨rfl, h2⟩
      have H2 := Hid.intro h2
      clear h2 PT k0 k1 k2 k3 k4 k5
      go_wp2_with fail
      go_roundw
      case rel => exact ⟨k + 1, by omega, by go_num, H2.out⟩
      case measure => simp [intOf]; omega
    · obtain rfl : k = n := by omega
      have i1 : ¬ (k : Int) < (k : Int) := by omega
      have FN := Hid.intro hO
      rw [EN.out] at FN
      clear hO
      go_wp2
      go_end0
      exact ⟨rfl, FN.out⟩

end Go.Proofs.YthhggjakenalpaaGreatDoor

/- Package device: what a tick leaves, told part by part; no walk. -/
namespace Go.Proofs.YthhggjakenalpaaGreatDoor
set_option maxRecDepth 100000
open Go.RowKit
open Bt

theorem FrsAt.bounded {R Q : Nat → Prop} {w : World} {v : Value} {fs : List FrV} (h : FrsAt R Q w v fs) : FrsAt (fun k => R k ∧ k < w.heap.size) (fun k => Q k ∧ k < w.heap.size) w v fs := by
  obtain ⟨ao, cap, e, hp⟩ := h
  refine ⟨ao, cap, e, fun h0 => ?_⟩
  obtain ⟨pb, off, ha, hb, hq⟩ := hp h0
  refine ⟨pb, off, ha, ⟨hb, cell_lt (hq 0 h0).choose_spec.choose_spec.1⟩, fun t ht => ?_⟩
  obtain ⟨a, c, c0, c1, c2, c3, c4, c5, r, m, n⟩ := hq t ht
  refine ⟨a, c, c0, c1, c2, c3, c4, c5, r, m, fun h1 ad h2 => ⟨n h1 ad h2, ?_⟩⟩
  obtain ⟨bb, o2, e2, hc⟩ := reads_at r h1
  rw [e2] at h2
  cases h2
  exact cell_lt (hc 0 h1)

variable {M b sb bx : Nat} {S1 T T5 Sa Sb : Nat → Prop} {w4 w5 w6 : World} {kv : Value} {y : Dev} {L6 : List (List Nat)}

/-- The blocks of a device behind a tick. -/
def headS (b : Nat) (T5 : Nat → Prop) (kv : Value) : Nat → Prop := fun k => k = b ∨ T5 k ∨ kv.ownBlock = some k

theorem DvH.ticked (h4 : DvH M S1 w4 b sb kv T y) (s5 : Sndr (M + 1) T5 w5 sb (tickC y.snd y.now)) (C5 : Chg T w4 w5) (t5 : ∀ k, T5 k → T k ∨ w4.heap.size ≤ k)
    (hSa : ∀ k, Sa k → k < w4.heap.size ∧ ¬ S1 k) (C6 : Chg (fun k => ¬ (k < w5.heap.size ∧ ¬ Sa k)) w5 w6) (a6 : AirP bx L6 Sb w6) (d6 : ∀ k, Sb k → ¬ (k < w5.heap.size ∧ ¬ Sa k)) (hM : M ≤ 1000000) :
    (w5.cell? ⟨b, 8, none⟩ = some (.pointer (some ⟨sb, 0, none⟩)) ∧ w5.cell? ⟨b, 2, none⟩ = some (.int .i64 (y.now : Int)) ∧ w6.cell? ⟨b, 8, none⟩ = some (.pointer (some ⟨sb, 0, none⟩)) ∧ w6.cell? ⟨b, 2, none⟩ = some (.int .i64 (y.now : Int)) ∧ w6.frozen? ⟨b, 2, none⟩ = false) ∧
    ∃ v, (w6.setCell ⟨b, 2, none⟩ (.int .i64 ((y.now : Int) + 1))).cell? ⟨bx, 0, none⟩ = some v ∧
      RowsV Sb (w6.setCell ⟨b, 2, none⟩ (.int .i64 ((y.now : Int) + 1))) v L6 ∧ (∀ k, Sb k → w4.heap.size ≤ k ∨ Sa k) ∧ (∀ k, Sb k → ¬ headS b T5 kv k ∧ k < (w6.setCell ⟨b, 2, none⟩ (.int .i64 ((y.now : Int) + 1))).heap.size) ∧
      DvS (M + 1) b (stepD y) (headS b T5 kv) (w6.setCell ⟨b, 2, none⟩ (.int .i64 ((y.now : Int) + 1))) ∧ (∀ k, headS b T5 kv k → S1 k ∨ w4.heap.size ≤ k) ∧ Chg (fun k => S1 k ∨ Sa k) w4 (w6.setCell ⟨b, 2, none⟩ (.int .i64 ((y.now : Int) + 1))) := by
  have hb4 := h4.lt b h4.inB
  have hs5 := C5.size
  have hs6 := C6.size
  have hSb : ¬ Sa b := fun q => (hSa b q).2 h4.inB
  have nTb : ¬ T b := fun q => (h4.inT b q).2 rfl
  have keep5 : ∀ k, k < w4.heap.size → ¬ T k → w5.heap[k]? = w4.heap[k]? := fun k hk hn => C5.block k hk hn
  have keep6 : ∀ k, k < w4.heap.size → ¬ T k → ¬ Sa k → w6.heap[k]? = w4.heap[k]? := fun k hk hn hn2 => (C6.block k (by omega) (fun q => q ⟨by omega, hn2⟩)).trans (keep5 k hk hn)
  have hd5 : w5.heap[b]? = some (.cells (dcells y sb kv) 77 (0, 0)) := (keep5 b hb4 nTb).trans h4.head
  have hd6 : w6.heap[b]? = some (.cells (dcells y sb kv) 77 (0, 0)) := (keep6 b hb4 nTb hSb).trans h4.head
  refine ⟨⟨by rw [cell_of_row _ _ 8 _ _ _ hd5]; rfl, by rw [cell_of_row _ _ 2 _ _ _ hd5]; rfl, by rw [cell_of_row _ _ 8 _ _ _ hd6]; rfl, by rw [cell_of_row _ _ 2 _ _ _ hd6]; rfl, frozen_of_row _ _ 2 _ _ hd6⟩, ?_⟩
  obtain ⟨W7, hW7⟩ : ∃ W7, W7 = w6.setCell ⟨b, 2, none⟩ (.int .i64 ((y.now : Int) + 1)) := ⟨_, rfl⟩
  have C7 : Chg (fun k => k = b) w6 W7 := by rw [hW7]; exact (Chg.refl (fun k => k = b) w6).setCell (p := ⟨b, 2, none⟩) (fun _ => rfl) _
  have hsz7 : W7.heap.size = w6.heap.size := by rw [hW7]; simp
  have hd7 : W7.heap[b]? = some (.cells (dcells (stepD y) sb kv) 77 (0, 0)) := by rw [hW7, heap_setCell_same w6 b 2 _ _ _ hd6]; rfl
  have nSbb : ¬ Sb b := fun q => d6 b q ⟨by omega, hSb⟩
  obtain ⟨v, xs, q1, q2, q3⟩ := a6.box
  have lt6 := (airO bx L6).lt a6
  have hbx : Sb bx := by
    obtain ⟨_, _, _, _, q, _⟩ := a6
    exact q
  rw [← hW7]
  have hok := stepD_ok h4.ok hM
  have hS' : ∀ k, headS b T5 kv k → S1 k ∨ w4.heap.size ≤ k := fun k hk => by
    rcases hk with q | q | q
    · rw [q]; exact .inl h4.inB
    · rcases t5 k q with r | r
      · exact .inl (h4.inT k r).1
      · exact .inr r
    · exact .inl (h4.inV k q).1
  have old : ∀ k, Sb k → w4.heap.size ≤ k ∨ Sa k := fun k hk => by
    by_cases r : Sa k
    · exact .inr r
    · rcases Nat.lt_or_ge k w5.heap.size with q | q
      · exact absurd ⟨q, r⟩ (d6 k hk)
      · exact .inl (by omega)
  have old2 : ∀ k, Sb k → w5.heap.size ≤ k ∨ Sa k := fun k hk => by
    by_cases r : Sa k
    · exact .inr r
    · rcases Nat.lt_or_ge k w5.heap.size with q | q
      · exact absurd ⟨q, r⟩ (d6 k hk)
      · exact .inl q
  refine ⟨v, cell_chg C7 q1 (fun q => nSbb (q ▸ hbx)), q3.kept C7 (fun k hk q => nSbb (q ▸ hk)), old, fun k hk => ⟨fun q => ?_, by rw [hsz7]; exact lt6 k hk⟩, ⟨sb, kv, T5, ?_⟩, hS', ?_⟩
  · have lt7 : headS b T5 kv k → k < w5.heap.size := fun r => by
      rcases r with r | r | r
      · omega
      · exact s5.lt k r
      · have := h4.lt k (h4.inV k r).1; omega
    have h1 := lt7 q
    rcases old2 k hk with r | r
    · omega
    · rcases hS' k q with t | t
      · exact (hSa k r).2 t
      · have := (hSa k r).1; omega
  · have c57 : Chg (fun k => ¬ (k < w5.heap.size ∧ ¬ Sa k) ∨ k = b) w5 W7 := (C6.mono (fun k q _ => Or.inl q)).trans C7 (fun k q _ => Or.inr q)
    refine ⟨hd7, s5.kept c57 (fun k hk q => ?_), ?_, .inl rfl, fun k hk => ⟨.inr (.inl hk), fun e => ?_⟩, fun k hk => ⟨.inr (.inr hk), (h4.inV k hk).2.1, fun q => ?_⟩, fun k hk => ?_, hok⟩
    · have h1 := s5.lt k hk
      rcases q with q | q
      · refine q ⟨h1, fun r => ?_⟩
        rcases t5 k hk with t | t
        · exact (hSa k r).2 (h4.inT k t).1
        · have := (hSa k r).1; omega
      · rcases t5 k hk with t | t
        · exact (h4.inT k t).2 q
        · omega
    · show W7.ownsRow 0 35 3 kv y.kept.length (mcells y.kept)
      refine ownsRow_keep h4.own fun k hk => ?_
      have hk1 := h4.inV k hk
      have hk2 := h4.lt k hk1.1
      exact (C7.block k (by omega) hk1.2.1).trans (keep6 k hk2 hk1.2.2 (fun q => (hSa k q).2 hk1.1))
    · subst e
      rcases t5 k hk with t | t
      · exact nTb t
      · omega
    · rcases t5 k q with t | t
      · exact (h4.inV k hk).2.2 t
      · have := h4.lt k (h4.inV k hk).1; omega
    · rw [hsz7]
      rcases hk with q | q | q
      · omega
      · have := s5.lt k q; omega
      · have := h4.lt k (h4.inV k q).1; omega
  · refine ((C5.mono (fun k q _ => Or.inl (h4.inT k q).1)).trans C6 (fun k q hk => ?_)).trans C7 (fun k q _ => Or.inl (by rw [q]; exact h4.inB))
    by_cases r : Sa k
    · exact .inr r
    · exact absurd ⟨by omega, r⟩ q

end Go.Proofs.YthhggjakenalpaaGreatDoor

/- Package device: Tick. -/
namespace Go.Proofs.YthhggjakenalpaaGreatDoor
set_option maxRecDepth 100000
open Go.RowKit
open Bt

variable {M b sb : Nat} {S T : Nat → Prop} {w w' : World} {kv : Value} {x : Dev}

/-- What a tick leaves and answers. -/
def TickQ (M b : Nat) (x : Dev) (S : Nat → Prop) (w : World) (e : Ending) (w' : World) : Prop :=
  ∃ S' v, e = .returned v ∧ RowsV (fun k => w.heap.size ≤ k ∧ k < w'.heap.size ∧ ¬ S' k) w' v ((tickO x).map frmY) ∧ DvS (M + 1) b (tickD x) S' w' ∧ Chg S w w' ∧ ∀ k, S' k → S k ∨ w.heap.size ≤ k

theorem LeftG.after {P : (Nat → Prop) → World → Prop} {W : World} (hb : Below w.heap.size w W) (hl : LeftG P S W w') : LeftG P S w w' := by
  obtain ⟨S', q1, q2, q3⟩ := hl
  refine ⟨S', q1, ((below_chg hb).mono (fun _ f _ => f.elim)).trans q2 (fun _ q _ => q), fun k hk => ?_⟩
  rcases q3 k hk with r | r
  · exact .inl r
  · exact .inr (Nat.le_trans hb.size r)

theorem greetL_len (y : Dev) : (greetL y).length ≤ 1 := by unfold greetL; split <;> simp

theorem greet_byt (h : x.Ok M) : ∀ f ∈ greetL x, Byt f.data := fun f hf => by
  unfold greetL at hf
  split at hf
  · rw [List.mem_singleton.1 hf]; exact (greetF_sent h).byt
  · cases hf

theorem tickP_byt (h : x.Ok M) (now : Int) : ∀ f ∈ tickP x.snd now, Byt f.data := fun f hf => (tickP_sent h.snd h.same.1 now 0 f hf).byt

set_option maxRecDepth 100000 in
set_option maxHeartbeats 4000000 in
theorem dtick_any (w : World) (hw : Wd w) (hc : DvS M b x S w) (h0 : ∀ k, S k → 2 ≤ k) (hM : M ≤ 1000000) :
    Calls Tryz.prog 15 #[.pointer (some ⟨b, 0, none⟩)] w (TickQ M b x S w) := by
  have HPU := Hid.intro (fun (hk : 0 < x.kept.length) (W : World) (hB : Below w.heap.size w W) => dpush_any W (hw.below hB) ((dvO M b x).kept hc (below_chg hB) (fun _ _ => id)) hk hM)
  have HC := Hid.intro hc
  have WH := Hid.intro hw
  have H0 := Hid.intro h0
  have LSAME : Hid (∀ W, Below w.heap.size w W → LeftG (DvS M b x) S w W) := Hid.intro (fun W hB => ⟨S, (dvO M b x).kept hc (below_chg hB) (fun _ _ => id), (below_chg hB).mono (fun _ f _ => f.elim), fun k hk => .inl hk⟩)
  obtain ⟨sb0, kv0, T0, h⟩ := hc
  obtain ⟨_, _, _, _, _, _, _, _, c8, c9, _⟩ := h.cells
  obtain ⟨ao, cp, hv, _⟩ := h.form
  rw [hv] at c9
  have RM := Hid.intro (fun (W : World) (hB : Below w.heap.size w W) => nroom_any M sb0 T0 x.snd W (h.snd.kept (below_chg hB) (fun _ _ => id)))
  have K9 := Hid.intro (fun (W : World) (hB : Below w.heap.size w W) => cellD hB c9)
  have h4 := h.snd.ok.few
  have yes : Hid (x.snd.fl.length < 4 → 0 < x.kept.length → pushD x = pushY x) := Hid.intro (fun q1 q2 => by unfold pushD; rw [if_pos ⟨q1, q2⟩])
  have no : Hid (¬ (x.snd.fl.length < 4 ∧ 0 < x.kept.length) → pushD x = x) := Hid.intro (fun q => by unfold pushD; rw [if_neg q])
  have TD : tickD x = stepD (pushD x) := rfl
  have TO : tickO x = greetL (pushD x) ++ tickP (pushD x).snd (pushD x).now := rfl
  unfold TickQ
  rw [TD, TO]
  clear h hw h0 hv TD TO
  generalize hy : pushD x = y at yes no ⊢
  have HY := Hid.intro hy
  clear hy
  generalize hfl : x.snd.fl.length = fl at RM h4 yes no
  generalize hkl : x.kept.length = kl at HPU c9 K9 yes no
  clear hfl hkl
  have ENT : True := trivial
  rcases Nat.lt_or_ge fl 4 with hfl | hfl
  · rcases Nat.eq_zero_or_pos kl with hkl | hkl
    · have e := no.out (fun q => by omega)
      subst hkl
      subst e
      have g1 : ((4 - fl : Nat) : Int) > 0 := by omega
      clear HPU yes no
      go_enter Tryz.func15, Tryz.ntmps15
      go_wp2_with fail
      refine (RM.out w (Below.refl _ w)).mono ?_
      rintro e w1 ⟨rfl, B1⟩
      have k9 := K9.out w1 B1
      have HL := Hid.intro (LSAME.out w1 B1)
      clear c8 c9 B1 RM K9 LSAME
      go_wp2_with fail
      obtain ⟨S1, ⟨sb, kv, T, h⟩, C1, t1⟩ := HL.out
      have OKY := h.ok
      have hnow := h.ok.now
      have ones := greetL_len y
      have few := outF_len h.ok
      have WW : Wid w1 := by
        obtain ⟨t, fr, q⟩ := WH.out.f
        exact ⟨t, fr, (C1.block 0 (lt_of_heap q) (fun r => by have := H0.out 0 r; omega)).trans q⟩
      have z1 : 0 < w1.heap.size := by
        obtain ⟨t, fr, q⟩ := WW
        exact lt_of_heap q
      have h1lt := h.lt
      have BA := (Below.refl _ w1).alloc (Nat.le_refl _) (.cells #[.slice none 0 0] 79)
      have HB2 := heap_alloc_new w1 (.cells #[.slice none 0 0] 79)
      have sz2 := World.size_alloc w1 (.cells #[.slice none 0 0] 79)
      generalize w1.alloc (.cells #[.slice none 0 0] 79) = W2 at BA HB2 sz2 ⊢
      have h2 := h.kept' (below_chg BA) (fun _ _ => id)
      have GR := Hid.intro (dgreet_any W2 ⟨sb, kv, T, h2⟩ hM)
      have HS := Hid.intro h1lt
      have H2 := Hid.intro h2
      have C1H := Hid.intro C1
      have T1H := Hid.intro t1
      have OKH := Hid.intro OKY
      have WWH := Hid.intro WW
      have BAH := Hid.intro BA
      clear HL h h1lt h2 C1 t1 BA WW
      refine GR.out.mono ?_
      rintro e w3 ⟨v3, rfl, f3, B3⟩
      have hs3 := B3.size
      have h3 := H2.out.kept' (below_chg B3) (fun _ _ => id)
      have A3 : One (AirP w1.heap.size []) (fun k => k < w3.heap.size ∧ k ≠ w1.heap.size) w3 w3 := ⟨fun k => k = w1.heap.size, air_new ((B3.block _ (by omega)).trans HB2), fun k hk q => q.2 hk, fun k hk => hk.1, Chg.refl _ _⟩
      have E3 := Hid.intro (aeach_any w1.heap.size (greetL y) (by omega) (greet_byt OKH.out) [] (by decide) _ v3 w3 ((WWH.out.below BAH.out).below B3) ⟨by omega, by omega⟩ (f3.mono (fun k hk => ⟨hk.2, by omega⟩) (fun k hk => ⟨hk.2, by omega⟩)) A3)
      have H3 := Hid.intro h3
      have B3H := Hid.intro B3
      obtain ⟨ao3, c3, e3⟩ := f3.len
      subst e3
      clear A3 f3 h3 B3 GR H2 HB2
      go_wp2_with fail
      refine E3.out.mono ?_
      rintro e w4 ⟨rfl, O4⟩
      rw [List.nil_append] at O4
      obtain ⟨Sa, a4, d4, e4, C4⟩ := O4
      have sa : ∀ k, Sa k → k < w4.heap.size ∧ ¬ S1 k := fun k hk => ⟨(airO _ _).lt a4 k hk, fun q => d4 k hk ⟨by have := HS.out k q; omega, by have := HS.out k q; omega⟩⟩
      have h4' := H3.out.kept' C4 (fun k hk q => q ⟨by have := HS.out k hk; omega, by have := HS.out k hk; omega⟩)
      have WW4 : Wid w4 := by
        obtain ⟨t, fr, q⟩ := (WWH.out.below BAH.out).below B3H.out
        exact ⟨t, fr, (C4.block 0 (by omega) (fun r => r ⟨by omega, by omega⟩)).trans q⟩
      have TK := Hid.intro (fun (W : World) (hW : Below w4.heap.size w4 W) => ntick_any M sb y.now ⟨by omega, by omega⟩ T y.snd W hM (h4'.snd.kept (below_chg hW) (fun _ _ => id)))
      have k8 := h4'.cells.2.2.2.2.2.2.2.2.1
      have k2 := h4'.cells.2.2.1
      have hsz4 : w1.heap.size ≤ w4.heap.size := by have := C4.size; omega
      have old4 : Hid (∀ k, Sa k → w1.heap.size ≤ k) := Hid.intro (fun k hk => by
        rcases Nat.lt_or_ge k w1.heap.size with q | q
        · exact absurd ⟨by omega, by omega⟩ (d4 k hk)
        · exact q)
      have E5 := Hid.intro (fun (w5 : World) (v5 : Value) (T5 : Nat → Prop) (f5 : FrsAt (fun k => w4.heap.size ≤ k ∧ k < w5.heap.size ∧ ¬ T5 k) (fun k => T5 k ∨ w4.heap.size ≤ k) w5 v5 (tickP y.snd y.now)) (C5 : Chg T w4 w5) (t5 : ∀ k, T5 k → T k ∨ w4.heap.size ≤ k) =>
        aeach_any w1.heap.size (tickP y.snd y.now) (by have q := few; unfold outF at q; rw [List.length_append] at q; omega) (tickP_byt OKH.out y.now) ((greetL y).map frmY) (by rw [List.length_map]; omega) (fun k => k < w5.heap.size ∧ ¬ Sa k) v5 w5
          (by
            obtain ⟨t, fr, q⟩ := WW4
            exact ⟨t, fr, (C5.block 0 (lt_of_heap q) (fun r => by
              rcases T1H.out 0 (h4'.inT 0 r).1 with u | u
              · have := H0.out 0 u; omega
              · have := C1H.out.size
                obtain ⟨_, _, qq⟩ := WH.out.f
                have := lt_of_heap qq
                omega)).trans q⟩)
          ⟨by have := C5.size; omega, fun q => by have := old4.out 0 q; omega⟩
          (f5.bounded.mono (fun k hk => ⟨hk.2, fun q => by have := (sa k q).1; omega⟩) (fun k hk => ⟨hk.2, fun q => by
            rcases hk.1 with r | r
            · rcases t5 k r with u | u
              · exact (sa k q).2 (h4'.inT k u).1
              · have := (sa k q).1; omega
            · have := (sa k q).1; omega⟩))
          ⟨Sa, (airO _ _).kept a4 C5 (fun k hk q => (sa k hk).2 (h4'.inT k q).1), fun k hk q => q.2 hk, fun k hk => hk.1, Chg.refl _ _⟩)
      have FIN := Hid.intro (fun (w5 w6 : World) (T5 Sb : Nat → Prop) s5 (C5 : Chg T w4 w5) t5 C6 (a6 : AirP w1.heap.size ((greetL y).map frmY ++ (tickP y.snd y.now).map frmY) Sb w6) d6 => h4'.ticked (w5 := w5) (w6 := w6) (T5 := T5) (Sa := Sa) (Sb := Sb) (bx := w1.heap.size) s5 C5 t5 sa C6 a6 d6 hM)
      have q8 := Hid.intro (fun (w5 : World) (C5 : Chg T w4 w5) => (show w5.cell? ⟨b, 8, none⟩ = some (.pointer (some ⟨sb, 0, none⟩)) ∧ w5.cell? ⟨b, 2, none⟩ = some (.int .i64 (y.now : Int)) from ⟨cell_chg C5 k8 (fun q => (h4'.inT b q).2 rfl), cell_chg C5 k2 (fun q => (h4'.inT b q).2 rfl)⟩))
      have CA : Hid (Chg (fun k => k = w1.heap.size ∨ w1.heap.size ≤ k) w1 w4) := Hid.intro (((below_chg BAH.out).mono (fun _ f _ => f.elim)).trans (((below_chg B3H.out).mono (fun _ f _ => f.elim)).trans C4 (fun k q _ => q)) (fun k q _ => by
        rcases Nat.lt_or_ge k w1.heap.size with u | u
        · exact absurd ⟨by omega, by omega⟩ q
        · exact .inr u))
      have SA4 := Hid.intro sa
      have D4 := Hid.intro (show ∀ k, S1 k → k < w1.heap.size from HS.out)
      generalize tickC y.snd y.now = sC at TK FIN
      generalize hfs : tickP y.snd y.now = fs at TK E5 FIN ⊢
      have HFS := Hid.intro hfs
      clear hfs
      generalize hst : stepD y = y2 at FIN ⊢
      have HST := Hid.intro hst
      clear hst
      generalize hgl : greetL y = gl at E5 FIN a4 ⊢
      have HGL := Hid.intro hgl
      clear hgl
      have wr1 : IntKind.i64.wrap ((y.now : Int) + 1) = (y.now : Int) + 1 := IntWalk.i64_in _ (by omega)
      clear a4 d4 C4 sa h4' WW4 E3 H3 B3H WWH BAH few ones hnow hs3
      have k8H := k8
      go_wp2_with fail
      go_region_held3 (fun W => W.cell? ⟨b, 8, none⟩ = some (.pointer (some ⟨sb, 0, none⟩)) ∧ W.cell? ⟨b, 2, none⟩ = some (.int .i64 (y.now : Int)))
        (first | exact ⟨q68, q62⟩ | exact ⟨q58, q52⟩ | go_keep)
        ((first
          | (go_at_call 43; refine E5x.out.mono ?_; rintro e w6 ⟨rfl, O6⟩; obtain ⟨Sb, a6, d6, _, C6⟩ := O6; obtain ⟨⟨_, _, q68, q62, f62⟩, z⟩ := FIN.out w5 w6 T5 Sb S5.out C5H.out T5H.out C6 a6 d6; have Z := Hid.intro z; clear z a6 d6 C6)
          | (go_at_call 46; refine (TK.out _ (Below.refl _ w4).drew).mono ?_; rintro e w5 ⟨v5, T5, rfl, f5, s5, C5d, t5⟩; have C5 : Chg T w4 w5 := ⟨C5d.os, C5d.tape, C5d.output, C5d.size, C5d.block⟩; obtain ⟨q58, q52⟩ := q8.out w5 C5; have S5 := Hid.intro s5; have C5H : Hid (Chg T w4 w5) := Hid.intro C5; have T5H : Hid (∀ k, T5 k → T k ∨ w4.heap.size ≤ k) := Hid.intro t5; have E5x := Hid.intro (E5.out w5 v5 T5 f5 C5 t5); obtain ⟨ao5, c5, e5⟩ := f5.len; subst e5; clear f5 s5 C5 C5d t5)))
      all_goals
        have S7 := C1H.out.size
        obtain ⟨v7, m7, r7, old7, new7, dv7, hs7, ch7⟩ := Z.out
        have R7 := Hid.intro (r7.mono (R' := fun k => w.heap.size ≤ k ∧ k < (w6.setCell ⟨b, 2, none⟩ (.int .i64 ((y.now : Int) + 1))).heap.size ∧ ¬ headS b T5 kv k) (fun k hk => ⟨by
          rcases old7 k hk with r | r
          · omega
          · have := old4.out k r; omega, (new7 k hk).2, (new7 k hk).1⟩))
        have CH := Hid.intro ((C1H.out.trans CA.out (fun k q hk => absurd hk (by rcases q with q | q <;> omega))).trans ch7 (S := S) (fun k q hk => by
          rcases q with q | q
          · rcases T1H.out k q with r | r
            · exact r
            · omega
          · have := old4.out k q; omega))
        have HS7 : Hid (∀ k, headS b T5 kv k → S k ∨ w.heap.size ≤ k) := Hid.intro (fun k hk => by
          rcases hs7 k hk with r | r
          · exact T1H.out k r
          · exact .inr (by omega))
        have DV := Hid.intro dv7
        obtain ⟨oa7, oc7, e7, _⟩ := r7
        subst e7
        rw [← List.map_append] at m7 R7
        have LEN : (List.map frmY (gl ++ fs)).length = gl.length + fs.length := by simp
        rw [LEN] at R7 m7
        clear old7 new7 dv7 hs7 ch7 Z FIN E5 E5x TK q8 k8 k2 k8H q58 q52 q68 S5 C5H T5H SA4 CA
        go_wp2_with fail
        go_ret
        exact ⟨_, _, rfl, by rw [HGL.out, HFS.out]; exact R7.out, by rw [HST.out]; exact DV.out, CH.out, HS7.out⟩
    · have e := yes.out hfl hkl
      have PU := Hid.intro (HPU.out hkl)
      rw [← e] at PU
      have g1 : ((4 - fl : Nat) : Int) > 0 := by omega
      have g2 : (0 : Int) < (kl : Int) := by omega
      clear HPU yes no LSAME e
      go_enter Tryz.func15, Tryz.ntmps15
      go_wp2_with fail
      refine (RM.out w (Below.refl _ w)).mono ?_
      rintro e w1 ⟨rfl, B1⟩
      have k9 := K9.out w1 B1
      have PU1 := Hid.intro (PU.out w1 B1)
      have B1H := Hid.intro B1
      clear c8 c9 B1 RM K9 PU
      go_wp2_with fail
      refine PU1.out.mono ?_
      rintro e w1 ⟨rfl, hl⟩
      have HL := Hid.intro (LeftG.after B1H.out hl)
      clear hl PU1 k9
      go_wp2_with fail
      obtain ⟨S1, ⟨sb, kv, T, h⟩, C1, t1⟩ := HL.out
      have OKY := h.ok
      have hnow := h.ok.now
      have ones := greetL_len y
      have few := outF_len h.ok
      have WW : Wid w1 := by
        obtain ⟨t, fr, q⟩ := WH.out.f
        exact ⟨t, fr, (C1.block 0 (lt_of_heap q) (fun r => by have := H0.out 0 r; omega)).trans q⟩
      have z1 : 0 < w1.heap.size := by
        obtain ⟨t, fr, q⟩ := WW
        exact lt_of_heap q
      have h1lt := h.lt
      have BA := (Below.refl _ w1).alloc (Nat.le_refl _) (.cells #[.slice none 0 0] 79)
      have HB2 := heap_alloc_new w1 (.cells #[.slice none 0 0] 79)
      have sz2 := World.size_alloc w1 (.cells #[.slice none 0 0] 79)
      generalize w1.alloc (.cells #[.slice none 0 0] 79) = W2 at BA HB2 sz2 ⊢
      have h2 := h.kept' (below_chg BA) (fun _ _ => id)
      have GR := Hid.intro (dgreet_any W2 ⟨sb, kv, T, h2⟩ hM)
      have HS := Hid.intro h1lt
      have H2 := Hid.intro h2
      have C1H := Hid.intro C1
      have T1H := Hid.intro t1
      have OKH := Hid.intro OKY
      have WWH := Hid.intro WW
      have BAH := Hid.intro BA
      clear HL h h1lt h2 C1 t1 BA WW
      refine GR.out.mono ?_
      rintro e w3 ⟨v3, rfl, f3, B3⟩
      have hs3 := B3.size
      have h3 := H2.out.kept' (below_chg B3) (fun _ _ => id)
      have A3 : One (AirP w1.heap.size []) (fun k => k < w3.heap.size ∧ k ≠ w1.heap.size) w3 w3 := ⟨fun k => k = w1.heap.size, air_new ((B3.block _ (by omega)).trans HB2), fun k hk q => q.2 hk, fun k hk => hk.1, Chg.refl _ _⟩
      have E3 := Hid.intro (aeach_any w1.heap.size (greetL y) (by omega) (greet_byt OKH.out) [] (by decide) _ v3 w3 ((WWH.out.below BAH.out).below B3) ⟨by omega, by omega⟩ (f3.mono (fun k hk => ⟨hk.2, by omega⟩) (fun k hk => ⟨hk.2, by omega⟩)) A3)
      have H3 := Hid.intro h3
      have B3H := Hid.intro B3
      obtain ⟨ao3, c3, e3⟩ := f3.len
      subst e3
      clear A3 f3 h3 B3 GR H2 HB2
      go_wp2_with fail
      refine E3.out.mono ?_
      rintro e w4 ⟨rfl, O4⟩
      rw [List.nil_append] at O4
      obtain ⟨Sa, a4, d4, e4, C4⟩ := O4
      have sa : ∀ k, Sa k → k < w4.heap.size ∧ ¬ S1 k := fun k hk => ⟨(airO _ _).lt a4 k hk, fun q => d4 k hk ⟨by have := HS.out k q; omega, by have := HS.out k q; omega⟩⟩
      have h4' := H3.out.kept' C4 (fun k hk q => q ⟨by have := HS.out k hk; omega, by have := HS.out k hk; omega⟩)
      have WW4 : Wid w4 := by
        obtain ⟨t, fr, q⟩ := (WWH.out.below BAH.out).below B3H.out
        exact ⟨t, fr, (C4.block 0 (by omega) (fun r => r ⟨by omega, by omega⟩)).trans q⟩
      have TK := Hid.intro (fun (W : World) (hW : Below w4.heap.size w4 W) => ntick_any M sb y.now ⟨by omega, by omega⟩ T y.snd W hM (h4'.snd.kept (below_chg hW) (fun _ _ => id)))
      have k8 := h4'.cells.2.2.2.2.2.2.2.2.1
      have k2 := h4'.cells.2.2.1
      have hsz4 : w1.heap.size ≤ w4.heap.size := by have := C4.size; omega
      have old4 : Hid (∀ k, Sa k → w1.heap.size ≤ k) := Hid.intro (fun k hk => by
        rcases Nat.lt_or_ge k w1.heap.size with q | q
        · exact absurd ⟨by omega, by omega⟩ (d4 k hk)
        · exact q)
      have E5 := Hid.intro (fun (w5 : World) (v5 : Value) (T5 : Nat → Prop) (f5 : FrsAt (fun k => w4.heap.size ≤ k ∧ k < w5.heap.size ∧ ¬ T5 k) (fun k => T5 k ∨ w4.heap.size ≤ k) w5 v5 (tickP y.snd y.now)) (C5 : Chg T w4 w5) (t5 : ∀ k, T5 k → T k ∨ w4.heap.size ≤ k) =>
        aeach_any w1.heap.size (tickP y.snd y.now) (by have q := few; unfold outF at q; rw [List.length_append] at q; omega) (tickP_byt OKH.out y.now) ((greetL y).map frmY) (by rw [List.length_map]; omega) (fun k => k < w5.heap.size ∧ ¬ Sa k) v5 w5
          (by
            obtain ⟨t, fr, q⟩ := WW4
            exact ⟨t, fr, (C5.block 0 (lt_of_heap q) (fun r => by
              rcases T1H.out 0 (h4'.inT 0 r).1 with u | u
              · have := H0.out 0 u; omega
              · have := C1H.out.size
                obtain ⟨_, _, qq⟩ := WH.out.f
                have := lt_of_heap qq
                omega)).trans q⟩)
          ⟨by have := C5.size; omega, fun q => by have := old4.out 0 q; omega⟩
          (f5.bounded.mono (fun k hk => ⟨hk.2, fun q => by have := (sa k q).1; omega⟩) (fun k hk => ⟨hk.2, fun q => by
            rcases hk.1 with r | r
            · rcases t5 k r with u | u
              · exact (sa k q).2 (h4'.inT k u).1
              · have := (sa k q).1; omega
            · have := (sa k q).1; omega⟩))
          ⟨Sa, (airO _ _).kept a4 C5 (fun k hk q => (sa k hk).2 (h4'.inT k q).1), fun k hk q => q.2 hk, fun k hk => hk.1, Chg.refl _ _⟩)
      have FIN := Hid.intro (fun (w5 w6 : World) (T5 Sb : Nat → Prop) s5 (C5 : Chg T w4 w5) t5 C6 (a6 : AirP w1.heap.size ((greetL y).map frmY ++ (tickP y.snd y.now).map frmY) Sb w6) d6 => h4'.ticked (w5 := w5) (w6 := w6) (T5 := T5) (Sa := Sa) (Sb := Sb) (bx := w1.heap.size) s5 C5 t5 sa C6 a6 d6 hM)
      have q8 := Hid.intro (fun (w5 : World) (C5 : Chg T w4 w5) => (show w5.cell? ⟨b, 8, none⟩ = some (.pointer (some ⟨sb, 0, none⟩)) ∧ w5.cell? ⟨b, 2, none⟩ = some (.int .i64 (y.now : Int)) from ⟨cell_chg C5 k8 (fun q => (h4'.inT b q).2 rfl), cell_chg C5 k2 (fun q => (h4'.inT b q).2 rfl)⟩))
      have CA : Hid (Chg (fun k => k = w1.heap.size ∨ w1.heap.size ≤ k) w1 w4) := Hid.intro (((below_chg BAH.out).mono (fun _ f _ => f.elim)).trans (((below_chg B3H.out).mono (fun _ f _ => f.elim)).trans C4 (fun k q _ => q)) (fun k q _ => by
        rcases Nat.lt_or_ge k w1.heap.size with u | u
        · exact absurd ⟨by omega, by omega⟩ q
        · exact .inr u))
      have SA4 := Hid.intro sa
      have D4 := Hid.intro (show ∀ k, S1 k → k < w1.heap.size from HS.out)
      generalize tickC y.snd y.now = sC at TK FIN
      generalize hfs : tickP y.snd y.now = fs at TK E5 FIN ⊢
      have HFS := Hid.intro hfs
      clear hfs
      generalize hst : stepD y = y2 at FIN ⊢
      have HST := Hid.intro hst
      clear hst
      generalize hgl : greetL y = gl at E5 FIN a4 ⊢
      have HGL := Hid.intro hgl
      clear hgl
      have wr1 : IntKind.i64.wrap ((y.now : Int) + 1) = (y.now : Int) + 1 := IntWalk.i64_in _ (by omega)
      clear a4 d4 C4 sa h4' WW4 E3 H3 B3H WWH BAH few ones hnow hs3
      have k8H := k8
      go_wp2_with fail
      go_region_held3 (fun W => W.cell? ⟨b, 8, none⟩ = some (.pointer (some ⟨sb, 0, none⟩)) ∧ W.cell? ⟨b, 2, none⟩ = some (.int .i64 (y.now : Int)))
        (first | exact ⟨q68, q62⟩ | exact ⟨q58, q52⟩ | go_keep)
        ((first
          | (go_at_call 43; refine E5x.out.mono ?_; rintro e w6 ⟨rfl, O6⟩; obtain ⟨Sb, a6, d6, _, C6⟩ := O6; obtain ⟨⟨_, _, q68, q62, f62⟩, z⟩ := FIN.out w5 w6 T5 Sb S5.out C5H.out T5H.out C6 a6 d6; have Z := Hid.intro z; clear z a6 d6 C6)
          | (go_at_call 46; refine (TK.out _ (Below.refl _ w4).drew).mono ?_; rintro e w5 ⟨v5, T5, rfl, f5, s5, C5d, t5⟩; have C5 : Chg T w4 w5 := ⟨C5d.os, C5d.tape, C5d.output, C5d.size, C5d.block⟩; obtain ⟨q58, q52⟩ := q8.out w5 C5; have S5 := Hid.intro s5; have C5H : Hid (Chg T w4 w5) := Hid.intro C5; have T5H : Hid (∀ k, T5 k → T k ∨ w4.heap.size ≤ k) := Hid.intro t5; have E5x := Hid.intro (E5.out w5 v5 T5 f5 C5 t5); obtain ⟨ao5, c5, e5⟩ := f5.len; subst e5; clear f5 s5 C5 C5d t5)))
      all_goals
        have S7 := C1H.out.size
        obtain ⟨v7, m7, r7, old7, new7, dv7, hs7, ch7⟩ := Z.out
        have R7 := Hid.intro (r7.mono (R' := fun k => w.heap.size ≤ k ∧ k < (w6.setCell ⟨b, 2, none⟩ (.int .i64 ((y.now : Int) + 1))).heap.size ∧ ¬ headS b T5 kv k) (fun k hk => ⟨by
          rcases old7 k hk with r | r
          · omega
          · have := old4.out k r; omega, (new7 k hk).2, (new7 k hk).1⟩))
        have CH := Hid.intro ((C1H.out.trans CA.out (fun k q hk => absurd hk (by rcases q with q | q <;> omega))).trans ch7 (S := S) (fun k q hk => by
          rcases q with q | q
          · rcases T1H.out k q with r | r
            · exact r
            · omega
          · have := old4.out k q; omega))
        have HS7 : Hid (∀ k, headS b T5 kv k → S k ∨ w.heap.size ≤ k) := Hid.intro (fun k hk => by
          rcases hs7 k hk with r | r
          · exact T1H.out k r
          · exact .inr (by omega))
        have DV := Hid.intro dv7
        obtain ⟨oa7, oc7, e7, _⟩ := r7
        subst e7
        rw [← List.map_append] at m7 R7
        have LEN : (List.map frmY (gl ++ fs)).length = gl.length + fs.length := by simp
        rw [LEN] at R7 m7
        clear old7 new7 dv7 hs7 ch7 Z FIN E5 E5x TK q8 k8 k2 k8H q58 q52 q68 S5 C5H T5H SA4 CA
        go_wp2_with fail
        go_ret
        exact ⟨_, _, rfl, by rw [HGL.out, HFS.out]; exact R7.out, by rw [HST.out]; exact DV.out, CH.out, HS7.out⟩
  · have e := no.out (fun q => by omega)
    subst e
    have g1 : ((4 - fl : Nat) : Int) = 0 := by omega
    clear HPU yes no
    go_enter Tryz.func15, Tryz.ntmps15
    go_wp2_with fail
    refine (RM.out w (Below.refl _ w)).mono ?_
    rintro e w1 ⟨rfl, B1⟩
    have HL := Hid.intro (LSAME.out w1 B1)
    clear c8 c9 B1 RM K9 LSAME
    rw [g1]
    go_wp2_with fail
    obtain ⟨S1, ⟨sb, kv, T, h⟩, C1, t1⟩ := HL.out
    have OKY := h.ok
    have hnow := h.ok.now
    have ones := greetL_len y
    have few := outF_len h.ok
    have WW : Wid w1 := by
      obtain ⟨t, fr, q⟩ := WH.out.f
      exact ⟨t, fr, (C1.block 0 (lt_of_heap q) (fun r => by have := H0.out 0 r; omega)).trans q⟩
    have z1 : 0 < w1.heap.size := by
      obtain ⟨t, fr, q⟩ := WW
      exact lt_of_heap q
    have h1lt := h.lt
    have BA := (Below.refl _ w1).alloc (Nat.le_refl _) (.cells #[.slice none 0 0] 79)
    have HB2 := heap_alloc_new w1 (.cells #[.slice none 0 0] 79)
    have sz2 := World.size_alloc w1 (.cells #[.slice none 0 0] 79)
    generalize w1.alloc (.cells #[.slice none 0 0] 79) = W2 at BA HB2 sz2 ⊢
    have h2 := h.kept' (below_chg BA) (fun _ _ => id)
    have GR := Hid.intro (dgreet_any W2 ⟨sb, kv, T, h2⟩ hM)
    have HS := Hid.intro h1lt
    have H2 := Hid.intro h2
    have C1H := Hid.intro C1
    have T1H := Hid.intro t1
    have OKH := Hid.intro OKY
    have WWH := Hid.intro WW
    have BAH := Hid.intro BA
    clear HL h h1lt h2 C1 t1 BA WW
    refine GR.out.mono ?_
    rintro e w3 ⟨v3, rfl, f3, B3⟩
    have hs3 := B3.size
    have h3 := H2.out.kept' (below_chg B3) (fun _ _ => id)
    have A3 : One (AirP w1.heap.size []) (fun k => k < w3.heap.size ∧ k ≠ w1.heap.size) w3 w3 := ⟨fun k => k = w1.heap.size, air_new ((B3.block _ (by omega)).trans HB2), fun k hk q => q.2 hk, fun k hk => hk.1, Chg.refl _ _⟩
    have E3 := Hid.intro (aeach_any w1.heap.size (greetL y) (by omega) (greet_byt OKH.out) [] (by decide) _ v3 w3 ((WWH.out.below BAH.out).below B3) ⟨by omega, by omega⟩ (f3.mono (fun k hk => ⟨hk.2, by omega⟩) (fun k hk => ⟨hk.2, by omega⟩)) A3)
    have H3 := Hid.intro h3
    have B3H := Hid.intro B3
    obtain ⟨ao3, c3, e3⟩ := f3.len
    subst e3
    clear A3 f3 h3 B3 GR H2 HB2
    go_wp2_with fail
    refine E3.out.mono ?_
    rintro e w4 ⟨rfl, O4⟩
    rw [List.nil_append] at O4
    obtain ⟨Sa, a4, d4, e4, C4⟩ := O4
    have sa : ∀ k, Sa k → k < w4.heap.size ∧ ¬ S1 k := fun k hk => ⟨(airO _ _).lt a4 k hk, fun q => d4 k hk ⟨by have := HS.out k q; omega, by have := HS.out k q; omega⟩⟩
    have h4' := H3.out.kept' C4 (fun k hk q => q ⟨by have := HS.out k hk; omega, by have := HS.out k hk; omega⟩)
    have WW4 : Wid w4 := by
      obtain ⟨t, fr, q⟩ := (WWH.out.below BAH.out).below B3H.out
      exact ⟨t, fr, (C4.block 0 (by omega) (fun r => r ⟨by omega, by omega⟩)).trans q⟩
    have TK := Hid.intro (fun (W : World) (hW : Below w4.heap.size w4 W) => ntick_any M sb y.now ⟨by omega, by omega⟩ T y.snd W hM (h4'.snd.kept (below_chg hW) (fun _ _ => id)))
    have k8 := h4'.cells.2.2.2.2.2.2.2.2.1
    have k2 := h4'.cells.2.2.1
    have hsz4 : w1.heap.size ≤ w4.heap.size := by have := C4.size; omega
    have old4 : Hid (∀ k, Sa k → w1.heap.size ≤ k) := Hid.intro (fun k hk => by
      rcases Nat.lt_or_ge k w1.heap.size with q | q
      · exact absurd ⟨by omega, by omega⟩ (d4 k hk)
      · exact q)
    have E5 := Hid.intro (fun (w5 : World) (v5 : Value) (T5 : Nat → Prop) (f5 : FrsAt (fun k => w4.heap.size ≤ k ∧ k < w5.heap.size ∧ ¬ T5 k) (fun k => T5 k ∨ w4.heap.size ≤ k) w5 v5 (tickP y.snd y.now)) (C5 : Chg T w4 w5) (t5 : ∀ k, T5 k → T k ∨ w4.heap.size ≤ k) =>
      aeach_any w1.heap.size (tickP y.snd y.now) (by have q := few; unfold outF at q; rw [List.length_append] at q; omega) (tickP_byt OKH.out y.now) ((greetL y).map frmY) (by rw [List.length_map]; omega) (fun k => k < w5.heap.size ∧ ¬ Sa k) v5 w5
        (by
          obtain ⟨t, fr, q⟩ := WW4
          exact ⟨t, fr, (C5.block 0 (lt_of_heap q) (fun r => by
            rcases T1H.out 0 (h4'.inT 0 r).1 with u | u
            · have := H0.out 0 u; omega
            · have := C1H.out.size
              obtain ⟨_, _, qq⟩ := WH.out.f
              have := lt_of_heap qq
              omega)).trans q⟩)
        ⟨by have := C5.size; omega, fun q => by have := old4.out 0 q; omega⟩
        (f5.bounded.mono (fun k hk => ⟨hk.2, fun q => by have := (sa k q).1; omega⟩) (fun k hk => ⟨hk.2, fun q => by
          rcases hk.1 with r | r
          · rcases t5 k r with u | u
            · exact (sa k q).2 (h4'.inT k u).1
            · have := (sa k q).1; omega
          · have := (sa k q).1; omega⟩))
        ⟨Sa, (airO _ _).kept a4 C5 (fun k hk q => (sa k hk).2 (h4'.inT k q).1), fun k hk q => q.2 hk, fun k hk => hk.1, Chg.refl _ _⟩)
    have FIN := Hid.intro (fun (w5 w6 : World) (T5 Sb : Nat → Prop) s5 (C5 : Chg T w4 w5) t5 C6 (a6 : AirP w1.heap.size ((greetL y).map frmY ++ (tickP y.snd y.now).map frmY) Sb w6) d6 => h4'.ticked (w5 := w5) (w6 := w6) (T5 := T5) (Sa := Sa) (Sb := Sb) (bx := w1.heap.size) s5 C5 t5 sa C6 a6 d6 hM)
    have q8 := Hid.intro (fun (w5 : World) (C5 : Chg T w4 w5) => (show w5.cell? ⟨b, 8, none⟩ = some (.pointer (some ⟨sb, 0, none⟩)) ∧ w5.cell? ⟨b, 2, none⟩ = some (.int .i64 (y.now : Int)) from ⟨cell_chg C5 k8 (fun q => (h4'.inT b q).2 rfl), cell_chg C5 k2 (fun q => (h4'.inT b q).2 rfl)⟩))
    have CA : Hid (Chg (fun k => k = w1.heap.size ∨ w1.heap.size ≤ k) w1 w4) := Hid.intro (((below_chg BAH.out).mono (fun _ f _ => f.elim)).trans (((below_chg B3H.out).mono (fun _ f _ => f.elim)).trans C4 (fun k q _ => q)) (fun k q _ => by
      rcases Nat.lt_or_ge k w1.heap.size with u | u
      · exact absurd ⟨by omega, by omega⟩ q
      · exact .inr u))
    have SA4 := Hid.intro sa
    have D4 := Hid.intro (show ∀ k, S1 k → k < w1.heap.size from HS.out)
    generalize tickC y.snd y.now = sC at TK FIN
    generalize hfs : tickP y.snd y.now = fs at TK E5 FIN ⊢
    have HFS := Hid.intro hfs
    clear hfs
    generalize hst : stepD y = y2 at FIN ⊢
    have HST := Hid.intro hst
    clear hst
    generalize hgl : greetL y = gl at E5 FIN a4 ⊢
    have HGL := Hid.intro hgl
    clear hgl
    have wr1 : IntKind.i64.wrap ((y.now : Int) + 1) = (y.now : Int) + 1 := IntWalk.i64_in _ (by omega)
    clear a4 d4 C4 sa h4' WW4 E3 H3 B3H WWH BAH few ones hnow hs3
    have k8H := k8
    go_wp2_with fail
    go_region_held3 (fun W => W.cell? ⟨b, 8, none⟩ = some (.pointer (some ⟨sb, 0, none⟩)) ∧ W.cell? ⟨b, 2, none⟩ = some (.int .i64 (y.now : Int)))
      (first | exact ⟨q68, q62⟩ | exact ⟨q58, q52⟩ | go_keep)
      ((first
        | (go_at_call 43; refine E5x.out.mono ?_; rintro e w6 ⟨rfl, O6⟩; obtain ⟨Sb, a6, d6, _, C6⟩ := O6; obtain ⟨⟨_, _, q68, q62, f62⟩, z⟩ := FIN.out w5 w6 T5 Sb S5.out C5H.out T5H.out C6 a6 d6; have Z := Hid.intro z; clear z a6 d6 C6)
        | (go_at_call 46; refine (TK.out _ (Below.refl _ w4).drew).mono ?_; rintro e w5 ⟨v5, T5, rfl, f5, s5, C5d, t5⟩; have C5 : Chg T w4 w5 := ⟨C5d.os, C5d.tape, C5d.output, C5d.size, C5d.block⟩; obtain ⟨q58, q52⟩ := q8.out w5 C5; have S5 := Hid.intro s5; have C5H : Hid (Chg T w4 w5) := Hid.intro C5; have T5H : Hid (∀ k, T5 k → T k ∨ w4.heap.size ≤ k) := Hid.intro t5; have E5x := Hid.intro (E5.out w5 v5 T5 f5 C5 t5); obtain ⟨ao5, c5, e5⟩ := f5.len; subst e5; clear f5 s5 C5 C5d t5)))
    all_goals
      have S7 := C1H.out.size
      obtain ⟨v7, m7, r7, old7, new7, dv7, hs7, ch7⟩ := Z.out
      have R7 := Hid.intro (r7.mono (R' := fun k => w.heap.size ≤ k ∧ k < (w6.setCell ⟨b, 2, none⟩ (.int .i64 ((y.now : Int) + 1))).heap.size ∧ ¬ headS b T5 kv k) (fun k hk => ⟨by
        rcases old7 k hk with r | r
        · omega
        · have := old4.out k r; omega, (new7 k hk).2, (new7 k hk).1⟩))
      have CH := Hid.intro ((C1H.out.trans CA.out (fun k q hk => absurd hk (by rcases q with q | q <;> omega))).trans ch7 (S := S) (fun k q hk => by
        rcases q with q | q
        · rcases T1H.out k q with r | r
          · exact r
          · omega
        · have := old4.out k q; omega))
      have HS7 : Hid (∀ k, headS b T5 kv k → S k ∨ w.heap.size ≤ k) := Hid.intro (fun k hk => by
        rcases hs7 k hk with r | r
        · exact T1H.out k r
        · exact .inr (by omega))
      have DV := Hid.intro dv7
      obtain ⟨oa7, oc7, e7, _⟩ := r7
      subst e7
      rw [← List.map_append] at m7 R7
      have LEN : (List.map frmY (gl ++ fs)).length = gl.length + fs.length := by simp
      rw [LEN] at R7 m7
      clear old7 new7 dv7 hs7 ch7 Z FIN E5 E5x TK q8 k8 k2 k8H q58 q52 q68 S5 C5H T5H SA4 CA
      go_wp2_with fail
      go_ret
      exact ⟨_, _, rfl, by rw [HGL.out, HFS.out]; exact R7.out, by rw [HST.out]; exact DV.out, CH.out, HS7.out⟩

end Go.Proofs.YthhggjakenalpaaGreatDoor

/- Package device: Hear. -/
namespace Go.Proofs.YthhggjakenalpaaGreatDoor
set_option maxRecDepth 100000
open Go.RowKit
open Bt

variable {M b sb : Nat} {S T : Nat → Prop} {w w' : World} {kv : Value} {x : Dev}

/-- Behind the sender's Hear, and the stores of when. -/
theorem DvH.heard (h : DvH M S w b sb kv T x) {w1 w2 : World} {f : FrV} (hb : Below w.heap.size w w1) (hl : LeftN (M + 4) T w1 w2 sb (hearC x.snd f)) (ok' : (({ x with snd := hearC x.snd f, was := true, acked := x.now } : Dev)).Ok (M + 4)) :
    (w2.cell? ⟨b, 2, none⟩ = some (.int .i64 (x.now : Int)) ∧ w2.cell? ⟨b, 10, none⟩ = some (.bool x.was) ∧ w2.frozen? ⟨b, 10, none⟩ = false ∧ (w2.setCell ⟨b, 10, none⟩ (.bool true)).cell? ⟨b, 11, none⟩ = some (.int .i64 (x.acked : Int)) ∧ (w2.setCell ⟨b, 10, none⟩ (.bool true)).frozen? ⟨b, 11, none⟩ = false) ∧
    LeftG (DvS (M + 4) b { x with snd := hearC x.snd f, was := true, acked := x.now }) S w ((w2.setCell ⟨b, 10, none⟩ (.bool true)).setCell ⟨b, 11, none⟩ (.int .i64 (x.now : Int))) := by
  obtain ⟨T', s4, c4, t4⟩ := hl
  have hbl := h.lt b h.inB
  have hsz := hb.size
  have hs4 := c4.size
  have cb : Chg (fun k => T k) w w2 := ((below_chg hb).mono (fun _ f _ => f.elim)).trans c4 (fun k q _ => q)
  have hd : w2.heap[b]? = some (.cells (dcells x sb kv) 77 (0, 0)) := (cb.block b hbl (fun q => (h.inT b q).2 rfl)).trans h.head
  have h1 := heap_setCell_same w2 b 10 _ _ (.bool true) hd
  have h2 := heap_setCell_same _ b 11 _ _ (.int .i64 (x.now : Int)) h1
  refine ⟨⟨by rw [cell_of_row _ _ 2 _ _ _ hd]; rfl, by rw [cell_of_row _ _ 10 _ _ _ hd]; rfl, frozen_of_row _ _ 10 _ _ hd, by rw [cell_of_row _ _ 11 _ _ _ h1]; rfl, frozen_of_row _ _ 11 _ _ h1⟩, ?_⟩
  have c2 : Chg (fun k => k = b) w2 ((w2.setCell ⟨b, 10, none⟩ (.bool true)).setCell ⟨b, 11, none⟩ (.int .i64 (x.now : Int))) := ((Chg.refl (fun k => k = b) w2).setCell (p := ⟨b, 10, none⟩) (fun _ => rfl) _).setCell (p := ⟨b, 11, none⟩) (fun _ => rfl) _
  have hT : ∀ k, T' k → T k ∨ w.heap.size ≤ k := fun k hk => by
    rcases t4 k hk with q | q
    · exact .inl q
    · exact .inr (by omega)
  refine h.step (sb' := sb) (kv' := kv) (T' := T') ?_ (s4.kept c2 (fun k hk e => ?_)) ?_ hT (fun k hk => .inl hk) (fun k hk q => ?_) ((cb.mono (fun k q _ => (h.inT k q).1)).trans c2 (fun k q _ => by rw [q]; exact h.inB)) ok'
  · rw [h2]; rfl
  · rcases hT k hk with q | q
    · exact (h.inT k q).2 e
    · omega
  · refine ownsRow_keep h.own fun k hk => ?_
    have hv := h.inV k hk
    have hl := h.lt k hv.1
    exact (c2.block k (by omega) hv.2.1).trans (cb.block k hl hv.2.2)
  · rcases hT k q with r | r
    · exact (h.inV k hk).2.2 r
    · have := h.lt k (h.inV k hk).1; omega

/-- Behind a Hear that answers no. -/
theorem DvH.deaf (h : DvH M S w b sb kv T x) {w1 w2 : World} (hb : Below w.heap.size w w1) (hl : LeftN (M + 4) T w1 w2 sb x.snd) : LeftG (DvS (M + 4) b x) S w w2 := by
  obtain ⟨T', s4, c4, t4⟩ := hl
  have hbl := h.lt b h.inB
  have hsz := hb.size
  have cb : Chg (fun k => T k) w w2 := ((below_chg hb).mono (fun _ f _ => f.elim)).trans c4 (fun k q _ => q)
  have hT : ∀ k, T' k → T k ∨ w.heap.size ≤ k := fun k hk => by
    rcases t4 k hk with q | q
    · exact .inl q
    · exact .inr (by omega)
  refine h.step (sb' := sb) (kv' := kv) (T' := T') ((cb.block b hbl (fun q => (h.inT b q).2 rfl)).trans h.head) s4 (ownsRow_keep h.own fun k hk => cb.block k (h.lt k (h.inV k hk).1) (h.inV k hk).2.2) hT (fun k hk => .inl hk) (fun k hk q => ?_) (cb.mono (fun k q _ => (h.inT k q).1)) (h.ok.more (by omega))
  rcases hT k q with r | r
  · exact (h.inV k hk).2.2 r
  · have := h.lt k (h.inV k hk).1; omega

/-- What Parse answers, its frame as a letter. -/
theorem parse_frV {bs : List Nat} {w : World} {e : Ending} {w' : World} (h : ParseP bs w e w') : Below w.heap.size w w' ∧
    ((parseE bs ≠ 0 ∧ e = .returned (.tuple #[Fr 0 0 0 0 0 none 0 0, .int .i64 ((parseE bs : Nat) : Int)])) ∨
     (parseE bs = 0 ∧ ∃ f ao c, f = frV bs ∧ e = .returned (.tuple #[Fr f.tx f.sq f.an f.rs f.kd ao f.data.length c, .int .i64 0]) ∧
       Reads w' ao f.data ∧ (ao = none → c = 0) ∧ (f.data.length ≤ c ∧ c ≤ 9223372036854775807) ∧ (∀ ad, ao = some ad → w.heap.size ≤ ad.block ∧ ad.block < w'.heap.size))) := by
  obtain ⟨hb, h | ⟨hz, ao, c, he, h1, h2, h3, h4⟩⟩ := h
  · exact ⟨hb, .inl h⟩
  · exact ⟨hb, .inr ⟨hz, frV bs, ao, c, rfl, he, h1, h2, h3, h4⟩⟩

theorem frV_byt {bs : List Nat} (h : Byt bs) : Byt (frV bs).data := fun y hy => h y (List.mem_of_mem_drop (List.mem_of_mem_take hy))

theorem dhear_nil (a : Option Addr) (len cap : Nat) (w : World) :
    Calls Tryz.prog 16 #[.pointer none, .slice a len cap] w fun e w' => e = .returned (.bool false) ∧ Below w.heap.size w w' := by
  go_enter Tryz.func16, Tryz.ntmps16
  go_wp2
  go_ret
  exact ⟨rfl, Below.refl _ _⟩

set_option maxRecDepth 100000 in
set_option maxHeartbeats 2000000 in
theorem dhear_any (a : Option Addr) (cap : Nat) (bs : List Nat) (hl : bs.length ≤ 100000) (hcap : bs.length ≤ cap) (hcm : cap ≤ 9223372036854775807) (h256 : Byt bs) (w : World) (hw : Wd w) (hr : Reads w a bs) (hc : DvS M b x S w) (hM : M ≤ 1000000) :
    Calls Tryz.prog 16 #[.pointer (some ⟨b, 0, none⟩), .slice a bs.length cap] w fun e w' => e = .returned (.bool (hearB x bs)) ∧ LeftG (DvS (M + 4) b (hearD x bs)) S w w' := by
  obtain ⟨sb, kv, T, h⟩ := hc
  have PA := Hid.intro (parse_any a cap bs hl hcap hcm h256 w hw.f hr)
  have HH := Hid.intro h
  have WH := Hid.intro hw
  obtain ⟨_, _, _, _, _, _, _, _, c8, _⟩ := h.cells
  have ltS := h.lt
  obtain ⟨L, hL⟩ : ∃ L, L = bs.length := ⟨_, rfl⟩
  rw [← hL] at PA ⊢
  have OKD := Hid.intro (hearD_ok h.ok bs)
  have nT : Hid (∀ k, T k → k < w.heap.size) := Hid.intro (fun k hk => h.lt k (h.inT k hk).1)
  have HB256 := Hid.intro h256
  clear h hw hr hcap hl h256 hL
  go_enter Tryz.func16, Tryz.ntmps16
  have HY := Hid.intro (frV_byt HB256.out)
  go_wp2_with fail
  refine PA.out.mono ?_
  intro e w1 hpp
  obtain ⟨B1, ⟨hne, rfl⟩ | ⟨hz, f, ao, c, hf, rfl, hrd, hn, hm, hnew⟩⟩ := parse_frV hpp
  · have hb : hearB x bs = false := by unfold hearB; rw [decide_eq_false hne]; rfl
    have hd : hearD x bs = x := by unfold hearD; rw [hb]; rfl
    have HB := Hid.intro hb
    have HD := Hid.intro hd
    have ne : (((parseE bs : Nat) : Int) != 0) = true := by rw [bne_iff_ne]; omega
    have FIN := Hid.intro (fun (W : World) (hB : Below w.heap.size w W) => (show LeftG (DvS (M + 4) b x) S w W from ⟨S, DvS.more ((dvO M b x).kept ⟨sb, kv, T, HH.out⟩ (below_chg hB) (fun _ _ => id)) (by omega), (below_chg hB).mono (fun _ f _ => f.elim), fun k hk => .inl hk⟩))
    have BA := Hid.intro (B1.trans (((Below.refl _ w1).alloc (Nat.le_refl _) (.cells #[.int .i64 0, .int .i64 0, .int .i64 0, .int .i64 0, .int .i64 0, .slice none 0 0] 55)).mono B1.size))
    generalize ((parseE bs : Nat) : Int) = pe at ne hpp ⊢
    clear PA HH B1 c8 hne hb hd hpp
    go_wp2_with fail
    go_big_quiet (fail)
    go_wp2_with fail
    go_ret
    exact ⟨by rw [HB.out]; rfl, by rw [HD.out]; exact FIN.out _ (belowN BA.out _)⟩
  · have hb : hearB x bs = hearA x.snd f := by unfold hearB; rw [decide_eq_true hz, hf]; rfl
    have HB := Hid.intro hb
    have hYes : Hid (hearA x.snd f = true → hearD x bs = { x with snd := hearC x.snd f, was := true, acked := x.now }) := Hid.intro (fun q => by unfold hearD; rw [hb, if_pos q, hf])
    have hNo : Hid (hearA x.snd f = false → hearD x bs = x ∧ hearC x.snd f = x.snd) := Hid.intro (fun q => ⟨by unfold hearD; rw [hb, if_neg (by rw [q]; decide)], by unfold hearC; rw [if_neg (by rw [q]; decide)]⟩)
    rw [← hf] at HY
    obtain ⟨O, hO⟩ : ∃ O, O = Obj.cells #[.int .i64 f.tx, .int .i64 f.sq, .int .i64 f.an, .int .i64 f.rs, .int .i64 f.kd, .slice ao f.data.length c] 55 (0, 0) := ⟨_, rfl⟩
    obtain ⟨W1, hW1⟩ : ∃ W1, W1 = w1.alloc O := ⟨_, rfl⟩
    have B0 : Below w1.heap.size w1 W1 := by rw [hW1]; exact (Below.refl _ w1).alloc (Nat.le_refl _) O
    have b0 : W1.heap[w1.heap.size]? = some O := by rw [hW1]; exact heap_alloc_new w1 O
    rw [hO] at b0
    have s0 : W1.cell? ⟨w1.heap.size, 0, none⟩ = some (.int .i64 f.tx) := by rw [cell_of_row _ _ 0 _ _ _ b0]; rfl
    have s1 : W1.cell? ⟨w1.heap.size, 1, none⟩ = some (.int .i64 f.sq) := by rw [cell_of_row _ _ 1 _ _ _ b0]; rfl
    have s2 : W1.cell? ⟨w1.heap.size, 2, none⟩ = some (.int .i64 f.an) := by rw [cell_of_row _ _ 2 _ _ _ b0]; rfl
    have s3 : W1.cell? ⟨w1.heap.size, 3, none⟩ = some (.int .i64 f.rs) := by rw [cell_of_row _ _ 3 _ _ _ b0]; rfl
    have s4 : W1.cell? ⟨w1.heap.size, 4, none⟩ = some (.int .i64 f.kd) := by rw [cell_of_row _ _ 4 _ _ _ b0]; rfl
    have s5 : W1.cell? ⟨w1.heap.size, 5, none⟩ = some (.slice ao f.data.length c) := by rw [cell_of_row _ _ 5 _ _ _ b0]; rfl
    have BW : Below w.heap.size w W1 := B1.trans (B0.mono B1.size)
    have BWH := Hid.intro BW
    have k8 := cellD BW c8
    have HE := Hid.intro (fun (W : World) (hW : Below W1.heap.size W1 W) => nhear_any M sb f ao c HY.out T x.snd W hM ((WH.out.f.below BW).below hW) ((HH.out.snd.kept (below_chg BW) (fun _ _ => id)).kept (below_chg hW) (fun _ _ => id)) ((hrd.below B0).below hW) (fun _ ad ha q => by have := (hnew ad ha).1; have := nT.out _ q; omega))
    have FINY := Hid.intro (fun (W W2 : World) (hW : Below W1.heap.size W1 W) hl ok' => HH.out.heard (w1 := W) (w2 := W2) (f := f) (BW.trans (hW.mono BW.size)) hl ok')
    have FINN := Hid.intro (fun (W W2 : World) (hW : Below W1.heap.size W1 W) hl => HH.out.deaf (w1 := W) (w2 := W2) (BW.trans (hW.mono BW.size)) hl)
    have KQ := Hid.intro (fun (w2 : World) (hl : LeftN (M + 4) T W1.drew w2 sb (hearC x.snd f)) => (show w2.cell? ⟨b, 8, none⟩ = some (.pointer (some ⟨sb, 0, none⟩)) ∧ w2.cell? ⟨w1.heap.size, 0, none⟩ = some (.int .i64 f.tx) ∧ w2.cell? ⟨w1.heap.size, 1, none⟩ = some (.int .i64 f.sq) ∧ w2.cell? ⟨w1.heap.size, 2, none⟩ = some (.int .i64 f.an) ∧ w2.cell? ⟨w1.heap.size, 3, none⟩ = some (.int .i64 f.rs) ∧ w2.cell? ⟨w1.heap.size, 4, none⟩ = some (.int .i64 f.kd) ∧ w2.cell? ⟨w1.heap.size, 5, none⟩ = some (.slice ao f.data.length c) by
      obtain ⟨T', _, q, _⟩ := hl
      have n1 : ¬ T b := fun q => (HH.out.inT b q).2 rfl
      have n2 : ¬ T w1.heap.size := fun q => by have := nT.out _ q; have := B1.size; omega
      have q' : Chg T W1 w2 := ⟨q.os, q.tape, q.output, q.size, q.block⟩
      exact ⟨cell_chg q' k8 n1, cell_chg q' s0 n2, cell_chg q' s1 n2, cell_chg q' s2 n2, cell_chg q' s3 n2, cell_chg q' s4 n2, cell_chg q' s5 n2⟩))
    generalize hha : hearA x.snd f = ha at *
    clear hha
    have HF := Hid.intro hf
    clear hpp PA HH B1 c8 hb B0 b0 hrd hn hm hnew BW hz hf
    subst hO
    go_wp2_with fail
    rw [← hW1]
    clear hW1
    go_region_held3 (fun W => W.cell? ⟨b, 8, none⟩ = some (.pointer (some ⟨sb, 0, none⟩)) ∧ W.cell? ⟨w1.heap.size, 0, none⟩ = some (.int .i64 f.tx) ∧ W.cell? ⟨w1.heap.size, 1, none⟩ = some (.int .i64 f.sq) ∧ W.cell? ⟨w1.heap.size, 2, none⟩ = some (.int .i64 f.an) ∧ W.cell? ⟨w1.heap.size, 3, none⟩ = some (.int .i64 f.rs) ∧ W.cell? ⟨w1.heap.size, 4, none⟩ = some (.int .i64 f.kd) ∧ W.cell? ⟨w1.heap.size, 5, none⟩ = some (.slice ao f.data.length c))
      (first | exact QQ.out | go_keep)
      ((go_at_call 47; refine (HE.out _ (Below.refl _ W1).drew).mono ?_; rintro e w2 ⟨rfl, hl⟩; have HL := Hid.intro hl; have QQ := Hid.intro (KQ.out w2 hl); clear hl))
    all_goals
      clear s0 s1 s2 s3 s4 s5 k8 KQ HE QQ
    all_goals
      cases ha with
      | false =>
        obtain ⟨e1, e2⟩ := hNo.out rfl
        have HLN := HL.out
        rw [e2] at HLN
        have FZ := Hid.intro (FINN.out _ _ (Below.refl _ W1).drew HLN)
        clear HLN e2 FINN FINY
        go_wp2_with fail
        go_ret
        exact ⟨by rw [HB.out]; rfl, by first | exact FZ.out | (rw [e1]; exact FZ.out)⟩
      | true =>
        have e1 := hYes.out rfl
        have OK1 := OKD.out
        rw [e1] at OK1
        obtain ⟨⟨a1, a2, a3, a4, a5⟩, z⟩ := FINY.out _ _ (Below.refl _ W1).drew HL.out OK1
        have FZ := Hid.intro z
        clear z FINN FINY OK1
        go_wp2_with fail
        go_ret
        exact ⟨by rw [HB.out]; rfl, by first | exact FZ.out | (rw [e1]; exact FZ.out)⟩

end Go.Proofs.YthhggjakenalpaaGreatDoor

/- A device among other things: what its calls answer and leave; what is put is parsed again. -/
namespace Go.Proofs.YthhggjakenalpaaGreatDoor
set_option maxRecDepth 100000
open Go.RowKit
open Bt

/-- A right frame's bytes are parsed as it. -/
theorem frmY_back {f : FrV} (h : isFrm f.tx f.sq f.an f.rs f.kd f.data.length = true) : parseE (frmY f) = 0 ∧ frV (frmY f) = f := by
  obtain ⟨p, f0, f1, f2, f3, f4, f5⟩ := put_fields h
  refine ⟨p, ?_⟩
  show frV (putF f.tx f.sq f.an f.rs f.kd f.data) = f
  unfold frV
  rw [f0, f1, f2, f3, f4, f5]

theorem frmY_len {f : FrV} (h : isFrm f.tx f.sq f.an f.rs f.kd f.data.length = true) : 11 ≤ (frmY f).length ∧ (frmY f).length ≤ 71 := putF_len h

theorem frmY_byt {f : FrV} (h : Byt f.data) : Byt (frmY f) := putF_byte h

theorem hearY {x : Dev} {f : FrV} (h : isFrm f.tx f.sq f.an f.rs f.kd f.data.length = true) : hearB x (frmY f) = hearA x.snd f ∧ (hearA x.snd f = true → hearD x (frmY f) = { x with snd := hearC x.snd f, was := true, acked := x.now }) := by
  obtain ⟨h1, h2⟩ := frmY_back h
  have e : hearB x (frmY f) = hearA x.snd f := by unfold hearB; rw [decide_eq_true h1, h2]; rfl
  refine ⟨e, fun q => ?_⟩
  unfold hearD
  rw [e, if_pos q, h2]

/-- A row that is a right frame's is parsed as that frame. -/
theorem parse_row {Q : Nat → Prop} {f : FrV} (hf : isFrm f.tx f.sq f.an f.rs f.kd f.data.length = true) (hY : Byt f.data) (v : Value) (w : World) (hw : Wid w) (hv : RwV Q w v (frmY f)) :
    Calls Tryz.prog 27 #[v] w fun e w' => ∃ ao c, e = .returned (.tuple #[Fr f.tx f.sq f.an f.rs f.kd ao f.data.length c, .int .i64 0]) ∧ Reads w' ao f.data ∧ (ao = none → c = 0) ∧ (f.data.length ≤ c ∧ c ≤ 9223372036854775807) ∧ (∀ ad, ao = some ad → w.heap.size ≤ ad.block ∧ ad.block < w'.heap.size) ∧ Below w.heap.size w w' := by
  obtain ⟨a, c, rfl, hr, _, hm, _⟩ := hv
  obtain ⟨h1, h2⟩ := frmY_back hf
  have hl := frmY_len hf
  refine (parse_any a c (frmY f) (by omega) hm.1 hm.2 (frmY_byt hY) w hw hr).mono ?_
  intro e w' hp
  obtain ⟨hb, ⟨hne, _⟩ | ⟨_, g, ao, c', hg, he, q1, q2, q3, q4⟩⟩ := parse_frV hp
  · exact absurd h1 hne
  · rw [h2] at hg
    subst hg
    exact ⟨ao, c', he, q1, q2, q3, q4, hb⟩

/-- What a list of rows holds. -/
theorem RowsV.row {R : Nat → Prop} {w : World} {v : Value} {L : List (List Nat)} (h : RowsV R w v L) {t : Nat} (ht : t < L.length) : ∃ g cap u, v = .slice (some ⟨g, 0, none⟩) L.length cap ∧ R g ∧ w.cell? ⟨g, t, none⟩ = some u ∧ RwV R w u (L.getD t []) := by
  obtain ⟨ao, cap, e, hp⟩ := h
  obtain ⟨g, rfl, hg, hr⟩ := hp (by omega)
  obtain ⟨u, hu, hq⟩ := hr t ht
  exact ⟨g, cap, u, e, hg, hu, hq⟩

theorem RowsV.len {R : Nat → Prop} {w : World} {v : Value} {L : List (List Nat)} (h : RowsV R w v L) : ∃ ao cap, v = .slice ao L.length cap := by
  obtain ⟨ao, cap, e, _⟩ := h
  exact ⟨ao, cap, e⟩

/-! ### Among other things -/

variable {F : Nat → Prop} {M b : Nat} {w0 w w' : World} {x : Dev}

abbrev DL (M b : Nat) (x : Dev) (F : Nat → Prop) (w0 w : World) : Prop := One (DvS M b x) F w0 w

theorem DL.ok (h : DL M b x F w0 w) : x.Ok M := by
  obtain ⟨S, h, _⟩ := h
  exact h.ok

theorem DL.more {M' : Nat} (h : DL M b x F w0 w) (hM : M ≤ M') : DL M' b x F w0 w := by
  obtain ⟨S, h1, h2⟩ := h
  exact ⟨S, h1.more hM, h2⟩

/-- The tables are as they were. -/
theorem wd_one {P : (Nat → Prop) → World → Prop} (h : One P F w0 w) (hW : Wd w0) (h0 : F 0) (h1 : F 1) : Wd w := by
  obtain ⟨⟨t, fr, q⟩, ⟨t', fr', q'⟩⟩ := hW
  exact ⟨⟨t, fr, (h.block h0).trans q⟩, ⟨t', fr', (h.block h1).trans q'⟩⟩

theorem two_of {S : Nat → Prop} (h2 : ∀ k, S k → ¬ F k) (h0 : F 0) (h1 : F 1) : ∀ k, S k → 2 ≤ k := fun k hk => by
  have n0 : k ≠ 0 := fun q => h2 k hk (q ▸ h0)
  have n1 : k ≠ 1 := fun q => h2 k hk (q ▸ h1)
  omega

theorem dltake (s : Smp) (h : DL M b x F w0 w) :
    Calls Tryz.prog 14 #[.pointer (some ⟨b, 0, none⟩), Sm s] w fun e w' => e = .returned (.int .i64 (takeE x s)) ∧ DL M b (takeD x s) F w0 w' :=
  h.call fun _ hS => dtake_any s w hS

theorem dlkept (h : DL M b x F w0 w) :
    Calls Tryz.prog 17 #[.pointer (some ⟨b, 0, none⟩)] w fun e w' => e = .returned (.int .i64 (x.kept.length : Int)) ∧ DL M b x F w0 w' :=
  h.look (dvO M b x) fun _ hS => dkept_any w hS

theorem dlsess (h : DL M b x F w0 w) :
    Calls Tryz.prog 20 #[.pointer (some ⟨b, 0, none⟩)] w fun e w' => e = .returned (.int .i64 (x.session : Int)) ∧ DL M b x F w0 w' :=
  h.look (dvO M b x) fun _ hS => dsess_any w hS

theorem dlsessB (h : DL M b x F w0 w) :
    Calls Tryz.prog 20 #[.pointer (some ⟨b, 0, none⟩)] w fun e w' => e = .returned (.int .i64 (x.session : Int)) ∧ Below w.heap.size w w' := by
  obtain ⟨S, h, _⟩ := h
  exact dsess_any w h

theorem dlout (h : DL M b x F w0 w) :
    Calls Tryz.prog 18 #[.pointer (some ⟨b, 0, none⟩)] w fun e w' => e = .returned (.int .i64 (x.snd.fl.length : Int)) ∧ DL M b x F w0 w' :=
  h.look (dvO M b x) fun _ hS => dout_any w hS

theorem dllost (h : DL M b x F w0 w) :
    Calls Tryz.prog 19 #[.pointer (some ⟨b, 0, none⟩)] w fun e w' => e = .returned (.int .i64 (x.snd.lost : Int)) ∧ DL M b x F w0 w' :=
  h.look (dvO M b x) fun _ hS => dlost_any w hS

theorem dlreset (h : DL M b x F w0 w) (hW : Wd w) (h0 : F 0) :
    Calls Tryz.prog 13 #[.pointer (some ⟨b, 0, none⟩)] w fun e w' => e = .returned (.tuple #[]) ∧ DL M b (anewD x) F w0 w' := by
  obtain ⟨S, h1, h2, h3, h4⟩ := h
  exact (dreset_any w hW h1 (fun k hk q => h2 k hk (q ▸ h0))).mono fun e w' ⟨he, hl⟩ => ⟨he, One.left h2 h3 h4 hl⟩

theorem dlhear {Q : Nat → Prop} (v : Value) (bs : List Nat) (hl : bs.length ≤ 100000) (h256 : Byt bs) (h : DL M b x F w0 w) (hW : Wd w) (hv : RwV Q w v bs) (hM : M ≤ 1000000) :
    Calls Tryz.prog 16 #[.pointer (some ⟨b, 0, none⟩), v] w fun e w' => e = .returned (.bool (hearB x bs)) ∧ DL (M + 4) b (hearD x bs) F w0 w' := by
  obtain ⟨a, c, rfl, hr, _, hm, _⟩ := hv
  exact h.call fun _ hS => dhear_any a c bs hl hm.1 hm.2 h256 w hW hr hS hM

theorem dltick (h : DL M b x F w0 w) (hW : Wd w) (h0 : F 0) (h1 : F 1) (hM : M ≤ 1000000) :
    Calls Tryz.prog 15 #[.pointer (some ⟨b, 0, none⟩)] w fun e w' => ∃ v G, e = .returned v ∧ (∀ k, F k → G k) ∧ RowsV G w' v ((tickO x).map frmY) ∧ DL (M + 1) b (tickD x) G w' w' ∧ DL (M + 1) b (tickD x) F w0 w' := by
  obtain ⟨S, g1, g2, g3, g4⟩ := h
  refine (dtick_any w hW g1 (two_of g2 h0 h1) hM).mono ?_
  rintro e w' ⟨S', v, rfl, hr, hd, hc, hs⟩
  have hF' : ∀ k, S' k → ¬ F k := fun k hk hf => by
    rcases hs k hk with q | q
    · exact g2 k q hf
    · have := g3 k hf
      have := g4.size
      omega
  have hsl : DL (M + 1) b (tickD x) F w0 w' := One.left g2 g3 g4 ⟨S', hd, hc, hs⟩
  refine ⟨v, fun k => F k ∨ (w.heap.size ≤ k ∧ k < w'.heap.size ∧ ¬ S' k), rfl, fun k hk => .inl hk, hr.mono (fun k hk => .inr hk), ⟨S', hd, fun k hk q => ?_, fun k q => ?_, Chg.refl _ _⟩, hsl⟩
  · rcases q with q | q
    · exact hF' k hk q
    · exact q.2.2 hk
  · rcases q with q | q
    · have := g3 k q
      have := g4.size
      have := hc.size
      omega
    · exact q.2.1

end Go.Proofs.YthhggjakenalpaaGreatDoor

/- The example of layer 18 comes out, and touches nothing that was there. -/
namespace Go.Proofs.YthhggjakenalpaaGreatDoor
set_option maxRecDepth 100000
open Go.RowKit
open Bt

theorem link_any (w : World) : Calls Tryz.prog 38 #[] w fun e w' => e = .returned (Lk 2 3 8 2 2) ∧ Below w.heap.size w w' := by
  go_enter Tryz.func38, Tryz.ntmps38
  go_wp2
  refine bodyPost_ret (results_cell_row rfl _ _ w.heap.size 25 #[.int .i64 2, .int .i64 3, .int .i64 8, .int .i64 2, .int .i64 2] (0, 0) _ rfl (heap_alloc_new _ _) Tryz.underlying25 rfl (by kernel_rfl)) rfl ?_
  exact ⟨rfl, (Below.refl _ w).alloc (Nat.le_refl _) _⟩

/-- []byte{x, y}. -/
theorem pair_row (x y : Nat) (W : World) : Reads (W.alloc (.cells #[.int .u8 (x : Int), .int .u8 (y : Int)] 5 (0, 0))) (some ⟨W.heap.size, 0, none⟩) [x, y] := by
  intro _
  refine ⟨⟨W.heap.size, 0, none⟩, rfl, fun j u hu => ?_⟩
  rw [WideShapes.add_plain, Nat.zero_add, cell_of_row _ _ j _ _ _ (heap_alloc_new W _), ← Array.getElem?_toList]
  exact hu

theorem byt_two {x y : Nat} (hx : x < 256) (hy : y < 256) : Byt [x, y] := fun z hz => by
  simp at hz
  rcases hz with rfl | rfl
  · exact hx
  · exact hy

/-- The example's device, step by step. -/
def ex1 : Dev := { dev0 7 2 3 8 2 2 with kept := [⟨1, 0, 70⟩] }

theorem ex_ord : Ord 7 2 3 8 2 2 0 0 [⟨1, 0, 70⟩] ex1 (col0 2 3 8 0) := ord_start (by decide) (by decide) (fun s hs => by rw [List.mem_singleton.1 hs]; decide)

theorem ex_take : takeE (dev0 7 2 3 8 2 2) ⟨1, 0, 70⟩ = 0 ∧ takeD (dev0 7 2 3 8 2 2) ⟨1, 0, 70⟩ = ex1 := ⟨by decide, rfl⟩

theorem ex_rows : ((tickO ex1).map frmY).length = 4 ∧ ((tickO ex1).map frmY).getD 0 [] = frmY ⟨7, 0, 0, 0, 3, [0]⟩ := by
  rw [(ex_ord.some (by decide)).1]
  refine ⟨?_, rfl⟩
  rw [List.length_map, List.length_append]
  unfold shardsO
  rw [List.length_map, List.length_range]
  rfl

theorem ex_hear : ∃ x3, hearB (tickD ex1) (frmY (ackV 7 1)) = true ∧ hearD (tickD ex1) (frmY (ackV 7 1)) = x3 ∧ Ord 7 2 3 8 2 2 1 1 [] x3 (col0 2 3 8 1) := by
  obtain ⟨h1, h2⟩ := ex_ord.nextSome (by decide) (by decide) (fun R => held_new 2 3 8 1 R)
  obtain ⟨h3, h4⟩ := hearY (x := tickD ex1) (ackV_frm (tx := 7) (by decide) 1)
  have e : ([⟨1, 0, 70⟩] : List Smp).drop (nextM 2 8 [⟨1, 0, 70⟩]) = [] := by decide
  rw [e] at h2
  exact ⟨_, h3.trans h1, h4 h1, h2⟩

set_option maxRecDepth 100000 in
set_option maxHeartbeats 4000000 in
theorem alive_any (w : World) (hW : Wd w) :
    Calls Tryz.prog 9 #[] w fun e w' => e = .returned (.bool true) ∧ Below w.heap.size w w' := by
  obtain ⟨x3, hb, hd, O3⟩ := ex_hear
  obtain ⟨rl, r0⟩ := ex_rows
  obtain ⟨t1, t2⟩ := ex_take
  have e3 := O3.dev
  have n3 := O3.none
  have f0 : isFrm (7 : Int) 0 0 0 3 ([0] : List Nat).length = true := by decide
  have N3 : (tickO x3).map frmY = [] := by rw [n3.1]; rfl
  obtain ⟨x4, hx4⟩ : ∃ x4, x4 = tickD x3 := ⟨_, rfl⟩
  have s4 : (anewD x4).session = 1 := by rw [hx4, n3.2, e3]; rfl
  have HB := Hid.intro hb
  have HD := Hid.intro hd
  have HN3 := Hid.intro N3
  have RL := Hid.intro rl
  have R0 := Hid.intro r0
  have HS4 := Hid.intro s4
  have HX4 := Hid.intro hx4
  have T2 := Hid.intro t2
  have z2 := hW.two
  clear hb hd O3 n3 e3 N3 rl r0 s4 hx4 t2
  go_enter Tryz.func9, Tryz.ntmps9
  go_wp2_with fail
  refine (link_any w).mono ?_
  rintro e w0 ⟨rfl, B0⟩
  have W0 := Hid.intro (hW.below B0)
  have zz : 2 ≤ w0.heap.size := by have := B0.size; omega
  have B0H := Hid.intro B0
  clear B0 hW
  go_wp2_with fail
  refine (dnew_yes 7 2 3 8 2 2 (by decide) w0 W0.out).mono ?_
  rintro e w1 ⟨b, F, rfl, hS, hF, B1⟩
  have L1 : DL 0 b (dev0 7 2 3 8 2 2) (fun k => k < w0.heap.size) w0 w1 := one_new hS hF B1
  have TK := dltake ⟨1, 0, 70⟩ L1
  rw [t1, T2.out] at TK
  have TKH := Hid.intro TK
  clear hS hF B1 L1 TK
  go_wp2_with fail
  refine TKH.out.mono ?_
  rintro e w2 ⟨rfl, L2⟩
  have TI := Hid.intro (dltick L2 (wd_one L2 W0.out (show 0 < w0.heap.size by omega) (show 1 < w0.heap.size by omega)) (show 0 < w0.heap.size by omega) (show 1 < w0.heap.size by omega) (by decide))
  clear L2 TKH
  go_wp2_with fail
  refine TI.out.mono ?_
  rintro e w3 ⟨v3, G, rfl, hG, RV, L3, L3'⟩
  have W3 := Hid.intro (wd_one L3' W0.out (show 0 < w0.heap.size by omega) (show 1 < w0.heap.size by omega))
  have B3 := Hid.intro (B0H.out.trans ((One.out L3' (Nat.le_refl _)).mono B0H.out.size))
  obtain ⟨g3, c3, u, rfl, hg3, k3, ru⟩ := RV.row (t := 0) (by rw [RL.out]; decide)
  rw [RL.out]
  rw [R0.out] at ru
  have PR := Hid.intro (parse_row (f := ⟨7, 0, 0, 0, 3, [0]⟩) f0 (fun y hy => by rw [List.mem_singleton.1 hy]; decide) u w3 W3.out.f ru)
  obtain ⟨ua, uc, hu, _⟩ := ru
  subst hu
  have L3H := Hid.intro L3
  have HG := Hid.intro hG
  clear RV L3 L3' hG TI RL R0
  go_wp2_with fail
  refine PR.out.mono ?_
  rintro e w4 ⟨ao, c, rfl, _, _, _, _, B4⟩
  obtain ⟨O4, hO4⟩ : ∃ O4, O4 = Obj.cells #[.int .i64 7, .int .i64 0, .int .i64 0, .int .i64 0, .int .i64 3, .slice ao 1 c] 55 (0, 0) := ⟨_, rfl⟩
  obtain ⟨W5, hW5⟩ : ∃ W5, W5 = w4.alloc O4 := ⟨_, rfl⟩
  have BA : Below w4.heap.size w4 W5 := by rw [hW5]; exact (Below.refl _ w4).alloc (Nat.le_refl _) O4
  have b4 : W5.heap[w4.heap.size]? = some O4 := by rw [hW5]; exact heap_alloc_new w4 O4
  have sz5 : W5.heap.size = w4.heap.size + 1 := by rw [hW5]; simp
  rw [hO4] at b4
  have L5 := One.grow (dvO _ _ _) (One.below (dvO _ _ _) L3H.out B4) BA
  have WD5 := Hid.intro ((W3.out.below B4).below BA)
  have B5 := Hid.intro (B3.out.trans ((B4.trans (BA.mono B4.size)).mono B3.out.size))
  have K5 : Hid ((W5.cell? ⟨w4.heap.size, 0, none⟩ = some (.int .i64 7)) ∧ W5.cell? ⟨w4.heap.size, 4, none⟩ = some (.int .i64 3)) := Hid.intro ⟨by rw [cell_of_row _ _ 0 _ _ _ b4]; rfl, by rw [cell_of_row _ _ 4 _ _ _ b4]; rfl⟩
  have BB := (Below.refl _ W5).alloc (Nat.le_refl _) (.cells #[.int .u8 1, .int .u8 0] 5)
  have PU := Hid.intro (put_frame 7 0 0 0 1 (some ⟨W5.heap.size, 0, none⟩) 2 [1, 0] (fun q => by cases q) (byt_two (by decide) (by decide)) _ (WD5.out.f.below BB) (pair_row 1 0 W5))
  rw [sz5] at PU
  have L6 := One.below (dvO _ _ _) L5 BB
  have L6H := Hid.intro L6
  have BBH := Hid.intro BB
  have G5 : Hid (G w4.heap.size ∨ (w4.heap.size ≤ w4.heap.size ∧ w4.heap.size < W5.heap.size)) := Hid.intro (.inr ⟨Nat.le_refl _, by omega⟩)
  clear L5 L6 BB BA b4 L3H B4 PR k3
  subst hO4
  go_wp2_with fail
  rw [← hW5]
  refine PU.out.mono ?_
  rintro e w5 ⟨ao5, c5, rfl, r5, n5, m5, _, B6⟩
  have L7 := One.below (dvO _ _ _) L6H.out B6
  have W7 := (WD5.out.below BBH.out).below B6
  have HE := dlhear (Q := fun _ => True) (.slice ao5 (putF 7 0 0 0 1 [1, 0]).length c5) (frmY (ackV 7 1)) (by have := frmY_len (ackV_frm (tx := 7) (by decide) 1); omega) (frmY_byt (byt_two (by decide) (by decide))) L7 W7 ⟨ao5, c5, rfl, r5, n5, m5, fun _ _ _ => trivial⟩ (by decide)
  rw [HB.out, HD.out] at HE
  have HEH := Hid.intro HE
  clear HE L7 W7 r5 n5 m5 B6 PU L6H BBH hW5 HB HD
  generalize (putF 7 0 0 0 1 [1, 0]).length = pl at HEH ⊢
  go_wp2_with fail
  refine HEH.out.mono ?_
  rintro e w6 ⟨rfl, L8⟩
  have z0 : Hid (G 0 ∨ (w4.heap.size ≤ 0 ∧ 0 < W5.heap.size)) := Hid.intro (.inl (HG.out 0 (by omega)))
  have z1 : Hid (G 1 ∨ (w4.heap.size ≤ 1 ∧ 1 < W5.heap.size)) := Hid.intro (.inl (HG.out 1 (by omega)))
  have TI := dltick L8 (wd_one L8 WD5.out z0.out z1.out) z0.out z1.out (by decide)
  rw [HN3.out, ← HX4.out] at TI
  have TIH := Hid.intro TI
  clear TI L8 HEH HX4 HN3
  go_wp2_with fail
  refine TIH.out.mono ?_
  rintro e w7 ⟨v7, G7, rfl, _, RV, _, L9⟩
  obtain ⟨a7, c7, e7⟩ := RV.len
  subst e7
  have RS := Hid.intro (dlreset L9 (wd_one L9 WD5.out z0.out z1.out) z0.out)
  clear RV L9 TIH
  go_wp2_with fail
  refine RS.out.mono ?_
  rintro e w8 ⟨rfl, L10⟩
  have k0 := One.cell L10 K5.out.1 G5.out
  have k4 := One.cell L10 K5.out.2 G5.out
  have SE := dlsess L10
  rw [HS4.out] at SE
  have SEH := Hid.intro SE
  clear RS SE L10
  go_wp2_with fail
  refine SEH.out.mono ?_
  rintro e w9 ⟨rfl, L11⟩
  have KE : Calls Tryz.prog 17 #[.pointer (some ⟨b, 0, none⟩)] w9 fun e w' => e = .returned (.int .i64 0) ∧ DL _ b (anewD x4) _ W5 w' := dlkept L11
  have KEH := Hid.intro KE
  clear k0 k4 KE L11 SEH
  go_wp2_with fail
  refine KEH.out.mono ?_
  rintro e w10 ⟨rfl, L12⟩
  have OU : Calls Tryz.prog 18 #[.pointer (some ⟨b, 0, none⟩)] w10 fun e w' => e = .returned (.int .i64 0) ∧ DL _ b (anewD x4) _ W5 w' := dlout L12
  have OUH := Hid.intro OU
  clear OU L12 KEH
  go_wp2_with fail
  refine OUH.out.mono ?_
  rintro e w11 ⟨rfl, L13⟩
  have LO : Calls Tryz.prog 19 #[.pointer (some ⟨b, 0, none⟩)] w11 fun e w' => e = .returned (.int .i64 0) ∧ DL _ b (anewD x4) _ W5 w' := dllost L13
  have LOH := Hid.intro LO
  clear LO L13 OUH
  go_wp2_with fail
  refine LOH.out.mono ?_
  rintro e w12 ⟨rfl, L14⟩
  have NO := Hid.intro (dnew_no 7 0 0 0 0 0 (by decide) w12 (wd_one L14 WD5.out z0.out z1.out))
  have BZ := Hid.intro (B5.out.trans ((One.out (One.less L14 (G := fun k => k < w.heap.size) (fun k hk => .inl (HG.out k (Nat.lt_of_lt_of_le hk B0H.out.size)))) B5.out.size)))
  clear LOH L14
  go_wp2_with fail
  refine NO.out.mono ?_
  rintro e w13 ⟨rfl, B14⟩
  have BZZ := Hid.intro (BZ.out.trans (B14.mono BZ.out.size))
  clear NO B14 BZ
  go_wp2_with fail
  go_ret
  exact ⟨rfl, BZZ.out⟩

end Go.Proofs.YthhggjakenalpaaGreatDoor
