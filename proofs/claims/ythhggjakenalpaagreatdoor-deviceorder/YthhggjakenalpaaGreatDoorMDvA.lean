/- Several texts, one behind the other: DvW DvVal DvK1 DvK2 DvDel DvK3 DvK4. -/
import Derived.Test.YthhggjakenalpaaGreatDoorFrmW
import Derived.Test.YthhggjakenalpaaGreatDoorRcW
import Derived.Test.YthhggjakenalpaaGreatDoorMSnA
import Derived.Test.YthhggjakenalpaaGreatDoorRcVal
import Derived.Test.YthhggjakenalpaaGreatDoorOwnG
import Derived.Test.YthhggjakenalpaaGreatDoorMPlain
import Derived.Test.YthhggjakenalpaaGreatDoorMSnB
import Derived.Test.YthhggjakenalpaaGreatDoorRcK1
import Derived.Test.YthhggjakenalpaaGreatDoorApRow
import Derived.Deep.RegionHeld3
import Derived.Test.YthhggjakenalpaaGreatDoorMRc
import Derived.Deep.RegionLaw
import Derived.Deep.MidRow
import Derived.Shelf.RegionOpenPlain
import Derived.Deep.AppendSrc
import Derived.BigQuiet
/- Both tables of widths, as they are laid. -/
namespace Go.Proofs.YthhggjakenalpaaGreatDoor
set_option maxRecDepth 100000
open Go.RowKit
open Bt

/-- Both tables. -/
structure Wd (w : World) : Prop where
  f : Wid w
  r : WidR w

theorem Wd.below {w w' : World} (h : Wd w) (hb : Below w.heap.size w w') : Wd w' := ⟨h.f.below hb, h.r.below hb⟩

theorem Wd.keep {w w' : World} {F : Nat → Prop} (h : Wd w) (hc : ∀ k, F k → w'.heap[k]? = w.heap[k]?) (h0 : F 0) (h1 : F 1) : Wd w' := by
  obtain ⟨⟨t, fr, q⟩, ⟨t', fr', q'⟩⟩ := h
  exact ⟨⟨t, fr, (hc 0 h0).trans q⟩, ⟨t', fr', (hc _ h1).trans q'⟩⟩

theorem Wd.two {w : World} (h : Wd w) : 2 ≤ w.heap.size := by
  obtain ⟨_, ⟨t', fr', q'⟩⟩ := h
  have := lt_of_heap q'
  omega

end Go.Proofs.YthhggjakenalpaaGreatDoor

/- Package device: a device in memory. -/
namespace Go.Proofs.YthhggjakenalpaaGreatDoor
set_option maxRecDepth 100000
open Go.RowKit
open Bt

/-- The head's cells. -/
def dcells (x : Dev) (sb : Nat) (kv : Value) : Array Value :=
  #[.int .i64 (x.tx : Int), .int .i64 (x.session : Int), .int .i64 (x.now : Int), .int .i64 (x.K : Int), .int .i64 (x.N : Int), .int .i64 (x.S : Int), .int .i64 (x.wait : Int), .int .i64 (x.most : Int), .pointer (some ⟨sb, 0, none⟩), kv, .bool x.was, .int .i64 (x.acked : Int)]

/-- A device: its own block, its sender, the samples that it keeps. -/
structure DvH (M : Nat) (S : Nat → Prop) (w : World) (b sb : Nat) (kv : Value) (T : Nat → Prop) (x : Dev) : Prop where
  head : w.heap[b]? = some (.cells (dcells x sb kv) 77 (0, 0))
  snd : Sndr M T w sb x.snd
  own : w.ownsRow 0 35 3 kv x.kept.length (mcells x.kept)
  inB : S b
  inT : ∀ k, T k → S k ∧ k ≠ b
  inV : ∀ k, kv.ownBlock = some k → S k ∧ k ≠ b ∧ ¬ T k
  lt : ∀ k, S k → k < w.heap.size
  ok : x.Ok M

def DvS (M b : Nat) (x : Dev) (S : Nat → Prop) (w : World) : Prop := ∃ sb kv T, DvH M S w b sb kv T x

variable {M b sb : Nat} {S T : Nat → Prop} {w w' : World} {kv : Value} {x : Dev}

theorem DvH.kept' {U : Nat → Prop} (h : DvH M S w b sb kv T x) (hc : Chg U w w') (hU : ∀ k, S k → ¬ U k) : DvH M S w' b sb kv T x :=
  ⟨(hc.block b (h.lt b h.inB) (hU b h.inB)).trans h.head, h.snd.kept hc (fun k hk => hU k (h.inT k hk).1), ownsRow_keep h.own fun k hk => hc.block k (h.lt k (h.inV k hk).1) (hU k (h.inV k hk).1),
    h.inB, h.inT, h.inV, fun k hk => Nat.lt_of_lt_of_le (h.lt k hk) hc.size, h.ok⟩

theorem dvO (M b : Nat) (x : Dev) : Owned (DvS M b x) :=
  ⟨fun h hc hT => by
    obtain ⟨sb, kv, T, h⟩ := h
    exact ⟨sb, kv, T, h.kept' hc hT⟩,
   fun h => by
    obtain ⟨sb, kv, T, h⟩ := h
    exact h.lt⟩

theorem DvS.more {M' : Nat} (h : DvS M b x S w) (hM : M ≤ M') : DvS M' b x S w := by
  obtain ⟨sb, kv, T, h⟩ := h
  exact ⟨sb, kv, T, h.head, h.snd.more hM, h.own, h.inB, h.inT, h.inV, h.lt, h.ok.more hM⟩

theorem DvS.ok (h : DvS M b x S w) : x.Ok M := by
  obtain ⟨sb, kv, T, h⟩ := h
  exact h.ok

theorem DvH.cells (h : DvH M S w b sb kv T x) : w.cell? ⟨b, 0, none⟩ = some (.int .i64 (x.tx : Int)) ∧ w.cell? ⟨b, 1, none⟩ = some (.int .i64 (x.session : Int)) ∧ w.cell? ⟨b, 2, none⟩ = some (.int .i64 (x.now : Int)) ∧ w.cell? ⟨b, 3, none⟩ = some (.int .i64 (x.K : Int)) ∧ w.cell? ⟨b, 4, none⟩ = some (.int .i64 (x.N : Int)) ∧ w.cell? ⟨b, 5, none⟩ = some (.int .i64 (x.S : Int)) ∧ w.cell? ⟨b, 6, none⟩ = some (.int .i64 (x.wait : Int)) ∧ w.cell? ⟨b, 7, none⟩ = some (.int .i64 (x.most : Int)) ∧ w.cell? ⟨b, 8, none⟩ = some (.pointer (some ⟨sb, 0, none⟩)) ∧ w.cell? ⟨b, 9, none⟩ = some kv ∧ w.cell? ⟨b, 10, none⟩ = some (.bool x.was) ∧ w.cell? ⟨b, 11, none⟩ = some (.int .i64 (x.acked : Int)) :=
  ⟨by rw [cell_of_row w _ 0 _ _ _ h.head]; rfl, by rw [cell_of_row w _ 1 _ _ _ h.head]; rfl, by rw [cell_of_row w _ 2 _ _ _ h.head]; rfl, by rw [cell_of_row w _ 3 _ _ _ h.head]; rfl, by rw [cell_of_row w _ 4 _ _ _ h.head]; rfl, by rw [cell_of_row w _ 5 _ _ _ h.head]; rfl, by rw [cell_of_row w _ 6 _ _ _ h.head]; rfl, by rw [cell_of_row w _ 7 _ _ _ h.head]; rfl, by rw [cell_of_row w _ 8 _ _ _ h.head]; rfl, by rw [cell_of_row w _ 9 _ _ _ h.head]; rfl, by rw [cell_of_row w _ 10 _ _ _ h.head]; rfl, by rw [cell_of_row w _ 11 _ _ _ h.head]; rfl⟩

/-- Where the samples lie. -/
theorem DvH.form (h : DvH M S w b sb kv T x) : ∃ ao c, kv = .slice ao x.kept.length c ∧ (x.kept.length = 0 ∨ ∃ g, ao = some ⟨g, 0, none⟩) := ownsRow_form h.own

end Go.Proofs.YthhggjakenalpaaGreatDoor

/- Package device: New, Take, Kept, Out, Lost, Session. -/
namespace Go.Proofs.YthhggjakenalpaaGreatDoor
set_option maxRecDepth 100000
open Go.RowKit
open Bt

variable {M b sb : Nat} {S T : Nat → Prop} {w w' : World} {kv : Value} {x : Dev}

/-- What a call leaves, told part by part. -/
theorem DvH.step (h : DvH M S w b sb kv T x) {M' sb' : Nat} {x' : Dev} {kv' : Value} {T' : Nat → Prop} (head' : w'.heap[b]? = some (.cells (dcells x' sb' kv') 77 (0, 0)))
    (snd' : Sndr M' T' w' sb' x'.snd) (own' : w'.ownsRow 0 35 3 kv' x'.kept.length (mcells x'.kept)) (hT : ∀ k, T' k → T k ∨ w.heap.size ≤ k) (hV : ∀ k, kv'.ownBlock = some k → kv.ownBlock = some k ∨ w.heap.size ≤ k)
    (hap : ∀ k, kv'.ownBlock = some k → ¬ T' k) (hc : Chg S w w') (ok' : x'.Ok M') : LeftG (DvS M' b x') S w w' := by
  have hb := h.lt b h.inB
  refine ⟨fun k => k = b ∨ T' k ∨ kv'.ownBlock = some k, ⟨sb', kv', T', head', snd', own', .inl rfl, fun k hk => ⟨.inr (.inl hk), fun e => ?_⟩, fun k hk => ⟨.inr (.inr hk), fun e => ?_, hap k hk⟩, fun k hk => ?_, ok'⟩, hc, fun k hk => ?_⟩
  · subst e
    rcases hT k hk with q | q
    · exact (h.inT k q).2 rfl
    · omega
  · subst e
    rcases hV k hk with q | q
    · exact (h.inV k q).2.1 rfl
    · omega
  · rcases hk with q | q | q
    · rw [q]; exact Nat.lt_of_lt_of_le hb hc.size
    · exact snd'.lt k q
    · exact (World.ownsRow.lt own' k q).2
  · rcases hk with q | q | q
    · rw [q]; exact .inl h.inB
    · rcases hT k q with r | r
      · exact .inl (h.inT k r).1
      · exact .inr r
    · rcases hV k q with r | r
      · exact .inl (h.inV k r).1
      · exact .inr r

/-- A sample is appended. -/
theorem DvH.grew (h : DvH M S w b sb kv T x) {w1 ws : World} {v' : Value} {s : Smp} (ht : takeE x s = 0) (hb : Below w.heap.size w w1) (hown : ws.ownsRow 0 35 3 v' (x.kept.length + 1) (mcells x.kept ++ mcells [s])) (hgrow : w1.grownBy ws kv.ownBlock) (hat : v'.ownBlock = kv.ownBlock ∨ v'.ownBlock = some w1.heap.size) :
    (ws.cell? ⟨b, 9, none⟩ = some kv ∧ ws.frozen? ⟨b, 9, none⟩ = false) ∧ LeftG (DvS M b (takeD x s)) S w (ws.setCell ⟨b, 9, none⟩ v') := by
  have e : takeD x s = { x with kept := x.kept ++ [s] } := by unfold takeD; rw [if_pos ht]
  have hok := takeD_ok h.ok s
  rw [e] at hok ⊢
  have hbl := h.lt b h.inB
  have hsz := hb.size
  have keep : ∀ k, k < w.heap.size → kv.ownBlock ≠ some k → ws.heap[k]? = w.heap[k]? := fun k hk hne => (hgrow.block k (by omega) (fun q => hne q.symm)).trans (hb.block k hk)
  have hd : ws.heap[b]? = some (.cells (dcells x sb kv) 77 (0, 0)) := (keep b hbl (fun q => (h.inV b q).2.1 rfl)).trans h.head
  refine ⟨⟨by rw [cell_of_row ws _ 9 _ _ _ hd]; rfl, frozen_of_row ws _ 9 _ _ hd⟩, ?_⟩
  have hvb : v'.ownBlock ≠ some b := fun q => by
    rcases hat with r | r
    · exact (h.inV b (r.symm.trans q)).2.1 rfl
    · rw [q] at r; cases r; omega
  have hc1 : Chg (fun k => kv.ownBlock = some k) w ws := ⟨hgrow.os.trans hb.os, hgrow.tape.trans hb.tape, hgrow.output.trans hb.output, Nat.le_trans hsz hgrow.size, fun k hk hn => keep k hk hn⟩
  have hc2 : Chg (fun k => k = b) ws (ws.setCell ⟨b, 9, none⟩ v') := Chg.setCell (S := fun k => k = b) (p := ⟨b, 9, none⟩) (Chg.refl _ ws) (fun _ => rfl) v'
  have hc : Chg S w (ws.setCell ⟨b, 9, none⟩ v') := (hc1.mono (fun k q _ => (h.inV k q).1)).trans hc2 (fun k q _ => by rw [q]; exact h.inB)
  refine h.step (sb' := sb) (kv' := v') (T' := T) ?_ ?_ ?_ (fun k q => .inl q) (fun k q => ?_) (fun k q => ?_) hc hok
  · rw [heap_setCell_same ws b 9 _ _ _ hd]; rfl
  · have hc3 : Chg (fun k => kv.ownBlock = some k ∨ k = b) w (ws.setCell ⟨b, 9, none⟩ v') := (hc1.mono (fun k q _ => Or.inl q)).trans hc2 (fun k q _ => Or.inr q)
    exact h.snd.kept hc3 (fun k hk q => by
      rcases q with q | q
      · exact (h.inV k q).2.2 hk
      · exact (h.inT k hk).2 q)
  · show (ws.setCell ⟨b, 9, none⟩ v').ownsRow 0 35 3 v' (x.kept ++ [s]).length (mcells (x.kept ++ [s]))
    rw [mcells_append, List.length_append]
    exact ownsRow_keep hown fun k hk => heap_setCell_other _ _ _ _ (fun q => hvb (by rw [hk]; simp at q; rw [q]))
  · rcases hat with r | r
    · exact .inl (r.symm.trans q)
    · rw [q] at r; cases r; exact .inr hsz
  · rcases hat with r | r
    · exact (h.inV k (r.symm.trans q)).2.2
    · rw [q] at r; cases r
      intro hk
      have := h.lt _ (h.inT _ hk).1
      omega

theorem lk_cells {w : World} {b : Nat} {k n s wt ms : Int} (h : w.heap[b]? = some (.cells #[.int .i64 k, .int .i64 n, .int .i64 s, .int .i64 wt, .int .i64 ms] 25 (0, 0))) :
    w.cell? ⟨b, 0, none⟩ = some (.int .i64 k) ∧ w.cell? ⟨b, 1, none⟩ = some (.int .i64 n) ∧ w.cell? ⟨b, 2, none⟩ = some (.int .i64 s) ∧ w.cell? ⟨b, 3, none⟩ = some (.int .i64 wt) ∧ w.cell? ⟨b, 4, none⟩ = some (.int .i64 ms) :=
  ⟨by rw [cell_of_row w _ 0 _ _ _ h]; rfl, by rw [cell_of_row w _ 1 _ _ _ h]; rfl, by rw [cell_of_row w _ 2 _ _ _ h]; rfl, by rw [cell_of_row w _ 3 _ _ _ h]; rfl, by rw [cell_of_row w _ 4 _ _ _ h]; rfl⟩

set_option maxHeartbeats 1000000 in
theorem dnew_no (tx k n s wt ms : Int) (h : mayD tx k n s wt ms = false) (w : World) (hw : Wd w) :
    Calls Tryz.prog 11 #[.int .i64 tx, Lk k n s wt ms] w fun e w' => e = .returned (.pointer none) ∧ Below w.heap.size w w' := by
  have B0 := Hid.intro ((Below.refl _ w).alloc (Nat.le_refl _) (.cells #[.int .i64 k, .int .i64 n, .int .i64 s, .int .i64 wt, .int .i64 ms] 25))
  have b0 := Hid.intro (heap_alloc_new w (.cells #[.int .i64 k, .int .i64 n, .int .i64 s, .int .i64 wt, .int .i64 ms] 25))
  have W0 := Hid.intro (hw.below B0.out)
  rcases hm : (mayL k n s wt ms && isTx tx) with _ | _
  · have NO := Hid.intro (nnew_no tx k n s wt ms hm _ W0.out.f)
    clear h hw hm
    go_enter Tryz.func11, Tryz.ntmps11
    go_wp2_with fail
    refine NO.out.mono ?_
    rintro e w1 ⟨rfl, B1⟩
    have BB := Hid.intro (B0.out.trans (B1.mono B0.out.size))
    clear B1 NO W0 B0 b0
    go_wp2
    go_ret
    exact ⟨rfl, BB.out⟩
  · have h' := hm
    rw [Bool.and_eq_true] at h'
    obtain ⟨h1, h2, h3, h4, h5⟩ := mayL_true h'.1
    have h6 := mayC_true h1
    have h7 := isTx_true h'.2
    have hks : ¬ 4 ≤ k * s := fun q => by
      have : mayD tx k n s wt ms = true := by unfold mayD; rw [hm]; simpa using q
      rw [h] at this; cases this
    have hf : fitsM k n s = 0 := by
      unfold fitsM
      rw [if_pos h1]
      have hp : 1 ≤ k * s := by
        have := Int.mul_le_mul (show (1 : Int) ≤ k by omega) (show (1 : Int) ≤ s by omega) (by omega) (by omega)
        omega
      generalize k * s = q at hks hp
      omega
    obtain ⟨TX, rfl⟩ := Int.eq_ofNat_of_zero_le h7.1
    obtain ⟨K, rfl⟩ := Int.eq_ofNat_of_zero_le (show 0 ≤ k by omega)
    obtain ⟨N, rfl⟩ := Int.eq_ofNat_of_zero_le (show 0 ≤ n by omega)
    obtain ⟨SS, rfl⟩ := Int.eq_ofNat_of_zero_le (show 0 ≤ s by omega)
    obtain ⟨A, rfl⟩ := Int.eq_ofNat_of_zero_le (show 0 ≤ wt by omega)
    obtain ⟨C, rfl⟩ := Int.eq_ofNat_of_zero_le (show 0 ≤ ms by omega)
    have NO := Hid.intro (nnew_yes TX K N SS A C hm _ W0.out.f)
    have FT := Hid.intro (fun W => cfits_any (K : Int) N SS W)
    rw [hf] at FT
    clear h hw hm h' h1 h2 h3 h4 h5 h6 h7 hks hf
    go_enter Tryz.func11, Tryz.ntmps11
    go_wp2_with fail
    refine NO.out.mono ?_
    rintro e w1 ⟨b, F, rfl, _, _, B1⟩
    have BB := Hid.intro (B0.out.trans (B1.mono B0.out.size))
    obtain ⟨c0, c1, c2, _, _⟩ := lk_cells ((B1.block _ (lt_of_heap b0.out)).trans b0.out)
    clear B1 NO W0 B0 b0
    go_wp2_with fail
    refine (FT.out w1).mono ?_
    rintro e w2 ⟨rfl, B2⟩
    have BC := Hid.intro (BB.out.trans (B2.mono BB.out.size))
    clear B2 BB FT c0 c1 c2
    go_wp2
    go_ret
    exact ⟨rfl, BC.out⟩

set_option maxHeartbeats 1000000 in
theorem dnew_yes (tx K N S wt ms : Nat) (h : mayD tx K N S wt ms = true) (w : World) (hw : Wd w) :
    Calls Tryz.prog 11 #[.int .i64 (tx : Int), Lk K N S wt ms] w fun e w' => ∃ b F, e = .returned (.pointer (some ⟨b, 0, none⟩)) ∧ DvS 0 b (dev0 tx K N S wt ms) F w' ∧ (∀ k, F k → w.heap.size ≤ k) ∧ Below w.heap.size w w' := by
  have B0 := Hid.intro ((Below.refl _ w).alloc (Nat.le_refl _) (.cells #[.int .i64 (K : Int), .int .i64 (N : Int), .int .i64 (S : Int), .int .i64 (wt : Int), .int .i64 (ms : Int)] 25))
  have b0 := Hid.intro (heap_alloc_new w (.cells #[.int .i64 (K : Int), .int .i64 (N : Int), .int .i64 (S : Int), .int .i64 (wt : Int), .int .i64 (ms : Int)] 25))
  have W0 := Hid.intro (hw.below B0.out)
  obtain ⟨h1, h2, h3⟩ := mayD_true h
  have NO := Hid.intro (nnew_yes tx K N S wt ms (by rw [h1, h2]; rfl) _ W0.out.f)
  have OK := dev0_ok h
  obtain ⟨f1, f2, _⟩ := fitsM_dev OK
  have FT := Hid.intro (fun W => cfits_any (K : Int) N S W)
  have f1' : fitsM K N S = (fitsD (dev0 tx K N S wt ms) : Int) := f1
  rw [f1'] at FT
  have hn0 : ((fitsD (dev0 tx K N S wt ms) : Int) == 0) = false := by rw [beq_eq_false_iff_ne]; omega
  generalize fitsD (dev0 tx K N S wt ms) = ft at FT hn0
  have OKH := Hid.intro OK
  clear hw h h1 h2 h3 OK f1 f2 f1'
  go_enter Tryz.func11, Tryz.ntmps11
  go_wp2_with fail
  refine NO.out.mono ?_
  rintro e w1 ⟨sb, F, rfl, hS, hF, B1⟩
  have BB := Hid.intro (B0.out.trans (B1.mono B0.out.size))
  have g1 := (B1.block _ (lt_of_heap b0.out)).trans b0.out
  obtain ⟨c0, c1, c2, _, _⟩ := lk_cells g1
  have G1 := Hid.intro g1
  have HS := Hid.intro hS
  have HF : Hid (∀ k, F k → w.heap.size ≤ k) := fun k hk => Nat.le_trans B0.out.size (hF k hk)
  clear B1 NO W0 B0 b0 hS hF g1
  go_wp2_with fail
  refine (FT.out w1).mono ?_
  rintro e w2 ⟨rfl, B2⟩
  have BC := Hid.intro (BB.out.trans (B2.mono BB.out.size))
  have HS2 := Hid.intro (HS.out.kept (below_chg B2) (fun _ _ => id))
  obtain ⟨d0, d1, d2, d3, d4⟩ := lk_cells ((B2.block _ (lt_of_heap G1.out)).trans G1.out)
  clear B2 BB FT c0 c1 c2 HS G1
  go_wp2
  go_ret
  have BD := (Below.refl _ w2).alloc (Nat.le_refl _) (.cells (dcells (dev0 tx K N S wt ms) sb (.slice none 0 0)) 77)
  refine ⟨_, fun k => k = w2.heap.size ∨ F k, rfl, ⟨sb, .slice none 0 0, F, heap_alloc_new _ _, HS2.out.kept (below_chg BD) (fun _ _ => id), World.ownsRow_nil _ _ _ _, .inl rfl, fun k hk => ⟨.inr hk, fun e => ?_⟩, fun k hk => by simp [Value.ownBlock] at hk, fun k hk => ?_, OKH.out⟩, fun k hk => ?_, BC.out.alloc BC.out.size _⟩
  · have := HS2.out.lt k hk; omega
  · rcases hk with q | q
    · rw [q]; simp
    · have := HS2.out.lt k q; simp; omega
  · rcases hk with q | q
    · rw [q]; exact BC.out.size
    · exact HF.out k q

theorem dtake_nil (s : Smp) (w : World) :
    Calls Tryz.prog 14 #[.pointer none, Sm s] w fun e w' => e = .returned (.int .i64 1) ∧ Below w.heap.size w w' := by
  have B0 := Hid.intro ((Below.refl _ w).alloc (Nat.le_refl _) (.cells #[.int .i64 s.kind, .int .i64 s.tick, .int .i64 s.value] 35))
  go_enter Tryz.func14, Tryz.ntmps14
  go_wp2
  go_ret
  exact ⟨rfl, B0.out⟩

theorem elem_smp : ElemT 50 35 3 := by
  obtain ⟨i, hi, hz0, hz1, hz2⟩ := info_parts info_smp
  exact ⟨Tryz.underlying50, ⟨i, _, 24, hi, hz0, hz1, hz2, rfl, by omega⟩, by omega⟩

set_option maxRecDepth 100000 in
set_option maxHeartbeats 2000000 in
theorem dtake_any (s : Smp) (w : World) (hc : DvS M b x S w) :
    Calls Tryz.prog 14 #[.pointer (some ⟨b, 0, none⟩), Sm s] w fun e w' => e = .returned (.int .i64 (takeE x s)) ∧ LeftG (DvS M b (takeD x s)) S w w' := by
  obtain ⟨sb, kv, T, h⟩ := hc
  have hfew := h.ok.few
  have c9 := h.cells.2.2.2.2.2.2.2.2.2.1
  have R := Hid.intro (fun W => cright_any s W)
  have B0 := Hid.intro ((Below.refl _ w).alloc (Nat.le_refl _) (.cells #[.int .i64 s.kind, .int .i64 s.tick, .int .i64 s.value] 35))
  have b0 := Hid.intro (heap_alloc_new w (.cells #[.int .i64 s.kind, .int .i64 s.tick, .int .i64 s.value] 35))
  have s0 : (w.alloc (.cells #[.int .i64 s.kind, .int .i64 s.tick, .int .i64 s.value] 35)).cell? ⟨w.heap.size, 0, none⟩ = some (.int .i64 s.kind) := by rw [cell_of_row _ _ 0 _ _ _ b0.out]; rfl
  have s1 : (w.alloc (.cells #[.int .i64 s.kind, .int .i64 s.tick, .int .i64 s.value] 35)).cell? ⟨w.heap.size, 1, none⟩ = some (.int .i64 s.tick) := by rw [cell_of_row _ _ 1 _ _ _ b0.out]; rfl
  have s2 : (w.alloc (.cells #[.int .i64 s.kind, .int .i64 s.tick, .int .i64 s.value] 35)).cell? ⟨w.heap.size, 2, none⟩ = some (.int .i64 s.value) := by rw [cell_of_row _ _ 2 _ _ _ b0.out]; rfl
  have SAME : Hid (takeE x s ≠ 0 → ∀ W, Below w.heap.size w W → LeftG (DvS M b (takeD x s)) S w W) := Hid.intro (fun hne W hB => by
    have e : takeD x s = x := by unfold takeD; rw [if_neg hne]
    rw [e]
    exact ⟨S, (dvO M b x).kept ⟨sb, kv, T, h⟩ (below_chg hB) (fun _ _ => id), (below_chg hB).mono (fun _ f _ => f.elim), fun k hk => .inl hk⟩)
  have HH := Hid.intro h
  obtain ⟨ao, cp, hv, _⟩ := h.form
  have KEEP := Hid.intro (fun (W : World) (hW : Below w.heap.size w W) => (hW.cell (cell_lt c9)).trans c9)
  rcases hr : rightM s with _ | _
  · have e1 : takeE x s = 1 := by unfold takeE; rw [hr]; rfl
    rw [hr] at R
    rw [e1] at SAME ⊢
    have SM := Hid.intro (SAME.out (by decide))
    clear h hr hfew c9 hv KEEP HH SAME b0
    generalize takeD x s = x2 at *
    go_enter Tryz.func14, Tryz.ntmps14
    go_wp2_with fail
    refine (R.out _).mono ?_
    rintro e w1 ⟨rfl, B1⟩
    have BB := Hid.intro (B0.out.trans (B1.mono B0.out.size))
    clear B1 B0 s0 s1 s2
    go_wp2
    go_ret
    exact ⟨rfl, SM.out _ BB.out⟩
  · rw [hr] at R
    by_cases hf : x.kept.length < 60
    · have e1 : takeE x s = 0 := by unfold takeE; rw [hr, if_pos rfl, if_pos hf]
      have GR := Hid.intro (fun (W : World) (hW : Below w.heap.size w W) (v' : Value) (ws : World) (o1 : ws.ownsRow 0 35 3 v' (x.kept.length + 1) (mcells x.kept ++ mcells [s])) o2 o3 => HH.out.grew e1 hW o1 o2 o3)
      have OW := Hid.intro (fun (W : World) (hW : Below w.heap.size w W) => (ownsRow_keep HH.out.own fun k hk => hW.block k (World.ownsRow.lt HH.out.own k hk).2 : W.ownsRow 0 35 3 kv x.kept.length (mcells x.kept)))
      rw [e1]
      have ne : ((x.kept.length : Int) == 60) = false := by rw [beq_eq_false_iff_ne]; omega
      have EL := Hid.intro elem_smp
      have NL : Hid ((mcells [s]).length = 1 * 3) := Hid.intro (by rw [mcells_length]; rfl)
      have OC : Hid (∀ z ∈ mcells [s], z.oneCell' = true) := Hid.intro (mcells_onecell _)
      rw [hv] at KEEP GR OW c9
      have mixed : Tryz.prog.follows Departure.mixedOrders = true := by kernel_rfl
      clear h hr hv HH SAME
      generalize takeD x s = x2 at *
      generalize mcells x.kept = xs at *
      generalize x.kept.length = n at *
      go_enter Tryz.func14, Tryz.ntmps14
      go_wp2_with fail
      refine (R.out _).mono ?_
      rintro e w1 ⟨rfl, B1⟩
      have BB := Hid.intro (B0.out.trans (B1.mono B0.out.size))
      have k9 := KEEP.out w1 BB.out
      have t0 := (B1.cell (cell_lt s0)).trans s0
      have t1 := (B1.cell (cell_lt s1)).trans s1
      have t2 := (B1.cell (cell_lt s2)).trans s2
      clear B1 B0 s0 s1 s2 R b0 c9
      have BE := bel_allocR (Below.refl w1.heap.size w1) (Nat.le_refl _) (.cells #[.int .i64 s.kind, .int .i64 s.tick, .int .i64 s.value] 35)
      have kE := (BE.cell (cell_lt k9)).trans k9
      have OW1 := Hid.intro (fun (W : World) (hW : Below w1.heap.size w1 W) => OW.out W (BB.out.trans (hW.mono BB.out.size)))
      have GR1 := Hid.intro (fun (W : World) (hW : Below w1.heap.size w1 W) => GR.out W (BB.out.trans (hW.mono BB.out.size)))
      have BD := Hid.intro (bel_allocR ((Below.refl w1.heap.size w1).drew) (Nat.le_refl _) (.cells #[.int .i64 s.kind, .int .i64 s.tick, .int .i64 s.value] 35))
      clear OW GR BE KEEP
      go_wp2_with fail
      go_region_law (first
        | (refine step_append_row (by rfl) _ _ EL.out (by rfl) (.slice ao n cp) n xs (by rfl) (OW1.out _ BD.out) (.slice (some ⟨w1.heap.size, 0, none⟩) 1 1) 1 (mcells [s]) (by rfl) (src_block (alloc_atR rfl) NL.out) OC.out (by omega) ?_; intro v' wb hown hgrow hat; obtain ⟨⟨z1, z2⟩, z3⟩ := GR1.out _ BD.out v' wb hown hgrow hat; have Z3 := Hid.intro z3; obtain ⟨oa, oc, e, _⟩ := ownsRow_form hown; subst e; clear hown hgrow hat z3)
        | fail)
      all_goals
        clear kE k9 t0 t1 t2
        go_wp2
        go_ret
        exact ⟨rfl, Z3.out⟩
    · have e1 : takeE x s = 7 := by unfold takeE; rw [hr, if_pos rfl, if_neg hf]
      rw [e1] at SAME ⊢
      have SM := Hid.intro (SAME.out (by decide))
      have ne : x.kept.length = 60 := by omega
      rw [hv, ne] at c9
      rw [hv, ne] at KEEP
      clear h hr hv HH SAME b0 hf hfew ne
      generalize takeD x s = x2 at *
      go_enter Tryz.func14, Tryz.ntmps14
      go_wp2_with fail
      refine (R.out _).mono ?_
      rintro e w1 ⟨rfl, B1⟩
      have BB := Hid.intro (B0.out.trans (B1.mono B0.out.size))
      have k9 := KEEP.out w1 BB.out
      clear B1 B0 s0 s1 s2 c9 KEEP
      go_wp2
      go_ret
      exact ⟨rfl, SM.out _ BB.out⟩

theorem dkept_nil (w : World) : Calls Tryz.prog 17 #[.pointer none] w fun e w' => e = .returned (.int .i64 0) ∧ Below w.heap.size w w' := by
  go_enter Tryz.func17, Tryz.ntmps17
  go_wp2
  go_ret
  exact ⟨rfl, Below.refl _ _⟩

theorem dkept_any (w : World) (hc : DvS M b x S w) : Calls Tryz.prog 17 #[.pointer (some ⟨b, 0, none⟩)] w fun e w' => e = .returned (.int .i64 (x.kept.length : Int)) ∧ Below w.heap.size w w' := by
  obtain ⟨sb, kv, T, h⟩ := hc
  have c9 := h.cells.2.2.2.2.2.2.2.2.2.1
  obtain ⟨ao, cp, hv, _⟩ := h.form
  rw [hv] at c9
  clear h hv
  go_enter Tryz.func17, Tryz.ntmps17
  go_wp2
  go_ret
  exact ⟨rfl, Below.refl _ _⟩

theorem dsess_nil (w : World) : Calls Tryz.prog 20 #[.pointer none] w fun e w' => e = .returned (.int .i64 0) ∧ Below w.heap.size w w' := by
  go_enter Tryz.func20, Tryz.ntmps20
  go_wp2
  go_ret
  exact ⟨rfl, Below.refl _ _⟩

theorem dsess_any (w : World) (hc : DvS M b x S w) : Calls Tryz.prog 20 #[.pointer (some ⟨b, 0, none⟩)] w fun e w' => e = .returned (.int .i64 (x.session : Int)) ∧ Below w.heap.size w w' := by
  obtain ⟨sb, kv, T, h⟩ := hc
  have c1 := h.cells.2.1
  clear h
  go_enter Tryz.func20, Tryz.ntmps20
  go_wp2
  go_ret
  exact ⟨rfl, Below.refl _ _⟩

theorem dout_nil (w : World) : Calls Tryz.prog 18 #[.pointer none] w fun e w' => e = .returned (.int .i64 0) ∧ Below w.heap.size w w' := by
  go_enter Tryz.func18, Tryz.ntmps18
  go_wp2
  go_ret
  exact ⟨rfl, Below.refl _ _⟩

theorem dout_any (w : World) (hc : DvS M b x S w) : Calls Tryz.prog 18 #[.pointer (some ⟨b, 0, none⟩)] w fun e w' => e = .returned (.int .i64 (x.snd.fl.length : Int)) ∧ Below w.heap.size w w' := by
  obtain ⟨sb, kv, T, h⟩ := hc
  have c8 := h.cells.2.2.2.2.2.2.2.2.1
  have R := Hid.intro (nroom_any M sb T x.snd w h.snd)
  have hf := h.ok.snd.few
  generalize x.snd.fl.length = n at R hf ⊢
  have e : (4 : Int) - ((4 - n : Nat) : Int) = (n : Int) := by omega
  have E := Hid.intro e
  have w4 : IntKind.i64.wrap ((4 : Int) - ((4 - n : Nat) : Int)) = (n : Int) := by rw [e]; exact IntWalk.i64_in _ (by omega)
  clear h
  go_enter Tryz.func18, Tryz.ntmps18
  go_wp2_with fail
  refine R.out.mono ?_
  rintro e w1 ⟨rfl, B1⟩
  have BB := Hid.intro B1
  clear B1 c8
  generalize ((4 - n : Nat) : Int) = m at *
  go_wp2
  go_ret
  refine ⟨?_, BB.out⟩
  first | rfl | (rw [← E.out]) | (rw [E.out])

theorem dlost_nil (w : World) : Calls Tryz.prog 19 #[.pointer none] w fun e w' => e = .returned (.int .i64 0) ∧ Below w.heap.size w w' := by
  go_enter Tryz.func19, Tryz.ntmps19
  go_wp2
  go_ret
  exact ⟨rfl, Below.refl _ _⟩

theorem dlost_any (w : World) (hc : DvS M b x S w) : Calls Tryz.prog 19 #[.pointer (some ⟨b, 0, none⟩)] w fun e w' => e = .returned (.int .i64 (x.snd.lost : Int)) ∧ Below w.heap.size w w' := by
  obtain ⟨sb, kv, T, h⟩ := hc
  have c8 := h.cells.2.2.2.2.2.2.2.2.1
  have R := Hid.intro (nlost_any M sb T x.snd w h.snd)
  clear h
  go_enter Tryz.func19, Tryz.ntmps19
  go_wp2_with fail
  refine R.out.mono ?_
  rintro e w1 ⟨rfl, B1⟩
  have BB := Hid.intro B1
  clear B1 c8
  go_wp2
  go_ret
  exact ⟨rfl, BB.out⟩

end Go.Proofs.YthhggjakenalpaaGreatDoor

/- Package device: Reset. -/
namespace Go.Proofs.YthhggjakenalpaaGreatDoor
set_option maxRecDepth 100000
open Go.RowKit
open Bt

variable {M b sb : Nat} {S T : Nat → Prop} {w w' : World} {kv : Value} {x : Dev}

theorem cellD {w W : World} {a : Addr} {v : Value} (h : Below w.heap.size w W) (hc : w.cell? a = some v) : W.cell? a = some v := (h.cell (cell_lt hc)).trans hc

theorem undrewD {w w' : World} {B : Nat} (h : Below B w.drew w') (e : B = w.heap.size) : Below w.heap.size w w' := by
  subst e
  exact ⟨h.os, h.tape, h.output, h.size, h.block⟩

theorem dreset_nil (w : World) : Calls Tryz.prog 13 #[.pointer none] w fun e w' => e = .returned (.tuple #[]) ∧ Below w.heap.size w w' := by
  go_enter Tryz.func13, Tryz.ntmps13
  go_wp2
  refine bodyPost_ret (results_none rfl _ _ _) rfl ?_
  exact ⟨rfl, Below.refl _ _⟩

theorem DvH.anew (h : DvH M S w b sb kv T x) {W2 : World} {sb' : Nat} {F : Nat → Prop} (hd : W2.heap[b]? = some (.cells (dcells { x with session := (x.session + 1) % 256 } sb kv) 77 (0, 0))) (hs : Sndr 0 F W2 sb' (snd0 x.tx x.K x.N x.S x.wait x.most)) (hF : ∀ k, F k → w.heap.size ≤ k) (hc : Chg (fun k => k = b) w W2) :
    LeftG (DvS M b (anewD x)) S w (((W2.setCell ⟨b, 8, none⟩ (.pointer (some ⟨sb', 0, none⟩))).setCell ⟨b, 9, none⟩ (.slice none 0 0)).setCell ⟨b, 10, none⟩ (.bool false)) := by
  have hb := h.lt b h.inB
  have h1 := heap_setCell_same W2 b 8 _ _ (.pointer (some ⟨sb', 0, none⟩)) hd
  have h2 := heap_setCell_same _ b 9 _ _ (.slice none 0 0) h1
  have h3 := heap_setCell_same _ b 10 _ _ (.bool false) h2
  have c2 : Chg (fun k => k = b) W2 (((W2.setCell ⟨b, 8, none⟩ (.pointer (some ⟨sb', 0, none⟩))).setCell ⟨b, 9, none⟩ (.slice none 0 0)).setCell ⟨b, 10, none⟩ (.bool false)) :=
    (((Chg.refl (fun k => k = b) W2).setCell (p := ⟨b, 8, none⟩) (fun _ => rfl) _).setCell (p := ⟨b, 9, none⟩) (fun _ => rfl) _).setCell (p := ⟨b, 10, none⟩) (fun _ => rfl) _
  refine h.step (sb' := sb') (kv' := .slice none 0 0) (T' := F) ?_ ((hs.more (Nat.zero_le M)).kept c2 (fun k hk e => ?_)) (World.ownsRow_nil _ _ _ _) (fun k hk => .inr (hF k hk)) (fun k hk => by simp [Value.ownBlock] at hk) (fun k hk => by simp [Value.ownBlock] at hk) ((hc.trans c2 (fun k q _ => q)).mono (fun k q _ => by rw [q]; exact h.inB)) (anewD_ok h.ok)
  · rw [h3]; rfl
  · have := hF k hk; omega

set_option maxRecDepth 100000 in
set_option maxHeartbeats 2000000 in
theorem dreset_any (w : World) (hw : Wd w) (hc : DvS M b x S w) (h0 : ∀ k, S k → k ≠ 0) :
    Calls Tryz.prog 13 #[.pointer (some ⟨b, 0, none⟩)] w fun e w' => e = .returned (.tuple #[]) ∧ LeftG (DvS M b (anewD x)) S w w' := by
  obtain ⟨sb, kv, T, h⟩ := hc
  have hb0 := h0 b h.inB
  obtain ⟨h1, h2, h3⟩ := mayD_true h.ok.may
  have hse := h.ok.session
  obtain ⟨s', hs'⟩ : ∃ s', s' = (x.session + 1) % 256 := ⟨_, rfl⟩
  have FI := Hid.intro (fun (W2 : World) (sb' : Nat) (F : Nat → Prop) => h.anew (W2 := W2) (sb' := sb') (F := F))
  rw [← hs'] at FI
  have r0 : IntKind.i64.wrap ((x.session : Int) + 1) = (x.session : Int) + 1 := IntWalk.i64_in _ (by omega)
  have r1 : ((x.session : Int) + 1).tmod 256 = (s' : Int) := by rw [Int.tmod_eq_emod_of_nonneg (by omega), hs']; omega
  have r2 : ((x.session : Int) + 1) % 256 = (s' : Int) := by rw [hs']; omega
  have c1 := h.cells.2.1
  have f1 : w.frozen? ⟨b, 1, none⟩ = false := frozen_of_row w b 1 _ _ h.head
  obtain ⟨W1, hW1⟩ : ∃ W1, W1 = w.setCell ⟨b, 1, none⟩ (.int .i64 (s' : Int)) := ⟨_, rfl⟩
  have d1 : W1.heap[b]? = some (.cells (dcells { x with session := s' } sb kv) 77 (0, 0)) := by rw [hW1, heap_setCell_same w b 1 _ _ _ h.head]; rfl
  have C1 : Chg (fun k => k = b) w W1 := by rw [hW1]; exact (Chg.refl (fun k => k = b) w).setCell (p := ⟨b, 1, none⟩) (fun _ => rfl) _
  have WD : Wid W1 := by
    obtain ⟨t, fr, q⟩ := hw.f
    exact ⟨t, fr, (C1.block 0 (lt_of_heap q) (fun e => hb0 e.symm)).trans q⟩
  have NW := Hid.intro (fun (W : World) (hW : Below W1.heap.size W1 W) => nnew_yes x.tx x.K x.N x.S x.wait x.most (by rw [h1, h2]; rfl) W (WD.below hW))
  have k0 : W1.cell? ⟨b, 0, none⟩ = some (.int .i64 (x.tx : Int)) := by rw [cell_of_row _ _ 0 _ _ _ d1]; rfl
  have k3 : W1.cell? ⟨b, 3, none⟩ = some (.int .i64 (x.K : Int)) := by rw [cell_of_row _ _ 3 _ _ _ d1]; rfl
  have k4 : W1.cell? ⟨b, 4, none⟩ = some (.int .i64 (x.N : Int)) := by rw [cell_of_row _ _ 4 _ _ _ d1]; rfl
  have k5 : W1.cell? ⟨b, 5, none⟩ = some (.int .i64 (x.S : Int)) := by rw [cell_of_row _ _ 5 _ _ _ d1]; rfl
  have k6 : W1.cell? ⟨b, 6, none⟩ = some (.int .i64 (x.wait : Int)) := by rw [cell_of_row _ _ 6 _ _ _ d1]; rfl
  have k7 : W1.cell? ⟨b, 7, none⟩ = some (.int .i64 (x.most : Int)) := by rw [cell_of_row _ _ 7 _ _ _ d1]; rfl
  have D1 := Hid.intro d1
  have C1H := Hid.intro C1
  generalize hx2 : anewD x = x2 at FI ⊢
  generalize x.tx = tx at *
  generalize x.K = K at *
  generalize x.N = N at *
  generalize x.S = SS at *
  generalize x.wait = wt at *
  generalize x.most = ms at *
  generalize x.session = ss at *
  clear h hw h0 hx2 h1 h2 h3 hse hs' d1 C1 WD hb0
  go_enter Tryz.func13, Tryz.ntmps13
  go_wp2_with fail
  rw [← hW1]
  clear c1 f1 hW1
  go_region_held3 (fun W => W.cell? ⟨b, 0, none⟩ = some (.int .i64 (tx : Int)) ∧ W.cell? ⟨b, 3, none⟩ = some (.int .i64 (K : Int)) ∧ W.cell? ⟨b, 4, none⟩ = some (.int .i64 (N : Int)) ∧ W.cell? ⟨b, 5, none⟩ = some (.int .i64 (SS : Int)) ∧ W.cell? ⟨b, 6, none⟩ = some (.int .i64 (wt : Int)) ∧ W.cell? ⟨b, 7, none⟩ = some (.int .i64 (ms : Int)))
    (first | exact ⟨q0, q3, q4, q5, q6, q7⟩ | exact ⟨cellD B1 k0, cellD B1 k3, cellD B1 k4, cellD B1 k5, cellD B1 k6, cellD B1 k7⟩ | go_keep)
    ((go_at_call 39; refine (NW.out _ ?_).mono ?_; exact (Below.refl _ W1).drew; rintro e w2 ⟨s2, F, rfl, hS, hF, B0⟩; have B1 : Below W1.heap.size W1 w2 := undrewD B0 rfl; have d2 := (B1.block _ (lt_of_heap D1.out)).trans D1.out; have a8 : w2.cell? ⟨b, 8, none⟩ = some (.pointer (some ⟨sb, 0, none⟩)) := (by rw [cell_of_row _ _ 8 _ _ _ d2]; rfl); have g8 : w2.frozen? ⟨b, 8, none⟩ = false := frozen_of_row _ _ 8 _ _ d2; have j1 := heap_setCell_same w2 b 8 _ _ (.pointer (some ⟨s2, 0, none⟩)) d2; have q0 : (w2.setCell ⟨b, 8, none⟩ (.pointer (some ⟨s2, 0, none⟩))).cell? ⟨b, 0, none⟩ = some (.int .i64 (tx : Int)) := (by rw [cell_of_row _ _ 0 _ _ _ j1]; rfl); have q3 : (w2.setCell ⟨b, 8, none⟩ (.pointer (some ⟨s2, 0, none⟩))).cell? ⟨b, 3, none⟩ = some (.int .i64 (K : Int)) := (by rw [cell_of_row _ _ 3 _ _ _ j1]; rfl); have q4 : (w2.setCell ⟨b, 8, none⟩ (.pointer (some ⟨s2, 0, none⟩))).cell? ⟨b, 4, none⟩ = some (.int .i64 (N : Int)) := (by rw [cell_of_row _ _ 4 _ _ _ j1]; rfl); have q5 : (w2.setCell ⟨b, 8, none⟩ (.pointer (some ⟨s2, 0, none⟩))).cell? ⟨b, 5, none⟩ = some (.int .i64 (SS : Int)) := (by rw [cell_of_row _ _ 5 _ _ _ j1]; rfl); have q6 : (w2.setCell ⟨b, 8, none⟩ (.pointer (some ⟨s2, 0, none⟩))).cell? ⟨b, 6, none⟩ = some (.int .i64 (wt : Int)) := (by rw [cell_of_row _ _ 6 _ _ _ j1]; rfl); have q7 : (w2.setCell ⟨b, 8, none⟩ (.pointer (some ⟨s2, 0, none⟩))).cell? ⟨b, 7, none⟩ = some (.int .i64 (ms : Int)) := (by rw [cell_of_row _ _ 7 _ _ _ j1]; rfl); have D2 := Hid.intro d2; have HS := Hid.intro hS; have HF := Hid.intro hF; clear B0 d2 hS hF j1))
  all_goals
    have FZ := Hid.intro (FI.out _ _ _ D2.out HS.out (fun k hk => Nat.le_trans C1H.out.size (Nat.le_trans (by simp) (HF.out k hk))) (C1H.out.trans (below_chg B1) (fun _ f _ => f.elim)))
    have j1 := heap_setCell_same w2 b 8 _ _ (.pointer (some ⟨s2, 0, none⟩)) D2.out
    have a9 : (w2.setCell ⟨b, 8, none⟩ (.pointer (some ⟨s2, 0, none⟩))).cell? ⟨b, 9, none⟩ = some kv := by rw [cell_of_row _ _ 9 _ _ _ j1]; rfl
    have g9 : (w2.setCell ⟨b, 8, none⟩ (.pointer (some ⟨s2, 0, none⟩))).frozen? ⟨b, 9, none⟩ = false := frozen_of_row _ _ 9 _ _ j1
    have j2 := heap_setCell_same _ b 9 _ _ (.slice none 0 0) j1
    have a10 : ((w2.setCell ⟨b, 8, none⟩ (.pointer (some ⟨s2, 0, none⟩))).setCell ⟨b, 9, none⟩ (.slice none 0 0)).cell? ⟨b, 10, none⟩ = some (.bool x.was) := by rw [cell_of_row _ _ 10 _ _ _ j2]; rfl
    have g10 : ((w2.setCell ⟨b, 8, none⟩ (.pointer (some ⟨s2, 0, none⟩))).setCell ⟨b, 9, none⟩ (.slice none 0 0)).frozen? ⟨b, 10, none⟩ = false := frozen_of_row _ _ 10 _ _ j2
    clear q0 q3 q4 q5 q6 q7 j1 j2 FI HS HF D2 NW k0 k3 k4 k5 k6 k7
    go_wp2
    go_end0
    exact ⟨rfl, FZ.out⟩

end Go.Proofs.YthhggjakenalpaaGreatDoor

/- slices.Delete: the first ones of a list of samples of one's own. -/
namespace Go.Proofs.YthhggjakenalpaaGreatDoor
set_option maxRecDepth 100000
open Go.RowKit Go.Lib
open Bt

theorem owns_setCellsD {g c n sz : Nat} {t : TypeId} : ∀ (vs : List Value) (o : Nat) (w : World) (xs : List Value), w.ownsRow 0 t sz (.slice (some ⟨g, 0, none⟩) n c) n xs → o + vs.length ≤ xs.length → (w.setCells g o vs).ownsRow 0 t sz (.slice (some ⟨g, 0, none⟩) n c) n (xs.take o ++ vs ++ xs.drop (o + vs.length))
  | [], o, w, xs, h, _ => by simpa [World.setCells] using h
  | v :: vs, o, w, xs, h, ho => by
    have q := owns_setCellsD vs (o + 1) (w.setCell ⟨g, o, none⟩ v) (xs.set o v) (World.ownsRow.stored h o v).1 (by simp at ho ⊢; omega)
    rw [World.setCells]
    have e : (xs.set o v).take (o + 1) ++ vs ++ (xs.set o v).drop (o + 1 + vs.length) = xs.take o ++ v :: vs ++ xs.drop (o + (v :: vs).length) := by
      have ho' : o < xs.length := by simp at ho; omega
      rw [List.take_set, List.drop_set_of_lt (by omega), List.take_add_one, List.getElem?_eq_getElem ho']
      have e2 : (xs.take o ++ [xs[o]]).set o v = xs.take o ++ [v] := by
        have hm : (xs.take o).length = o := by rw [List.length_take]; omega
        rw [List.set_append_right _ _ (by omega), hm]
        simp
      show (xs.take o ++ [xs[o]]).set o v ++ vs ++ _ = _
      rw [e2]
      simp only [List.append_assoc, List.nil_append, List.cons_append, List.length_cons]
      rw [show o + 1 + vs.length = o + (vs.length + 1) by omega]
    rw [e] at q
    exact q

theorem chg_setCellsD {g : Nat} : ∀ (vs : List Value) (o : Nat) (w : World), Chg (fun k => k = g) w (w.setCells g o vs)
  | [], _, w => Chg.refl _ w
  | v :: vs, o, w => ((Chg.refl (fun k => k = g) w).setCell (p := ⟨g, o, none⟩) (fun _ => rfl) v).trans (chg_setCellsD vs (o + 1) _) (fun _ q _ => q)

theorem owns_cutD {w : World} {g c n i sz : Nat} {t : TypeId} {xs : List Value} (h : w.ownsRow 0 t sz (.slice (some ⟨g, 0, none⟩) n c) n xs) (hi : i ≤ n) : w.ownsRow 0 t sz (.slice (some ⟨g, 0, none⟩) i c) i (xs.take (i * sz)) := by
  have hm := Nat.mul_le_mul_right sz hi
  refine ⟨by have := h.1; rw [List.length_take]; omega, ?_⟩
  rcases h.2 with ⟨hv, _⟩ | ⟨g', cap, cur, hv, hb, hg, hn, hm', hs, ht⟩
  · cases hv
  · cases hv
    refine .inr ⟨g, c, cur, rfl, hb, hg, by omega, hm', hs, ?_⟩
    rw [← ht, List.take_take, Nat.min_eq_left hm]

/-- The cells of so many zero samples. -/
def zerosM (n : Nat) : List Value := (Builtin.zeroCells #[.int .i64 0, .int .i64 0, .int .i64 0] n).toList

theorem zerosM_length (n : Nat) : (zerosM n).length = n * 3 := by simp [zerosM, Builtin.zeroCells]

theorem zerosM_one (n : Nat) : ∀ v ∈ zerosM n, v.oneCell' = true := by
  intro v hv
  simp only [zerosM, Builtin.zeroCells, Array.toList_map, Array.toList_range, List.mem_map, List.mem_range] at hv
  obtain ⟨i, _, rfl⟩ := hv
  have h2 : i % 3 < 3 := Nat.mod_lt _ (by decide)
  show Value.oneCell' (#[.int .i64 0, .int .i64 0, .int .i64 0][i % 3]!) = true
  generalize i % 3 = r at h2
  match r, h2 with
  | 0, _ => rfl
  | 1, _ => rfl
  | 2, _ => rfl

theorem run_clear_smp (w : World) (g o n c : Nat) (ty : TypeId) (hn : 0 < n) (hc : ∀ j, j < n * 3 → (w.cell? ⟨g, o + j, none⟩).isSome = true) (hf : ∀ j, w.frozen? ⟨g, j, none⟩ = false) :
    (Builtin.clear_ #[50] ty #[.slice (some ⟨g, o, none⟩) n c]).run Tryz.prog w = .ok (.tuple #[]) (w.setCells g o (zerosM n)) := by
  have hst := run_storeCells_cells (P := Tryz.prog) g o (zerosM n) 0 w (fun j hj => by rw [Nat.add_zero]; exact hc j (by rw [zerosM_length] at hj; exact hj)) (fun j _ => hf _) (zerosM_one n)
  obtain ⟨i0, hi0, hz0, hzs, hzb⟩ := info_parts info_smp
  simp only [Nat.add_zero] at hst
  obtain ⟨m, rfl⟩ : ∃ m, n = m + 1 := ⟨n - 1, by omega⟩
  simp [Builtin.clear_, run_underlying Tryz.underlying50, Value.cells, zerosM, zeroValue, typeInfo, hi0, hz0] at hst ⊢
  simp [hst]

theorem step_append_runD {P : Program} {ops : Array Oper} {o : Oper} {a : Act} {w : World} {K : Act → World → Prop} {Q : Exit → Act → World → Prop} {E : Prop}
    (hg : o.guard = none) (d x : Operand) (dT sT : TypeId) (hop : o.op = Op.call { callee := Callee.builtin Builtin.append, args := #[d, x], argTypes := #[dT, sT] })
    (v u : Value) (hd : a.eval d = v) (hx : a.eval x = u) {v' : Value} {w' : World} (hr : (Builtin.append_ #[dT, sT] o.type #[v, u]).run P w = .ok v' w') (hK : K (a.put o.dst v') w') :
    if Region.wanted o (yielded ops a.tmps) = true then Oper.wp P o a w K Q else E := by
  have hw : Region.wanted o (yielded ops a.tmps) = true := by simp [Region.wanted, hg]
  rw [if_pos hw]
  unfold Oper.wp
  simp [execOp, hop, resolve, invoke, builtin, hd, hx, hr, Result.andThen]
  exact hK

theorem mcells_drop (l : List Smp) (m : Nat) : mcells (l.drop m) = (mcells l).drop (m * 3) := by
  induction m generalizing l with
  | zero => simp
  | succ m ih =>
    cases l with
    | nil => simp [mcells]
    | cons s l =>
      have e : (mcell s ++ mcells l).drop ((mcell s).length + m * 3) = (mcells l).drop (m * 3) := by
        rw [List.drop_append, List.drop_eq_nil_of_le (Nat.le_add_right _ _), List.nil_append, Nat.add_sub_cancel_left]
      rw [List.drop_succ_cons, ih, ← e, show mcells (s :: l) = mcell s ++ mcells l from rfl, show (m + 1) * 3 = (mcell s).length + m * 3 from by simp [mcell]; omega]

theorem cut_listD {xs zs : List Value} {a b : Nat} (h : xs.length = a + b) :
    ((xs.take 0 ++ xs.drop b ++ xs.drop (0 + (xs.drop b).length)).take a ++ zs ++ (xs.take 0 ++ xs.drop b ++ xs.drop (0 + (xs.drop b).length)).drop (a + zs.length)).take a = xs.drop b := by
  have hd : (xs.drop b).length = a := by rw [List.length_drop]; omega
  have e1 : (xs.take 0 ++ xs.drop b ++ xs.drop (0 + (xs.drop b).length)).take a = xs.drop b := by
    rw [List.take_zero, List.nil_append, List.take_append_of_le_length (by omega), List.take_of_length_le (by omega)]
  rw [e1, List.append_assoc, List.take_append_of_le_length (by omega), List.take_of_length_le (by omega)]

set_option maxRecDepth 100000 in
set_option maxHeartbeats 4000000 in
theorem sdelete_any (g n c m r : Nat) (l : List Smp) (hl : l.length = n) (hn : n ≤ 100) (hm : 0 < m) (hr : n = r + m) (w : World) (own : w.ownsRow 0 35 3 (.slice (some ⟨g, 0, none⟩) n c) n (mcells l)) :
    Calls Tryz.prog 85 #[.slice (some ⟨g, 0, none⟩) n c, .int .i64 0, .int .i64 (m : Int)] w fun e w' =>
      e = .returned (.slice (some ⟨g, 0, none⟩) r c) ∧ w'.ownsRow 0 35 3 (.slice (some ⟨g, 0, none⟩) r c) r (mcells (l.drop m)) ∧ Chg (fun k => k = g) w w' := by
  obtain ⟨xs, hxs⟩ : ∃ xs, xs = mcells l := ⟨_, rfl⟩
  have hlen : xs.length = r * 3 + m * 3 := by rw [hxs, mcells_length, hl]; omega
  have h1 : ∀ u ∈ xs, u.oneCell' = true := by rw [hxs]; exact mcells_onecell l
  rw [mcells_drop, ← hxs]
  rw [← hxs] at own
  clear hxs hl
  obtain ⟨cur, hg, hcs0, hnc, hmx⟩ : ∃ cur : Array Value, w.heap[g]? = some (.cells cur 35 (0, 0)) ∧ cur.size = c * 3 ∧ n ≤ c ∧ c ≤ maxLen := by
    rcases own.2 with ⟨hv, h0⟩ | ⟨g', cap, cur, hv, hb, hg, hc, hm, hs, ht⟩
    · cases hv
    · cases hv; exact ⟨cur, hg, hs, hc, hm⟩
  have hc63 : c ≤ 9223372036854775807 := by unfold maxLen at hmx; omega
  obtain ⟨i0, hi0, hz0, hzs, hzb⟩ := info_parts info_smp
  have hsp : ∀ j, j < n * 3 → (w.cell? ⟨g, j, none⟩).isSome = true := fun j hj => by
    rw [cell_of_row w g j _ _ _ hg]
    rw [Array.getElem?_eq_getElem (by omega)]; rfl
  have hfz : ∀ j, w.frozen? ⟨g, j, none⟩ = false := fun j => frozen_of_row w g j _ _ hg
  have hcs : ∀ j v, xs[j]? = some v → w.cell? ⟨g, j, none⟩ = some v := fun j v hv => by
    have hj := (List.getElem?_eq_some_iff.1 hv).1
    rw [own.cellAt j (by omega)]; exact hv
  have hdl : (xs.drop (m * 3)).length = r * 3 := by rw [List.length_drop, hlen]; omega
  have hrun : ∀ ty ad dc, (0 < r → ad = (⟨g, m * 3, none⟩ : Addr)) → (Builtin.append_ #[50, 50] ty #[.slice (some ⟨g, 0, none⟩) 0 c, .slice (some ad) r dc]).run Tryz.prog w.drew = .ok (.slice (some ⟨g, 0, none⟩) r c) (w.drew.setCells g 0 (xs.drop (m * 3))) := fun ty ad dc had => by
    have hsrc : Src Tryz.prog i0.size 50 (.slice (some ad) r dc) r (xs.drop (m * 3)) w.drew := by
      rw [hzs]
      refine Src.ofSlice w.drew Tryz.underlying50 ad r dc (xs.drop (m * 3)) hdl (fun j u hj => ?_) (fun v hv => h1 v (List.mem_of_mem_drop hv))
      have hj' := (List.getElem?_eq_some_iff.1 hj).1
      rw [had (by omega), Addr.add_lit]
      exact hcs (m * 3 + j) u (by rwa [List.getElem?_drop] at hj)
    have q := run_append_room_src w.drew 50 50 ty 35 i0 Tryz.underlying50 hi0 g 0 0 c _ _ _ hsrc (by omega) (fun j hj => by rw [hzs]; exact hsp _ (by omega)) (fun j hj => hfz _)
    rw [hzs, Nat.zero_mul, Nat.zero_add, Nat.zero_add] at q
    exact q
  obtain ⟨W1, hW1⟩ : ∃ W1, W1 = w.drew.setCells g 0 (xs.drop (m * 3)) := ⟨_, rfl⟩
  have hcl : ∀ ty dc, (Builtin.clear_ #[50] ty #[.slice (some ⟨g, r * 3, none⟩) m dc]).run Tryz.prog W1 = .ok (.tuple #[]) (W1.setCells g (r * 3) (zerosM m)) := fun ty dc =>
    run_clear_smp W1 g (r * 3) m dc ty hm (fun j hj => by rw [hW1]; exact World.isSome_setCells g _ 0 w.drew _ (hsp _ (by omega))) (fun j => by rw [hW1, World.frozen?_setCells]; exact hfz _)
  have FIN : Hid ((W1.setCells g (r * 3) (zerosM m)).ownsRow 0 35 3 (.slice (some ⟨g, 0, none⟩) r c) r (xs.drop (m * 3)) ∧ Chg (fun k => k = g) w (W1.setCells g (r * 3) (zerosM m))) := by
    have o1 : W1.ownsRow 0 35 3 _ _ _ := hW1 ▸ owns_setCellsD (xs.drop (m * 3)) 0 w.drew xs own (by omega)
    have hz := zerosM_length m
    have o2 := owns_setCellsD (zerosM m) (r * 3) W1 _ o1 (by rw [hz]; simp only [List.length_append, List.length_take, List.length_drop]; omega)
    have o3 := owns_cutD (i := r) o2 (by omega)
    refine ⟨?_, ?_⟩
    · rw [cut_listD hlen] at o3
      exact o3
    · rw [hW1]
      have q : Chg (fun k => k = g) w w.drew := (Chg.refl _ w).drew
      exact (q.trans (chg_setCellsD _ _ _) (fun _ q _ => q)).trans (chg_setCellsD _ _ _) (fun _ q _ => q)
  rw [← hW1] at hrun
  have HW1 : Hid (r = 0 → W1 = w.drew) := Hid.intro (fun q => by
    rw [hW1, List.eq_nil_of_length_eq_zero (by rw [hdl, q] : (xs.drop (m * 3)).length = 0)]
    rfl)
  have mixed : Tryz.prog.follows Departure.mixedOrders = true := by kernel_rfl
  have e1 : ((0 : Int) == (m : Int)) = false := by rw [beq_eq_false_iff_ne]; omega
  have e2 : (m : Int) ≤ (n : Int) := by omega
  have e6 : (n : Int) ≤ (c : Int) := by omega
  have e7 : n - m = r := by omega
  have e8 : n - r = m := by omega
  have e9 : ¬ (c = r) := by omega
  have e10 : ¬ (c = 0) := by omega
  have e11 : (r : Int) ≤ (n : Int) := by omega
  have e12 : (r : Int) ≤ (c : Int) := by omega
  have e13 : (m : Int) ≤ (c : Int) := by omega
  have HR := Hid.intro hrun
  have HC := Hid.intro hcl
  clear hrun hcl hsp hfz hcs hdl own hg hcs0 hW1 hlen h1 hz0 hzs hzb hi0
  by_cases hci : c = m
  · obtain rfl : r = 0 := by omega
    have e14 : n = m := by omega
    subst e14
    subst hci
    clear e7 e8 e10 e11 e12 e13 e2
    have hw1 := HW1.out rfl
    subst hw1
    have HR0 := Hid.intro (fun ty ad dc => HR.out ty ad dc (fun q => absurd q (by omega)))
    clear HR hr
    go_enter Tryz.func85, Tryz.ntmps85
    go_wp2_with fail
    go_region_law_o (first
      | (refine step_append_runD rfl _ _ 50 50 rfl _ _ (by simp [Act.eval, Act.put]) (by simp [Act.eval, Act.put]) (HR0.out _ ⟨g, 0, none⟩ _) ?_)
      | (refine step_append_runD rfl _ _ 50 50 rfl _ _ (by simp [Act.eval, Act.put]) (by simp [Act.eval, Act.put]) (HR0.out _ ⟨g, c * 3, none⟩ _) ?_)
      | fail)
    go_wp2_with fail
    simp only [Nat.zero_mul] at HC
    rw [HC.out]
    go_wp2
    go_ret
    exact ⟨rfl, FIN.out⟩
  · clear hr
    go_enter Tryz.func85, Tryz.ntmps85
    go_wp2_with fail
    go_region_law_o (refine step_append_runD rfl _ _ 50 50 rfl _ _ (by simp [Act.eval, Act.put]) (by simp [Act.eval, Act.put]) (HR.out _ ⟨g, m * 3, none⟩ (c - m) (fun _ => rfl)) ?_)
    go_wp2_with fail
    rw [HC.out]
    go_wp2
    go_ret
    exact ⟨rfl, FIN.out⟩

end Go.Proofs.YthhggjakenalpaaGreatDoor

/- Package device: push. -/
namespace Go.Proofs.YthhggjakenalpaaGreatDoor
set_option maxRecDepth 100000
open Go.RowKit
open Bt

variable {M b sb : Nat} {S T : Nat → Prop} {w w' : World} {kv : Value} {x : Dev}

/-- Behind the sender's Push, the samples' Delete, and the store of what is left. -/
theorem DvH.pushed {g n c : Nat} (h : DvH M S w b sb (.slice (some ⟨g, 0, none⟩) n c) T x) {w3 W4 W5 : World} {r : Nat} (hr : (x.kept.drop (manyD x)).length = r) (hb : Below w.heap.size w w3) (hl : LeftN M T w3 W4 sb (pushC x.snd (textD x))) (own5 : W5.ownsRow 0 35 3 (.slice (some ⟨g, 0, none⟩) r c) r (mcells (x.kept.drop (manyD x)))) (hc5 : Chg (fun k => k = g) W4 W5) :
    (W5.cell? ⟨b, 9, none⟩ = some (.slice (some ⟨g, 0, none⟩) n c) ∧ W5.frozen? ⟨b, 9, none⟩ = false) ∧ LeftG (DvS M b (pushY x)) S w (W5.setCell ⟨b, 9, none⟩ (.slice (some ⟨g, 0, none⟩) r c)) := by
  obtain ⟨T', s4, c4, t4⟩ := hl
  have hbl := h.lt b h.inB
  have hgv := h.inV g rfl
  have hgl := h.lt g hgv.1
  have hsz := hb.size
  have hs4 := c4.size
  have cb : Chg (fun k => T k) w W4 := ((below_chg hb).mono (fun _ f _ => f.elim)).trans c4 (fun k q _ => q)
  have hd4 : W4.heap[b]? = some (.cells (dcells x sb (.slice (some ⟨g, 0, none⟩) n c)) 77 (0, 0)) := (cb.block b hbl (fun q => (h.inT b q).2 rfl)).trans h.head
  have hd5 : W5.heap[b]? = some (.cells (dcells x sb (.slice (some ⟨g, 0, none⟩) n c)) 77 (0, 0)) := (hc5.block b (lt_of_heap hd4) (fun q => hgv.2.1 q.symm)).trans hd4
  refine ⟨⟨by rw [cell_of_row W5 _ 9 _ _ _ hd5]; rfl, frozen_of_row W5 _ 9 _ _ hd5⟩, ?_⟩
  have c6 : Chg (fun k => k = b) W5 (W5.setCell ⟨b, 9, none⟩ (.slice (some ⟨g, 0, none⟩) r c)) := (Chg.refl (fun k => k = b) W5).setCell (p := ⟨b, 9, none⟩) (fun _ => rfl) _
  have hT : ∀ k, T' k → T k ∨ w.heap.size ≤ k := fun k hk => by
    rcases t4 k hk with q | q
    · exact .inl q
    · exact .inr (by omega)
  have c56 : Chg (fun k => k = g ∨ k = b) W4 (W5.setCell ⟨b, 9, none⟩ (.slice (some ⟨g, 0, none⟩) r c)) := (hc5.mono (fun k q _ => Or.inl q)).trans c6 (fun k q _ => Or.inr q)
  refine h.step (sb' := sb) (kv' := .slice (some ⟨g, 0, none⟩) r c) (T' := T') ?_ (s4.kept c56 (fun k hk q => ?_)) ?_ hT (fun k hk => .inl (by cases hk; rfl)) (fun k hk q => ?_) ?_ (pushY_ok h.ok)
  · rw [heap_setCell_same W5 b 9 _ _ _ hd5]; rfl
  · rcases q with q | q
    · subst q
      rcases hT k hk with r | r
      · exact hgv.2.2 r
      · omega
    · subst q
      rcases hT k hk with r | r
      · exact (h.inT k r).2 rfl
      · omega
  · show (W5.setCell ⟨b, 9, none⟩ (.slice (some ⟨g, 0, none⟩) r c)).ownsRow 0 35 3 (.slice (some ⟨g, 0, none⟩) r c) (x.kept.drop (manyD x)).length (mcells (x.kept.drop (manyD x)))
    rw [hr]
    exact ownsRow_keep own5 fun k hk => heap_setCell_other _ _ _ _ (fun q => by cases hk; exact hgv.2.1 q)
  · cases hk
    rcases hT g q with r | r
    · exact hgv.2.2 r
    · omega
  · exact (cb.mono (fun k q _ => (h.inT k q).1)).trans c56 (fun k q _ => by
      rcases q with q | q
      · rw [q]; exact hgv.1
      · rw [q]; exact h.inB)

set_option maxRecDepth 100000 in
set_option maxHeartbeats 4000000 in
theorem dpush_any (w : World) (hw : Wd w) (hc : DvS M b x S w) (hk : 0 < x.kept.length) (hM : M ≤ 1000000) :
    Calls Tryz.prog 42 #[.pointer (some ⟨b, 0, none⟩)] w fun e w' => e = .returned (.tuple #[]) ∧ LeftG (DvS M b (pushY x)) S w w' := by
  obtain ⟨sb, kv, T, h⟩ := hc
  have hf := h.ok.few
  obtain ⟨ao, c, rfl, hz⟩ := h.form
  obtain ⟨g, rfl⟩ := hz.resolve_left (by omega)
  obtain ⟨c0, c1, c2, c3, c4, c5, c6, c7, c8, c9, _⟩ := h.cells
  obtain ⟨f1, f2, f3⟩ := fitsM_dev h.ok
  have hcap := (ownsRow_cap h.own)
  have SM := sms_of_owns h.own (R := fun k => k = g) (fun k hk => by cases hk; rfl)
  obtain ⟨m, hm⟩ : ∃ m, m = manyD x := ⟨_, rfl⟩
  have hmd : manyD x = min (fitsD x) x.kept.length := rfl
  have hm1 : m ≤ fitsD x := by rw [hm, hmd]; omega
  have hm2 : m ≤ x.kept.length := by rw [hm, hmd]; omega
  have hm3 : 0 < m := by rw [hm, hmd]; omega
  have tl : (x.kept.take m).length = m := by rw [List.length_take]; omega
  have pe : packE x.K x.N x.S (x.kept.take m) = 0 := packE_dev h.ok hm1
  have PK := Hid.intro (fun (W : World) (hW : Below w.heap.size w W) => cpack_any (x.K : Int) x.N x.S (fun k => k = g) (some ⟨g, 0, none⟩) c (x.kept.take m) (by rw [tl]; omega) W (hw.r.below hW) (by have := (SM.below hW).take m c hm2; rw [tl]; exact this))
  rw [pe, tl] at PK
  have et : packT (x.K : Int) x.N x.S (x.kept.take m) = textD x := by unfold textD; rw [← hm]
  rw [et] at PK
  have hby := textD_byt h.ok
  have PU := Hid.intro (fun (W : World) (a : Option Addr) (cc : Nat) (hW : Below w.heap.size w W) (hr : Reads W a (textD x)) (hro : Room a cc (textD x).length) (hn : ∀ ad, a = some ad → w.heap.size ≤ ad.block) => npush_any M sb a cc (textD x) hby hro T x.snd W hM (h.snd.kept (below_chg hW) (fun _ _ => id)) hr (fun _ ad ha q => by have := hn ad ha; have := h.lt _ (h.inT _ q).1; omega))
  have FT := Hid.intro (fun W => cfits_any (x.K : Int) x.N x.S W)
  rw [f1] at FT
  have HH := Hid.intro h
  obtain ⟨r, hr⟩ : ∃ r, x.kept.length = r + m := ⟨x.kept.length - m, by omega⟩
  have FIN := Hid.intro (fun (w3 W4 W5 : World) hb hl o5 q5 => HH.out.pushed (w3 := w3) (W4 := W4) (W5 := W5) (r := r) (by rw [List.length_drop, ← hm]; omega) hb hl o5 q5)
  have DEL := Hid.intro (fun (W : World) (own : W.ownsRow 0 35 3 (.slice (some ⟨g, 0, none⟩) x.kept.length c) x.kept.length (mcells x.kept)) => sdelete_any g x.kept.length c m r x.kept rfl (by omega) hm3 hr W own)
  rw [← hm] at FIN
  have KP := Hid.intro (fun (w3 W4 : World) (hb : Below w.heap.size w w3) (hl : LeftN M T w3 W4 sb (pushC x.snd (textD x))) => (show W4.cell? ⟨b, 9, none⟩ = some (.slice (some ⟨g, 0, none⟩) x.kept.length c) ∧ W4.ownsRow 0 35 3 (.slice (some ⟨g, 0, none⟩) x.kept.length c) x.kept.length (mcells x.kept) by
    obtain ⟨T', s4, q4, t4⟩ := hl
    have cb : Chg (fun k => T k) w W4 := ((below_chg hb).mono (fun _ f _ => f.elim)).trans q4 (fun k q _ => q)
    have hgv := HH.out.inV g rfl
    exact ⟨cell_chg cb c9 (fun q => (HH.out.inT b q).2 rfl), ownsRow_keep HH.out.own fun k hk => by cases hk; exact cb.block g (HH.out.lt g hgv.1) hgv.2.2⟩))
  have LN := Hid.intro (fun (w3 W4 : World) (hl : LeftN M T w3 W4 sb (pushC x.snd (textD x))) => hl)
  obtain ⟨ft, hft⟩ : ∃ ft, ft = fitsD x := ⟨_, rfl⟩
  rw [← hft] at FT f2 f3 hm1 hmd
  have hmn : m = min ft x.kept.length := by rw [hm, hmd]
  generalize hx2 : pushY x = x2 at FIN ⊢
  generalize pushC x.snd (textD x) = s2 at *
  generalize pushE x.snd (textD x).length = pe2 at *
  generalize textD x = tx at *
  generalize x.K = K at *
  generalize x.N = N at *
  generalize x.S = SS at *
  generalize x.kept.length = n at *
  have z1 : (m : Int) ≤ (n : Int) := by omega
  have z2 : (m : Int) ≤ (c : Int) := by omega
  have z3 : (n : Int) ≤ (c : Int) := by omega
  have z4 : c ≤ 9223372036854775807 := hcap.2
  clear h hw SM hby pe tl et hz hf hm f1 hx2 hft hmd c0 c1 c2 c6 c7 HH hcap LN
  have hcase : (m = n ∧ m < ft) ∨ (m = ft ∧ ¬ n < m) := by omega
  have HRR := Hid.intro hr
  clear hmn hr
  generalize x.kept.drop m = kd at *
  generalize mcells x.kept = xs at *
  rcases hcase with ⟨e, hlt⟩ | ⟨e, hlt⟩
  all_goals
    subst e
  case inl =>
    have v1 : (m : Int) < (ft : Int) := by omega
    have v2 : ¬ (ft : Int) < (m : Int) := by omega
    have v3 : (m : Int) ≤ (ft : Int) := by omega
    have v4 : ¬ (ft : Int) ≤ (m : Int) := by omega
    go_enter Tryz.func42, Tryz.ntmps42
    go_wp2_with fail
    go_region_held3 (fun W => W.cell? ⟨b, 3, none⟩ = some (.int .i64 (K : Int)) ∧ W.cell? ⟨b, 4, none⟩ = some (.int .i64 (N : Int)) ∧ W.cell? ⟨b, 5, none⟩ = some (.int .i64 (SS : Int)) ∧ W.cell? ⟨b, 9, none⟩ = some (.slice (some ⟨g, 0, none⟩) m c))
      (first | exact ⟨cellD B1 c3, cellD B1 c4, cellD B1 c5, cellD B1 c9⟩ | go_keep)
      ((go_at_call 37; refine (FT.out _).mono ?_; rintro e w1 ⟨rfl, B0⟩; have B1 : Below w.heap.size w w1 := undrewD B0 rfl; clear B0))
    all_goals
      have k3 := cellD B1 c3
      have k4 := cellD B1 c4
      have k5 := cellD B1 c5
      have k9 := cellD B1 c9
      clear FT
      go_wp2_with fail
      go_region_held3 (fun W => W.cell? ⟨b, 3, none⟩ = some (.int .i64 (K : Int)) ∧ W.cell? ⟨b, 4, none⟩ = some (.int .i64 (N : Int)) ∧ W.cell? ⟨b, 5, none⟩ = some (.int .i64 (SS : Int)) ∧ W.cell? ⟨b, 9, none⟩ = some (.slice (some ⟨g, 0, none⟩) m c))
        (first | exact ⟨cellD B2 c3, cellD B2 c4, cellD B2 c5, cellD B2 c9⟩ | go_keep)
        ((go_at_call 83; refine (PK.out _ B1.drew).mono ?_; rintro e w2 ⟨pa, pc, rfl, rd2, ro2, nw2, B0⟩; have B2 : Below w.heap.size w w2 := B1.trans ((undrewD B0 rfl).mono B1.size); have RD2 := Hid.intro rd2; have RO2 := Hid.intro ro2; have NW2 : Hid (∀ ad, pa = some ad → w.heap.size ≤ ad.block) := Hid.intro (fun ad ha => Nat.le_trans B1.size (nw2 ad ha)); clear B0 rd2 ro2 nw2))
      all_goals
        clear k3 k4 k5 k9
        have k8 := cellD B2 c8
        go_wp2_with fail
        refine (PU.out _ pa pc B2 RD2.out RO2.out NW2.out).mono ?_
        rintro e w3 ⟨rfl, L3⟩
        obtain ⟨k9, own3⟩ := KP.out w2 w3 B2 L3
        have DE := Hid.intro (DEL.out w3 own3)
        have L3H := Hid.intro L3
        clear DEL KP own3 L3 PU PK k8 RD2 RO2 NW2
        go_wp2_with fail
        refine DE.out.mono ?_
        rintro e w4 ⟨rfl, own4, C4⟩
        obtain ⟨⟨z1', z2'⟩, z3'⟩ := FIN.out w2 w3 w4 B2 L3H.out own4 C4
        have Z3 := Hid.intro z3'
        clear own4 C4 z3' FIN k9 DE L3H
        go_wp2_with fail
        go_end0
        exact ⟨rfl, Z3.out⟩
  case inr =>
    have v1 : ¬ (n : Int) < (m : Int) := by omega
    have v2 : (m : Int) ≤ (n : Int) := by omega
    go_enter Tryz.func42, Tryz.ntmps42
    go_wp2_with fail
    go_region_held3 (fun W => W.cell? ⟨b, 3, none⟩ = some (.int .i64 (K : Int)) ∧ W.cell? ⟨b, 4, none⟩ = some (.int .i64 (N : Int)) ∧ W.cell? ⟨b, 5, none⟩ = some (.int .i64 (SS : Int)) ∧ W.cell? ⟨b, 9, none⟩ = some (.slice (some ⟨g, 0, none⟩) n c))
      (first | exact ⟨cellD B1 c3, cellD B1 c4, cellD B1 c5, cellD B1 c9⟩ | go_keep)
      ((go_at_call 37; refine (FT.out _).mono ?_; rintro e w1 ⟨rfl, B0⟩; have B1 : Below w.heap.size w w1 := undrewD B0 rfl; clear B0))
    all_goals
      have k3 := cellD B1 c3
      have k4 := cellD B1 c4
      have k5 := cellD B1 c5
      have k9 := cellD B1 c9
      clear FT
      go_wp2_with fail
      go_region_held3 (fun W => W.cell? ⟨b, 3, none⟩ = some (.int .i64 (K : Int)) ∧ W.cell? ⟨b, 4, none⟩ = some (.int .i64 (N : Int)) ∧ W.cell? ⟨b, 5, none⟩ = some (.int .i64 (SS : Int)) ∧ W.cell? ⟨b, 9, none⟩ = some (.slice (some ⟨g, 0, none⟩) n c))
        (first | exact ⟨cellD B2 c3, cellD B2 c4, cellD B2 c5, cellD B2 c9⟩ | go_keep)
        ((go_at_call 83; refine (PK.out _ B1.drew).mono ?_; rintro e w2 ⟨pa, pc, rfl, rd2, ro2, nw2, B0⟩; have B2 : Below w.heap.size w w2 := B1.trans ((undrewD B0 rfl).mono B1.size); have RD2 := Hid.intro rd2; have RO2 := Hid.intro ro2; have NW2 : Hid (∀ ad, pa = some ad → w.heap.size ≤ ad.block) := Hid.intro (fun ad ha => Nat.le_trans B1.size (nw2 ad ha)); clear B0 rd2 ro2 nw2))
      all_goals
        clear k3 k4 k5 k9
        have k8 := cellD B2 c8
        go_wp2_with fail
        refine (PU.out _ pa pc B2 RD2.out RO2.out NW2.out).mono ?_
        rintro e w3 ⟨rfl, L3⟩
        obtain ⟨k9, own3⟩ := KP.out w2 w3 B2 L3
        have DE := Hid.intro (DEL.out w3 own3)
        have L3H := Hid.intro L3
        clear DEL KP own3 L3 PU PK k8 RD2 RO2 NW2
        go_wp2_with fail
        refine DE.out.mono ?_
        rintro e w4 ⟨rfl, own4, C4⟩
        obtain ⟨⟨z1', z2'⟩, z3'⟩ := FIN.out w2 w3 w4 B2 L3H.out own4 C4
        have Z3 := Hid.intro z3'
        clear own4 C4 z3' FIN k9 DE L3H
        go_wp2_with fail
        go_end0
        exact ⟨rfl, Z3.out⟩

end Go.Proofs.YthhggjakenalpaaGreatDoor

/- Package device: the greeting. -/
namespace Go.Proofs.YthhggjakenalpaaGreatDoor
set_option maxRecDepth 100000
open Go.RowKit
open Bt

variable {M b sb : Nat} {S T : Nat → Prop} {w w' : World} {kv : Value} {x : Dev}

/-- The greeting, as it is made. -/
theorem greet_made (w1 : World) (tx G ss : Nat) (O : Obj) (hO : O = .cells #[.int .i64 (tx : Int), .int .i64 (G : Int), .int .i64 0, .int .i64 0, .int .i64 3, .slice (some ⟨w1.heap.size + 1, 0, none⟩) 1 1] 55) :
    FrsAt (fun k => w1.heap.size ≤ k ∧ k < (((w1.alloc O).alloc (.cells #[.int .u8 (ss : Int)] 5)).alloc O).heap.size) (fun k => w1.heap.size ≤ k ∧ k < (((w1.alloc O).alloc (.cells #[.int .u8 (ss : Int)] 5)).alloc O).heap.size) (((w1.alloc O).alloc (.cells #[.int .u8 (ss : Int)] 5)).alloc O) (.slice (some ⟨w1.heap.size + 1 + 1, 0, none⟩) 1 1) [⟨tx, (G : Int), 0, 0, 3, [ss]⟩] ∧
    Below w1.heap.size w1 (((w1.alloc O).alloc (.cells #[.int .u8 (ss : Int)] 5)).alloc O) := by
  have hB : Below w1.heap.size w1 (((w1.alloc O).alloc (.cells #[.int .u8 (ss : Int)] 5)).alloc O) := (((Below.refl _ w1).alloc (Nat.le_refl _) O).alloc (by simp) _).alloc (by simp; omega) _
  refine ⟨⟨_, _, rfl, fun _ => ⟨_, _, rfl, ⟨by omega, by simp⟩, fun t ht => ?_⟩⟩, hB⟩
  obtain rfl : t = 0 := by simp at ht; omega
  have e2 : ((w1.alloc O).alloc (.cells #[.int .u8 (ss : Int)] 5)).heap.size = w1.heap.size + 1 + 1 := by simp
  have h2 : (((w1.alloc O).alloc (.cells #[.int .u8 (ss : Int)] 5)).alloc O).heap[w1.heap.size + 1 + 1]? = some O := by rw [← e2]; exact heap_alloc_new _ _
  have h1 : (((w1.alloc O).alloc (.cells #[.int .u8 (ss : Int)] 5)).alloc O).heap[w1.heap.size + 1]? = some (.cells #[.int .u8 (ss : Int)] 5 (0, 0)) := by
    rw [Below.heap_alloc _ _ _ (by rw [e2]; omega)]
    have e1 : (w1.alloc O).heap.size = w1.heap.size + 1 := by simp
    rw [← e1]
    exact heap_alloc_new _ _
  rw [hO] at h2
  refine ⟨_, _, by rw [hO, cell_of_row _ _ _ _ _ _ h2]; rfl, by rw [hO, cell_of_row _ _ _ _ _ _ h2]; rfl, by rw [hO, cell_of_row _ _ _ _ _ _ h2]; rfl, by rw [hO, cell_of_row _ _ _ _ _ _ h2]; rfl, by rw [hO, cell_of_row _ _ _ _ _ _ h2]; rfl, by rw [hO, cell_of_row _ _ _ _ _ _ h2]; rfl, fun _ => ?_, ⟨(fun q => by cases q), Nat.le_refl _⟩, fun _ ad ha => ?_⟩
  · refine ⟨_, rfl, fun j u hu => ?_⟩
    rw [WideShapes.add_plain, Nat.zero_add, cell_of_row _ _ _ _ _ _ h1]
    cases j with
    | zero => simpa [U] using hu
    | succ j => simp at hu
  · cases ha
    exact ⟨by simp, by simp⟩

set_option maxRecDepth 100000 in
set_option maxHeartbeats 2000000 in
theorem dgreet_any (w : World) (hc : DvS M b x S w) (hM : M ≤ 1000000) :
    Calls Tryz.prog 44 #[.pointer (some ⟨b, 0, none⟩)] w fun e w' => ∃ v, e = .returned v ∧ FrsAt (fun k => w.heap.size ≤ k ∧ k < w'.heap.size) (fun k => w.heap.size ≤ k ∧ k < w'.heap.size) w' v (greetL x) ∧ Below w.heap.size w w' := by
  obtain ⟨sb, kv, T, h⟩ := hc
  obtain ⟨c0, c1, c2, c3, c4, c5, c6, c7, c8, c9, c10, c11⟩ := h.cells
  have bd := h.ok.bounds.1
  have hnow := h.ok.now
  have hack := h.ok.acked
  have hse := h.ok.session
  have HE := Hid.intro (fun (W : World) (hW : Below w.heap.size w W) => nhello_any M sb T x.snd W (h.snd.kept (below_chg hW) (fun _ _ => id)))
  have htx : x.snd.tx = x.tx := h.ok.same.1
  rw [htx] at HE
  have hp : x.wait * x.most ≤ 100 * 9 := Nat.mul_le_mul (by omega) (by omega)
  have r1 : IntKind.i64.wrap ((x.now : Int) - (x.acked : Int)) = (x.now : Int) - (x.acked : Int) := IntWalk.i64_in _ (by omega)
  have r2 : IntKind.i64.wrap ((x.wait : Int) * (x.most : Int)) = (x.wait : Int) * (x.most : Int) := by
    have : (x.wait : Int) * (x.most : Int) = ((x.wait * x.most : Nat) : Int) := by simp
    rw [this]
    exact IntWalk.i64_in _ (by omega)
  have r3 : decide ((x.now : Int) - (x.acked : Int) ≤ (x.wait : Int) * (x.most : Int)) = decide (x.now - x.acked ≤ x.wait * x.most) := by
    have : (x.wait : Int) * (x.most : Int) = ((x.wait * x.most : Nat) : Int) := by simp
    rw [this, decide_eq_decide]
    omega
  have r4 : IntKind.u8.wrap (x.session : Int) = (x.session : Int) := by
    unfold IntKind.wrap
    simp [IntKind.bits, IntKind.signed]
    omega
  obtain ⟨G, hG⟩ : ∃ G, G = 16 * helloG x.snd := ⟨_, rfl⟩
  rw [← hG] at HE
  have GF : Hid (greets x = true → greetL x = [⟨x.tx, (G : Int), 0, 0, 3, [x.session]⟩]) := Hid.intro (fun q => by
    unfold greetL
    rw [if_pos q]
    unfold greetF
    rw [hG]
    simp)
  have GN : Hid (greets x = false → greetL x = []) := Hid.intro (fun q => by unfold greetL; rw [q]; rfl)
  have gd : greets x = !(x.was && decide (x.now - x.acked ≤ x.wait * x.most)) := rfl
  generalize greetL x = gl at GF GN ⊢
  generalize greets x = gb at GF GN gd
  generalize decide (x.now - x.acked ≤ x.wait * x.most) = late at r3 gd
  generalize x.was = was at c10 gd
  generalize x.tx = tx at *
  generalize x.session = ss at *
  generalize x.now = nw at *
  generalize x.acked = ak at *
  generalize x.wait = wt at *
  generalize x.most = ms at *
  clear h htx hp hnow hack bd hG c0 c3 c4 c5 c9
  cases was with
  | false =>
    have e := GF.out (by rw [gd]; rfl)
    subst e
    clear GF GN gd
    go_enter Tryz.func44, Tryz.ntmps44
    go_wp2_with fail
    go_big_quiet (fail)
    go_wp2_with fail
    refine (HE.out _ (belowN (Below.refl _ w) _)).mono ?_
    rintro e w1 ⟨a, c, rfl, B0⟩
    have B1 : Hid (Below w.heap.size w w1) := Hid.intro ⟨B0.os, B0.tape, B0.output, B0.size, B0.block⟩
    have BA := Hid.intro ((Below.refl _ w1).alloc (Nat.le_refl _) (.cells #[.int .i64 (tx : Int), .int .i64 (G : Int), .int .i64 0, .int .i64 0, .int .i64 3, .slice a 0 c] 55))
    have k1 := cellD BA.out (cellD B1.out c1)
    clear B0 HE c2 c6 c7 c8 c10 c11 r1 r2 c1
    go_wp2_with fail
    go_ret
    obtain ⟨f1, f2⟩ := greet_made w1 tx G ss _ rfl
    have hs := B1.out.size
    exact ⟨_, rfl, f1.mono (fun k hk => ⟨Nat.le_trans hs hk.1, hk.2⟩) (fun k hk => ⟨Nat.le_trans hs hk.1, hk.2⟩), B1.out.trans (f2.mono hs)⟩
  | true =>
    cases late with
    | true =>
      have e := GN.out (by rw [gd]; rfl)
      subst e
      clear GF GN gd HE
      go_enter Tryz.func44, Tryz.ntmps44
      go_wp2_with fail
      go_big_quiet (fail)
      go_wp2_with fail
      go_ret
      exact ⟨_, rfl, ⟨none, 0, rfl, fun q => absurd q (by simp)⟩, belowN (Below.refl _ w) _⟩
    | false =>
      have e := GF.out (by rw [gd]; rfl)
      subst e
      clear GF GN gd
      go_enter Tryz.func44, Tryz.ntmps44
      go_wp2_with fail
      go_big_quiet (fail)
      go_wp2_with fail
      refine (HE.out _ (belowN (Below.refl _ w) _)).mono ?_
      rintro e w1 ⟨a, c, rfl, B0⟩
      have B1 : Hid (Below w.heap.size w w1) := Hid.intro ⟨B0.os, B0.tape, B0.output, B0.size, B0.block⟩
      have BA := Hid.intro ((Below.refl _ w1).alloc (Nat.le_refl _) (.cells #[.int .i64 (tx : Int), .int .i64 (G : Int), .int .i64 0, .int .i64 0, .int .i64 3, .slice a 0 c] 55))
      have k1 := cellD BA.out (cellD B1.out c1)
      clear B0 HE c2 c6 c7 c8 c10 c11 r1 r2 c1
      go_wp2_with fail
      go_ret
      obtain ⟨f1, f2⟩ := greet_made w1 tx G ss _ rfl
      have hs := B1.out.size
      exact ⟨_, rfl, f1.mono (fun k hk => ⟨Nat.le_trans hs hk.1, hk.2⟩) (fun k hk => ⟨Nat.le_trans hs hk.1, hk.2⟩), B1.out.trans (f2.mono hs)⟩

end Go.Proofs.YthhggjakenalpaaGreatDoor
