/- Several texts, one behind the other: SnK7 SnK8. -/
import Derived.Test.YthhggjakenalpaaGreatDoorMSnB
import Derived.Test.YthhggjakenalpaaGreatDoorMSnA
import Derived.Test.YthhggjakenalpaaGreatDoorBtClone
/- Package sender: shardFrames. -/
namespace Go.Proofs.YthhggjakenalpaaGreatDoor
set_option maxRecDepth 100000
open Go.RowKit
open Bt

theorem made_frames (N : Nat) : (madeCells ZC (N * 6)).toList = frcells (List.replicate N fr0) (fun _ => none) (fun _ => 0) N := by
  apply List.ext_getElem?
  intro j
  have hl := frcells_length (List.replicate N fr0) (fun _ => none) (fun _ => 0) N
  by_cases hj : j < N * 6
  · have hj6 : j = (j / 6) * 6 + j % 6 := by omega
    have e2 : (frcells (List.replicate N fr0) (fun _ => none) (fun _ => 0) N)[j]? = (frcell (List.replicate N fr0) (fun _ => none) (fun _ => 0) (j / 6))[j % 6]? := by
      conv => lhs; rw [hj6]
      exact frcells_at _ _ _ (by omega) (Nat.mod_lt _ (by decide))
    have hg : (List.replicate N fr0).getD (j / 6) fr0 = fr0 := by
      rw [List.getD_eq_getElem?_getD, List.getElem?_replicate]; split <;> rfl
    rw [e2]
    unfold frcell
    rw [hg]
    have e1 : (madeCells ZC (N * 6)).toList[j]? = some (ZC[j % 6]!) := by simp [madeCells, hj, ZC]
    rw [e1]
    have cases6 : j % 6 = 0 ∨ j % 6 = 1 ∨ j % 6 = 2 ∨ j % 6 = 3 ∨ j % 6 = 4 ∨ j % 6 = 5 := by omega
    rcases cases6 with q | q | q | q | q | q <;> rw [q] <;> rfl
  · rw [List.getElem?_eq_none (by simp [madeCells]; omega), List.getElem?_eq_none (by omega)]

/-- The frames of a flight's shards, the first so many made. -/
def sfk (tx g : Nat) (L : List (List Nat)) (k : Nat) : List FrV := (List.range L.length).map (fun r => if r < k then ⟨tx, ((16 * g + r : Nat) : Int), 0, 0, 0, L.getD r []⟩ else fr0)

theorem sfk_length (tx g : Nat) (L : List (List Nat)) (k : Nat) : (sfk tx g L k).length = L.length := by simp [sfk]

theorem sfk_zero (tx g : Nat) (L : List (List Nat)) : sfk tx g L 0 = List.replicate L.length fr0 := by
  apply List.ext_getElem
  · simp [sfk]
  · intro i h1 h2; simp [sfk]

theorem sfk_succ (tx g : Nat) (L : List (List Nat)) (k : Nat) : (sfk tx g L k).set k ⟨tx, ((16 * g + k : Nat) : Int), 0, 0, 0, L.getD k []⟩ = sfk tx g L (k + 1) := by
  apply List.ext_getElem
  · simp [sfk]
  · intro i h1 h2
    have hi : i < L.length := by simpa [sfk] using h2
    rw [List.getElem_set]
    simp only [sfk, List.getElem_map, List.getElem_range]
    by_cases e : k = i
    · subst e
      rw [if_pos rfl, if_pos (by omega)]
    · rw [if_neg e]
      by_cases e2 : i < k
      · rw [if_pos e2, if_pos (by omega)]
      · rw [if_neg e2, if_neg (by omega)]

theorem sfk_at (tx g : Nat) (L : List (List Nat)) (k : Nat) {i : Nat} (hi : i < L.length) : (sfk tx g L k).getD i fr0 = if i < k then ⟨tx, ((16 * g + i : Nat) : Int), 0, 0, 0, L.getD i []⟩ else fr0 := by
  rw [List.getD_eq_getElem?_getD, List.getElem?_eq_getElem (by simpa [sfk] using hi)]
  simp [sfk]

/-- A frame's six cells are written. -/
def putR6 (w : World) (g o : Nat) (tx sq kd : Int) : World :=
  (((((w.setCell ⟨g, o, none⟩ (.int .i64 tx)).setCell ⟨g, o + 1, none⟩ (.int .i64 sq)).setCell ⟨g, o + 2, none⟩ (.int .i64 0)).setCell ⟨g, o + 3, none⟩ (.int .i64 0)).setCell ⟨g, o + 4, none⟩ (.int .i64 kd)).setCell ⟨g, o + 5, none⟩ (.slice none 0 0)

variable {w w' : World} {g c n i : Nat} {fs : List FrV} {ad : Nat → Option Addr} {cp : Nat → Nat}

theorem own_putR6 (h : w.ownsRow 0 55 6 (.slice (some ⟨g, 0, none⟩) n c) n (frcells fs ad cp n)) (hf : i < fs.length) (tx sq kd : Int) :
    (putR6 w g (i * 6) tx sq kd).ownsRow 0 55 6 (.slice (some ⟨g, 0, none⟩) n c) n (frcells (fs.set i ⟨tx, sq, 0, 0, kd, []⟩) (fun k => if k = i then none else ad k) (fun k => if k = i then 0 else cp k) n) := by
  have s0 := (h.stored (i * 6) (.int .i64 tx)).1
  have s1 := (s0.stored (i * 6 + 1) (.int .i64 sq)).1
  have s2 := (s1.stored (i * 6 + 2) (.int .i64 0)).1
  have s3 := (s2.stored (i * 6 + 3) (.int .i64 0)).1
  have s4 := (s3.stored (i * 6 + 4) (.int .i64 kd)).1
  have s5 := (s4.stored (i * 6 + 5) (.slice none 0 0)).1
  have := frcells_set fs ad cp (n := n) ⟨tx, sq, 0, 0, kd, []⟩ none 0 hf
  simp only [List.length_nil] at this
  rw [this] at s5
  exact s5

theorem own_dataR6 {tx sq kd : Int} (h : w.ownsRow 0 55 6 (.slice (some ⟨g, 0, none⟩) n c) n (frcells (fs.set i ⟨tx, sq, 0, 0, kd, []⟩) (fun k => if k = i then none else ad k) (fun k => if k = i then 0 else cp k) n)) (hf : i < fs.length) (a : Option Addr) (ds : List Nat) (cc : Nat) :
    (w.setCell ⟨g, i * 6 + 5, none⟩ (.slice a ds.length cc)).ownsRow 0 55 6 (.slice (some ⟨g, 0, none⟩) n c) n (frcells (fs.set i ⟨tx, sq, 0, 0, kd, ds⟩) (fun k => if k = i then a else ad k) (fun k => if k = i then cc else cp k) n) := by
  have s5 := (h.stored (i * 6 + 5) (.slice a ds.length cc)).1
  have q1 := frcells_set fs ad cp (n := n) ⟨tx, sq, 0, 0, kd, []⟩ none 0 hf
  have q2 := frcells_set fs ad cp (n := n) ⟨tx, sq, 0, 0, kd, ds⟩ a cc hf
  simp only [List.length_nil] at q1 q2
  rw [← q1, List.set_set, q2] at s5
  exact s5

theorem chg_putR6 (w : World) (g o : Nat) (tx sq kd : Int) : Chg (fun k => k = g) w (putR6 w g o tx sq kd) :=
  (((((Chg.setCell (S := fun k => k = g) (p := ⟨g, o, none⟩) (Chg.refl _ w) (fun _ => rfl) _).setCell (p := ⟨g, o + 1, none⟩) (fun _ => rfl) _).setCell (p := ⟨g, o + 2, none⟩) (fun _ => rfl) _).setCell (p := ⟨g, o + 3, none⟩) (fun _ => rfl) _).setCell (p := ⟨g, o + 4, none⟩) (fun _ => rfl) _).setCell (p := ⟨g, o + 5, none⟩) (fun _ => rfl) _

theorem own_cellR {e : TypeId} {s g n c : Nat} {xs : List Value} (h : w.ownsRow 0 e s (.slice (some ⟨g, 0, none⟩) n c) n xs) (j : Nat) (hj : j < n * s) : ∃ u, w.cell? ⟨g, j, none⟩ = some u := by
  have hl : xs.length = n * s := h.1
  exact ⟨_, by rw [h.cellAt j hj, List.getElem?_eq_getElem (by omega)]⟩

/-- Under way: so many frames are made. -/
structure ShA (w wr : World) (fb tx gr : Nat) (L : List (List Nat)) (ad : Nat → Option Addr) (cp : Nat → Nat) (k : Nat) : Prop where
  own : wr.ownsRow 0 55 6 (.slice (some ⟨fb, 0, none⟩) L.length L.length) L.length (frcells (sfk tx gr L k) ad cp L.length)
  dat : DatsAt (fb + 1) wr (sfk tx gr L k) ad cp
  bel : Below w.heap.size w wr

theorem below_chgR {B : Nat} {w w' wr : World} {g : Nat} (h : Below B w wr) (hc : Chg (fun k => k = g) wr w') (hg : B ≤ g) (hB : B ≤ wr.heap.size) : Below B w w' :=
  h.trans (hc.below hB (fun k q => by rw [q]; exact hg))

theorem ShA.step {wr w1 w2 : World} {fb tx gr k : Nat} {L : List (List Nat)} (h : ShA w wr fb tx gr L ad cp k) (hk : k < L.length) (hfb : w.heap.size ≤ fb) (B1 : Below wr.heap.size wr w1)
    {a : Option Addr} {cc : Nat} (B2 : Below (putR6 w1 fb (k * 6) (tx : Int) ((16 * gr + k : Nat) : Int) 0).heap.size (putR6 w1 fb (k * 6) (tx : Int) ((16 * gr + k : Nat) : Int) 0) w2)
    (hr : Reads w2 a (L.getD k [])) (hm : Room a cc (L.getD k []).length) (ha : ∀ z, a = some z → (putR6 w1 fb (k * 6) (tx : Int) ((16 * gr + k : Nat) : Int) 0).heap.size ≤ z.block) :
    ShA w (w2.setCell ⟨fb, k * 6 + 5, none⟩ (.slice a (L.getD k []).length cc)) fb tx gr L (fun j => if j = k then a else ad j) (fun j => if j = k then cc else cp j) (k + 1) := by
  have hkl : k < (sfk tx gr L k).length := by rw [sfk_length]; exact hk
  have hfl := (World.ownsRow.lt h.own fb rfl).2
  have o1 := ownsRow_keep h.own fun q hq => B1.block q (World.ownsRow.lt h.own q hq).2
  have o2 := own_putR6 o1 hkl (tx : Int) ((16 * gr + k : Nat) : Int) 0
  have o3 := ownsRow_keep o2 fun q hq => B2.block q (World.ownsRow.lt o2 q hq).2
  have o4 := own_dataR6 o3 hkl a (L.getD k []) cc
  rw [sfk_succ tx gr L k] at o4
  have C2 := chg_putR6 w1 fb (k * 6) (tx : Int) ((16 * gr + k : Nat) : Int) 0
  have CW : Chg (fun q => q = fb) wr w2 := ((below_chg B1).mono (fun _ q _ => q.elim)).trans (C2.trans (below_chg B2) (fun _ q _ => q.elim)) (fun _ q _ => q)
  have C4 : Chg (fun q => q = fb) w2 (w2.setCell ⟨fb, k * 6 + 5, none⟩ (.slice a (L.getD k []).length cc)) := Chg.setCell (S := fun q => q = fb) (Chg.refl _ w2) (fun _ => rfl) _
  have CA := CW.trans C4 (fun _ q _ => q)
  have s1 := B1.size
  have s2 := C2.size
  refine ⟨o4, fun i hi => ?_, below_chgR h.bel CA hfb h.bel.size⟩
  rw [sfk_length] at hi
  rw [sfk_at _ _ _ _ hi]
  by_cases e : i = k
  · subst e
    rw [if_pos (show i < i + 1 by omega)]
    simp only [if_true]
    exact ⟨reads_keptN hr C4 (fun _ z hz q => by have := ha z hz; omega), hm, fun _ z hz => by have := ha z hz; omega⟩
  · simp only [if_neg e]
    have hd := h.dat i (by rw [sfk_length]; exact hi)
    rw [sfk_at _ _ _ _ hi] at hd
    by_cases e2 : i < k
    · rw [if_pos e2] at hd
      rw [if_pos (show i < k + 1 by omega)]
      exact ⟨reads_keptN hd.1 CA (fun q z hz q2 => by have := hd.2.2 q z hz; omega), hd.2⟩
    · rw [if_neg e2] at hd
      rw [if_neg (show ¬ i < k + 1 by omega)]
      exact ⟨reads_keptN hd.1 CA (fun q z hz q2 => by have := hd.2.2 q z hz; omega), hd.2⟩

end Go.Proofs.YthhggjakenalpaaGreatDoor

/- Package sender: shardFrames, the walk. -/
namespace Go.Proofs.YthhggjakenalpaaGreatDoor
set_option maxRecDepth 100000
open Go.RowKit
open Bt

theorem cellQ {w W : World} {a : Addr} {v : Value} (h : Below w.heap.size w W) (hc : w.cell? a = some v) : W.cell? a = some v := (h.cell (cell_lt hc)).trans hc

/-- All frames are made. -/
def ShD (w w' : World) (fb tx gr : Nat) (L : List (List Nat)) : Prop := ∃ ad cp, ShA w w' fb tx gr L ad cp L.length

set_option maxRecDepth 100000 in
set_option maxHeartbeats 2000000 in
theorem shardFrames_any (b tx g o gr : Nat) (S D : Nat → Prop) (w : World) (lvv : Value) (L : List (List Nat)) (hN1 : 1 ≤ L.length) (hN : L.length ≤ 10) (hsz : ∀ r, r < L.length → 1 ≤ (L.getD r []).length ∧ (L.getD r []).length ≤ 24)
    (c0 : w.cell? ⟨b, 0, none⟩ = some (.int .i64 (tx : Int))) (cg : w.cell? ⟨g, o, none⟩ = some (.int .i64 (gr : Int))) (hgr : gr < 256) (cl : w.cell? ⟨g, o + 3, none⟩ = some lvv) (hR : RowsIn S D w lvv L) :
    Calls Tryz.prog 88 #[.pointer (some ⟨b, 0, none⟩), .pointer (some ⟨g, o, none⟩)] w fun e w' => ∃ fb, e = .returned (.slice (some ⟨fb, 0, none⟩) L.length L.length) ∧ w.heap.size ≤ fb ∧ ShD w w' fb tx gr L := by
  obtain ⟨mb, off, mc, A, C, rfl, hm, hr⟩ := hR
  obtain ⟨iF, hiF, hzF0, hzF1, hzF2⟩ := info_parts info_frm
  obtain ⟨w1, hmk, hown, hgrow⟩ := run_makeSlice_full (P := Tryz.prog) w 0 81 55 iF (.agg ZC) 6 Tryz.underlying81 hiF hzF0 hzF1 .i64 .i64 L.length (by omega) (by rw [hzF2]; omega) (by unfold maxLen; omega) (Nat.zero_le _)
  have B1 : Below w.heap.size w w1 := (Below.refl _ w).grown hgrow (Nat.le_refl _) (fun k e => by cases e)
  have A1 : ShA w w1 w.heap.size tx gr L (fun _ => none) (fun _ => 0) 0 := by
    refine ⟨?_, fun i hi => ?_, B1⟩
    · rw [sfk_zero, ← made_frames]; exact hown
    · rw [sfk_length] at hi
      rw [sfk_at _ _ _ _ hi, if_neg (Nat.not_lt_zero _)]
      exact ⟨reads_empty, ⟨fun _ => rfl, Nat.le_refl _⟩, fun q => by simp [fr0] at q⟩
  have HR := Hid.intro hr
  have HSZ := Hid.intro hsz
  have C0 := Hid.intro c0
  have CG := Hid.intro cg
  have d3 := cellQ B1 cl
  have HA1 := Hid.intro A1
  obtain ⟨fb, hfb⟩ : ∃ fb, fb = w.heap.size := ⟨_, rfl⟩
  rw [← hfb] at HA1 hmk
  have HFB := Hid.intro hfb
  obtain ⟨N, hNN⟩ : ∃ N, N = L.length := ⟨_, rfl⟩
  have HNN := Hid.intro hNN
  rw [← hNN] at hmk cl d3 hN hN1 ⊢
  clear hr hsz c0 cg A1 hown hgrow B1 hfb hNN
  go_enter Tryz.func88, Tryz.ntmps88
  go_wp2_with fail
  clear hmk d3 cl
  go_loopw [19] (fun i wr => ∃ (k : Nat) (ad : Nat → Option Addr) (cp : Nat → Nat), k ≤ N ∧ i = .int .i64 k ∧ ShA w wr fb tx gr L ad cp k) (fun i _ => N - (intOf i).toNat)
  case atStart => exact ⟨0, _, _, Nat.zero_le _, rfl, HA1.out⟩
  case round =>
    obtain ⟨k, ad, cp, hk, rfl, hA⟩ := hrel
    have HA := Hid.intro hA
    by_cases hlt : k < N
    · have k0 : (0 : Int) ≤ (k : Int) := by omega
      have k1 : (k : Int) < (N : Int) := by omega
      have hkL : k < L.length := by rw [← HNN.out]; exact hlt
      have r1 := HR.out k hkL
      have rk := cellQ hA.bel r1.1
      have e0 := cellQ hA.bel C0.out
      have eg := cellQ hA.bel CG.out
      have FA := Hid.intro (frameAt_any b tx gr k 0 hgr (by omega) wr e0)
      obtain ⟨LK, hLK⟩ : ∃ LK, LK = (L.getD k []).length := ⟨_, rfl⟩
      rw [← hLK] at rk
      have HLK := Hid.intro hLK
      clear hA r1 hLK
      go_wp2_with fail
      refine FA.out.mono ?_
      rintro e w2 ⟨rfl, B2⟩
      have o2 := ownsRow_keep HA.out.own fun q hq => B2.block q (World.ownsRow.lt HA.out.own q hq).2
      have O2 := Hid.intro o2
      have B2H := Hid.intro B2
      obtain ⟨u0, s0⟩ := own_cellR o2 (k * 6) (by omega)
      obtain ⟨u1, s1⟩ := own_cellR o2 (k * 6 + 1) (by omega)
      obtain ⟨u2, s2⟩ := own_cellR o2 (k * 6 + 2) (by omega)
      obtain ⟨u3, s3⟩ := own_cellR o2 (k * 6 + 3) (by omega)
      obtain ⟨u4, s4⟩ := own_cellR o2 (k * 6 + 4) (by omega)
      obtain ⟨u5, s5⟩ := own_cellR o2 (k * 6 + 5) (by omega)
      have f0 := o2.frozenAt (k * 6)
      have f1 := o2.frozenAt (k * 6 + 1)
      have f2 := o2.frozenAt (k * 6 + 2)
      have f3 := o2.frozenAt (k * 6 + 3)
      have f4 := o2.frozenAt (k * 6 + 4)
      have f5 := o2.frozenAt (k * 6 + 5)
      have kl : k < (sfk tx gr L k).length := by rw [sfk_length]; exact hkL
      have O3 := Hid.intro (own_putR6 o2 kl (tx : Int) ((16 * gr + k : Nat) : Int) 0)
      have C3 := chg_putR6 w2 fb (k * 6) (tx : Int) ((16 * gr + k : Nat) : Int) 0
      have hfw : w.heap.size ≤ fb := by rw [HFB.out]; exact Nat.le_refl _
      have BX := Hid.intro (below_chgR (HA.out.bel.trans (B2.mono HA.out.bel.size)) C3 hfw (Nat.le_trans HA.out.bel.size B2.size))
      have STP := Hid.intro (fun (w4 : World) (a : Option Addr) (cc : Nat) B4 hr4 hm4 ha4 => HA.out.step (w1 := w2) (w2 := w4) (a := a) (cc := cc) hkL hfw B2H.out B4 hr4 hm4 ha4)
      obtain ⟨bb, bo, hAk, hcc⟩ := reads_at (HR.out k hkL).2.1 (by have := HSZ.out k hkL; omega)
      have RDK := Hid.intro (HR.out k hkL).2.1
      have hl24 : (L.getD k []).length ≤ 24 := (HSZ.out k hkL).2
      have CLN := Hid.intro (fun (W : World) (hB : Below w.heap.size w W) => bcl_clone bb bo (C k) (L.getD k []) (by omega) W (by rw [← hAk]; exact RDK.out.kept (below_chg hB) (fun _ _ => id)))
      rw [← HLK.out] at CLN STP
      rw [hAk]
      obtain ⟨sq, hsq⟩ : ∃ sq : Int, sq = ((16 * gr + k : Nat) : Int) := ⟨_, rfl⟩
      rw [← hsq] at O3 BX STP ⊢
      clear o2 B2 FA e0 eg C3 kl hsq hAk hcc hl24 rk
      unfold putR6 at O3 BX STP
      go_wp2_with fail
      refine (CLN.out _ BX.out).mono ?_
      rintro e w4 ⟨ao, cc, rfl, hr4, hm4, ha4, B4⟩
      have o4 := ownsRow_keep O3.out fun q hq => B4.block q (World.ownsRow.lt O3.out q hq).2
      obtain ⟨v5, t5⟩ := own_cellR o4 (k * 6 + 5) (by omega)
      have h5 := o4.frozenAt (k * 6 + 5)
      have FIN := Hid.intro (STP.out w4 ao cc B4 hr4 hm4 ha4)
      clear o4 hr4 hm4 ha4 B4 CLN STP O3 BX s0 s1 s2 s3 s4 s5 f0 f1 f2 f3 f4 f5
      go_wp2
      go_roundw
      case rel => exact ⟨k + 1, _, _, by omega, by go_num, FIN.out⟩
      case measure => simp [intOf]; omega
    · obtain rfl : k = N := by omega
      have k1 : ¬ (k : Int) < (k : Int) := by omega
      have FIN : Hid (ShD w wr fb tx gr L) := ⟨ad, cp, by rw [← HNN.out]; exact hA⟩
      clear hA HA
      go_wp2
      go_ret
      exact ⟨fb, rfl, by rw [HFB.out]; exact Nat.le_refl _, FIN.out⟩

end Go.Proofs.YthhggjakenalpaaGreatDoor
