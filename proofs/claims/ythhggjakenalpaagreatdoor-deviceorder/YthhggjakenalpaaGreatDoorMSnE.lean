/- Several texts, one behind the other: SnKf SnKg SnKe SnKh SnKi. -/
import Derived.Test.YthhggjakenalpaaGreatDoorMSnB
import Derived.Test.YthhggjakenalpaaGreatDoorMPlain
import Derived.Test.YthhggjakenalpaaGreatDoorMSq
import Derived.Deep.RegionLaw
/- Package sender: letGo: what becomes of a sender, flight by flight. -/
namespace Go.Proofs.YthhggjakenalpaaGreatDoor
set_option maxRecDepth 100000
open Go.RowKit
open Bt

/-- The flights that stay, as they are then. -/
def keptP (P : Nat → Flt) (I : List Nat) (k : Nat) : Flt := P (I.getD k 0)

def keptV (lv : Nat → Value) (I : List Nat) (k : Nat) : Value := lv (I.getD k 0)

theorem kept_more (P : Nat → Flt) (lv : Nat → Value) (I : List Nat) (t : Nat) :
    fcells (keptP P (I ++ [t])) (keptV lv (I ++ [t])) (I.length + 1) = fcells (keptP P I) (keptV lv I) I.length ++ [.int .i64 ((P t).group : Int), .int .i64 ((P t).sent : Int), .int .i64 (P t).last, lv t, .bool (P t).there, .bool (P t).gone] := by
  have e1 : ∀ i, i < I.length → (I ++ [t]).getD i 0 = I.getD i 0 := fun i hi => by
    rw [List.getD_eq_getElem?_getD, List.getElem?_append_left hi, ← List.getD_eq_getElem?_getD]
  have e2 : (I ++ [t]).getD I.length 0 = t := by
    rw [List.getD_eq_getElem?_getD, List.getElem?_append_right (Nat.le_refl _)]; simp
  rw [fcells, fcells_congr (P' := keptP P I) (lv' := keptV lv I) (fun i hi => by unfold keptP keptV; rw [e1 i hi]; exact ⟨rfl, rfl⟩)]
  congr 1
  unfold fcell keptP keptV
  rw [e2]

variable {M : Nat} {S : Nat → Prop} {w wr w' : World} {b n : Nat} {v : Value} {P : Nat → Flt} {lv : Nat → Value} {x : Snd} {base t : Nat} {lw : Value}

/-- Behind the first so many flights. -/
structure LgA (w wr : World) (b : Nat) (v : Value) (P : Nat → Flt) (lv : Nat → Value) (x : Snd) (base t : Nat) (lw : Value) : Prop where
  head : wr.heap[b]? = some (.cells #[.int .i64 (x.tx : Int), .int .i64 (x.next : Int), .int .i64 ((x.lost + lostI base P t : Nat) : Int), .int .i64 (x.K : Int), .int .i64 (x.N : Int), .int .i64 (x.S : Int), .int .i64 (x.wait : Int), .int .i64 (x.most : Int), v] 118 (0, 0))
  chg : Chg (fun k => k = b) w wr
  own : wr.ownsRow 0 129 6 lw (keepI base P t).length (fcells (keptP P (keepI base P t)) (keptV lv (keepI base P t)) (keepI base P t).length)
  ge : ∀ k, lw.ownBlock = some k → w.heap.size ≤ k
  zero : (keepI base P t).length = 0 → lw = .slice none 0 0

theorem LgA.start (h : NS M S w b v n P lv x) (hb : Below w.heap.size w wr) : LgA w wr b v P lv x base 0 (.slice none 0 0) :=
  ⟨by have := (hb.block b (h.lt b h.inB)).trans h.head; exact this, (below_chg hb).mono (fun _ q _ => q.elim), World.ownsRow_nil _ _ _ _, fun k h => by simp [Value.ownBlock] at h, fun _ => rfl⟩

theorem LgA.below (h : LgA w wr b v P lv x base t lw) (hb : Below wr.heap.size wr w') (hbw : b < w.heap.size) : LgA w w' b v P lv x base t lw :=
  ⟨(hb.block b (Nat.lt_of_lt_of_le hbw h.chg.size)).trans h.head, h.chg.trans (below_chg hb) (fun _ q _ => q.elim), ownsRow_keep h.own fun k hk => hb.block k (World.ownsRow.lt h.own k hk).2, h.ge, h.zero⟩

theorem LgA.cells (h : LgA w wr b v P lv x base t lw) : wr.cell? ⟨b, 2, none⟩ = some (.int .i64 ((x.lost + lostI base P t : Nat) : Int)) ∧ wr.cell? ⟨b, 8, none⟩ = some v ∧ wr.frozen? ⟨b, 2, none⟩ = false ∧ wr.frozen? ⟨b, 8, none⟩ = false :=
  ⟨by rw [cell_of_row wr _ 2 _ _ _ h.head]; rfl, by rw [cell_of_row wr _ 8 _ _ _ h.head]; rfl, frozen_of_row wr b 2 _ _ h.head, frozen_of_row wr b 8 _ _ h.head⟩

theorem LgA.flight {g c : Nat} (h : NS M S w b (.slice (some ⟨g, 0, none⟩) n c) n P lv x) (hA : LgA w wr b (.slice (some ⟨g, 0, none⟩) n c) P lv x base t lw) {i : Nat} (hi : i < n) : wr.cell? ⟨g, i * 6, none⟩ = some (.int .i64 ((P i).group : Int)) ∧ wr.cell? ⟨g, i * 6 + 1, none⟩ = some (.int .i64 ((P i).sent : Int)) ∧ wr.cell? ⟨g, i * 6 + 2, none⟩ = some (.int .i64 (P i).last) ∧ wr.cell? ⟨g, i * 6 + 3, none⟩ = some (lv i) ∧ wr.cell? ⟨g, i * 6 + 4, none⟩ = some (.bool (P i).there) ∧ wr.cell? ⟨g, i * 6 + 5, none⟩ = some (.bool (P i).gone) := by
  obtain ⟨q0, q1, q2, q3, q4, q5⟩ := h.flight hi
  have hn : g ≠ b := (h.inV g rfl).2
  exact ⟨cell_chg hA.chg q0 hn, cell_chg hA.chg q1 hn, cell_chg hA.chg q2 hn, cell_chg hA.chg q3 hn, cell_chg hA.chg q4 hn, cell_chg hA.chg q5 hn⟩

/-- A flight that is behind, and wasn't given up. -/
theorem LgA.drop (h : LgA w wr b v P lv x base t lw) (hb : behindA base (P t).group = true) (hg : (P t).gone = false) : LgA w wr b v P lv x base (t + 1) lw := by
  have e1 : keepI base P (t + 1) = keepI base P t := by rw [keepI_succ, if_pos hb, List.append_nil]
  have e2 : lostI base P (t + 1) = lostI base P t := by rw [lostI_succ, hb, hg]; rfl
  exact ⟨by rw [e2]; exact h.head, h.chg, by rw [e1]; exact h.own, h.ge, by rw [e1]; exact h.zero⟩

/-- A flight that is behind, and was given up. -/
theorem LgA.lose (h : LgA w wr b v P lv x base t lw) (hbw : b < w.heap.size) (hb : behindA base (P t).group = true) (hg : (P t).gone = true) {u : Int} (hu : u = ((x.lost + lostI base P t : Nat) : Int) + 1) : LgA w (wr.setCell ⟨b, 2, none⟩ (.int .i64 u)) b v P lv x base (t + 1) lw := by
  have e1 : keepI base P (t + 1) = keepI base P t := by rw [keepI_succ, if_pos hb, List.append_nil]
  have e2 : lostI base P (t + 1) = lostI base P t + 1 := by rw [lostI_succ, hb, hg]; rfl
  have hd := heap_setCell_same wr b 2 _ _ (.int .i64 u) h.head
  have C : Chg (fun k => k = b) wr (wr.setCell ⟨b, 2, none⟩ (.int .i64 u)) := Chg.setCell (S := fun k => k = b) (Chg.refl _ wr) (fun _ => rfl) _
  have hu' : u = ((x.lost + (lostI base P t + 1) : Nat) : Int) := by rw [hu]; omega
  refine ⟨by rw [hd, e2, hu']; rfl, h.chg.trans C (fun _ q _ => q), ?_, h.ge, by rw [e1]; exact h.zero⟩
  rw [e1]
  exact ownsRow_keep h.own fun k hk => C.block k (World.ownsRow.lt h.own k hk).2 (fun q => by have := h.ge k hk; omega)

/-- A flight that stays. -/
theorem LgA.stay (h : LgA w wr b v P lv x base t lw) (hbw : b < w.heap.size) (hb : behindA base (P t).group = false) {W w7 : World} {g7 c7 : Nat} (hW : Below wr.heap.size wr W)
    (hown : w7.ownsRow 0 129 6 (.slice (some ⟨g7, 0, none⟩) ((keepI base P t).length + 1) c7) ((keepI base P t).length + 1) (fcells (keptP P (keepI base P t)) (keptV lv (keepI base P t)) (keepI base P t).length ++ [.int .i64 ((P t).group : Int), .int .i64 ((P t).sent : Int), .int .i64 (P t).last, lv t, .bool (P t).there, .bool (P t).gone]))
    (hgrow : W.grownBy w7 lw.ownBlock) (hat : lw.ownBlock = some g7 ∨ wr.heap.size ≤ g7) : LgA w w7 b v P lv x base (t + 1) (.slice (some ⟨g7, 0, none⟩) ((keepI base P t).length + 1) c7) := by
  have e1 : keepI base P (t + 1) = keepI base P t ++ [t] := by rw [keepI_succ, if_neg (by rw [hb]; decide)]
  have e2 : lostI base P (t + 1) = lostI base P t := by rw [lostI_succ, hb]; rfl
  have hl : (keepI base P (t + 1)).length = (keepI base P t).length + 1 := by rw [e1]; simp
  have C7 : Chg (fun q => lw.ownBlock = some q) wr w7 := ((below_chg hW).mono (fun _ q _ => q.elim)).grown hgrow (fun q hq _ => hq)
  have hsz := h.chg.size
  refine ⟨?_, h.chg.trans C7 (fun k q hk => by have := h.ge k q; omega), ?_, fun k hk => ?_, fun q => by omega⟩
  · rw [e2]
    exact (C7.block b (by omega) (fun q => by have := h.ge b q; omega)).trans h.head
  · rw [hl, e1, kept_more]
    exact hown
  · obtain rfl : g7 = k := by simpa [Value.ownBlock] using hk
    rcases hat with q | q
    · exact h.ge _ q
    · omega

/-- Those that are behind went. -/
theorem NS.letGone (h : NS M S w b v n P lv x) (hA : LgA w wr b v P lv x base n lw) : LeftN (M + 4) S w (wr.setCell ⟨b, 8, none⟩ lw) b (letC x base) := by
  have hbw := h.lt b h.inB
  have hsz := hA.chg.size
  have hd := heap_setCell_same wr b 8 _ _ lw hA.head
  have C : Chg (fun k => k = b) wr (wr.setCell ⟨b, 8, none⟩ lw) := Chg.setCell (S := fun k => k = b) (Chg.refl _ wr) (fun _ => rfl) _
  have CW := hA.chg.trans C (fun _ q _ => q)
  have hfl : (letC x base).fl = (keepI base P n).map P := by
    show x.fl.filter (fun f => !behindA base f.group) = _
    rw [h.fl, filter_map_range]
    rfl
  have hlo : (letC x base).lost = x.lost + lostI base P n := by
    show x.lost + (x.fl.filter (fun f => behindA base f.group && f.gone)).length = _
    rw [h.fl, filter_map_range, List.length_map]
    rfl
  have hlw : ∀ k, lw.ownBlock = some k → w.heap.size ≤ k ∧ k < wr.heap.size := fun k hk => ⟨hA.ge k hk, (World.ownsRow.lt hA.own k hk).2⟩
  refine ⟨fun k => S k ∨ (w.heap.size ≤ k ∧ k < wr.heap.size), ⟨lw, (keepI base P n).length, keptP P (keepI base P n), keptV lv (keepI base P n), ?_⟩, CW.mono (fun k q _ => by rw [q]; exact h.inB), fun k hk => ?_⟩
  · refine ⟨?_, ?_, ?_, fun i hi => ?_, .inl h.inB, fun k hk => ⟨.inr (hlw k hk), by have := hlw k hk; omega⟩, hA.zero, fun k hk => ?_, letC_ok h.ok base⟩
    · rw [hd, hlo]; rfl
    · rw [hfl, map_getD]; rfl
    · exact ownsRow_keep hA.own fun k hk => C.block k (World.ownsRow.lt hA.own k hk).2 (fun q => by have := hlw k hk; omega)
    · have hmem : (keepI base P n).getD i 0 ∈ keepI base P n := by
        rw [List.getD_eq_getElem?_getD, List.getElem?_eq_getElem hi]
        exact List.getElem_mem hi
      have hlt := keepI_lt hmem
      have hr := (h.rows _ hlt).kept CW (fun k _ hd' q => hd' (.inl q))
      show RowsIn _ _ _ _ (P ((keepI base P n).getD i 0)).rows
      refine hr.mono (fun k hk hd' => ⟨.inl hk, fun q => ?_⟩)
      rcases q with q | q
      · exact hd' (.inl q)
      · have := hlw k q
        have := h.lt k hk
        omega
    · have := C.size
      rcases hk with q | q
      · have := h.lt k q; omega
      · omega
  · rcases hk with q | q
    · exact .inl q
    · exact .inr q.1

end Go.Proofs.YthhggjakenalpaaGreatDoor

/- Package sender: letGo, the walk. -/
namespace Go.Proofs.YthhggjakenalpaaGreatDoor
set_option maxRecDepth 100000
open Go.RowKit
open Bt

theorem cellG {w W : World} {a : Addr} {v : Value} (h : Below w.heap.size w W) (hc : w.cell? a = some v) : W.cell? a = some v := (h.cell (cell_lt hc)).trans hc

set_option maxRecDepth 100000 in
set_option maxHeartbeats 4000000 in
theorem letGo_any (M b base : Nat) (S : Nat → Prop) (x : Snd) (w : World) (hM : M ≤ 1000000) (hc : Sndr M S w b x) :
    Calls Tryz.prog 91 #[.pointer (some ⟨b, 0, none⟩), .int .i64 (base : Int)] w fun e w' => e = .returned (.tuple #[]) ∧ LeftN (M + 4) S w w' b (letC x base) := by
  obtain ⟨v, n, P, lv, h⟩ := hc
  have HH := Hid.intro h
  have hbw := h.lt b h.inB
  have hn4 := h.ok.few
  rw [h.len] at hn4
  have hlo := h.ok.lost
  obtain ⟨vo, vc, rfl, hvg⟩ := h.form
  have c8 := h.cells.2.2.2.2.2.2.2.2
  have SA := Hid.intro (LgA.start (base := base) h (Below.refl _ w))
  have BH := Hid.intro (fun (g : Int) (w : World) => sbehind_any (base : Int) g w)
  obtain ⟨iF, hiF, hzF0, hzF1, hzF2⟩ := info_parts info_nflt
  clear h
  go_enter Tryz.func91, Tryz.ntmps91
  go_wp2_with fail
  clear c8
  go_loopw [4, 12] (fun kv i wr => ∃ t : Nat, t ≤ n ∧ i = .int .i64 t ∧ LgA w wr b (.slice vo n vc) P lv x base t kv) (fun _ i _ => n - (intOf i).toNat)
  case atStart => exact ⟨0, Nat.zero_le _, rfl, SA.out⟩
  case round =>
    clear SA
    obtain ⟨t, ht, rfl, hA⟩ := hrel
    obtain ⟨la, lc, rfl, _⟩ := ownsRow_form hA.own
    have hkl := keepI_le base P t
    have hll := lostI_le base P t
    have HA := Hid.intro hA
    by_cases hlt : t < n
    · obtain ⟨g, rfl⟩ : ∃ g, vo = some ⟨g, 0, none⟩ := by
        rcases hvg with q | q
        · omega
        · exact q
      have k0 : (0 : Int) ≤ (t : Int) := by omega
      have k1 : (t : Int) < (n : Int) := by omega
      obtain ⟨q0, q1, q2, q3, q4, q5⟩ := LgA.flight HH.out hA hlt
      obtain ⟨mb, mo, mc, AA, CC, hlv, _⟩ := HH.out.rows t hlt
      obtain ⟨NN, hNN⟩ : ∃ NN, NN = (P t).rows.length := ⟨_, rfl⟩
      rw [← hNN] at hlv
      rw [hlv] at q3
      have HLV := Hid.intro hlv
      have hse := HH.out.ok.sent _ (HH.out.mem hlt)
      have hgr := (HH.out.ofOk hlt).group
      obtain ⟨gr, hgre⟩ : ∃ gr, gr = (P t).group := ⟨_, rfl⟩
      obtain ⟨sn, hsne⟩ : ∃ sn, sn = (P t).sent := ⟨_, rfl⟩
      obtain ⟨la2, hlae⟩ : ∃ la2, la2 = (P t).last := ⟨_, rfl⟩
      obtain ⟨th, hthe⟩ : ∃ th, th = (P t).there := ⟨_, rfl⟩
      obtain ⟨gn, hgne⟩ : ∃ gn, gn = (P t).gone := ⟨_, rfl⟩
      have HPT := Hid.intro (show gr = (P t).group ∧ sn = (P t).sent ∧ la2 = (P t).last ∧ th = (P t).there ∧ gn = (P t).gone from ⟨hgre, hsne, hlae, hthe, hgne⟩)
      rw [← hgre] at q0 hgr
      rw [← hsne] at q1 hse
      rw [← hlae] at q2
      rw [← hthe] at q4
      rw [← hgne] at q5
      obtain ⟨m, hm⟩ : ∃ m, m = (keepI base P t).length := ⟨_, rfl⟩
      have HMM := Hid.intro hm
      rw [← hm] at hkl ⊢
      obtain ⟨bh, hbh⟩ : ∃ bh, bh = behindA (base : Int) (gr : Int) := ⟨_, rfl⟩
      have BHG := Hid.intro (fun w => BH.out (gr : Int) w)
      rw [← hbh] at BHG
      have HBH : Hid (behindA (base : Int) ((P t).group : Int) = bh) := by rw [← HPT.out.1]; exact hbh.symm
      have BA := Hid.intro ((Below.refl _ wr).alloc (Nat.le_refl _) (.cells #[.int .i64 (gr : Int), .int .i64 (sn : Int), .int .i64 la2, .slice (some ⟨mb, mo, none⟩) NN mc, .bool th, .bool gn] 129))
      have ga := heap_alloc_new wr (.cells #[.int .i64 (gr : Int), .int .i64 (sn : Int), .int .i64 la2, .slice (some ⟨mb, mo, none⟩) NN mc, .bool th, .bool gn] 129)
      have AOB := Hid.intro ga
      have hsz := World.size_alloc wr (.cells #[.int .i64 (gr : Int), .int .i64 (sn : Int), .int .i64 la2, .slice (some ⟨mb, mo, none⟩) NN mc, .bool th, .bool gn] 129)
      clear hA hlv hNN hgre hsne hlae hthe hgne hm hbh ga
      go_wp2_with fail
      refine (BHG.out _).mono ?_
      rintro e w2 ⟨rfl, B2⟩
      have hx2 := Hid.intro ((B2.block wr.heap.size (by omega)).trans AOB.out)
      have B2H := Hid.intro (BA.out.trans (B2.mono (by omega)))
      clear B2 BHG AOB BA q0 q1 q2 q3 q4 q5 hsz BH
      have x0 : w2.cell? ⟨wr.heap.size, 0, none⟩ = some (.int .i64 (gr : Int)) := by rw [cell_of_row _ _ 0 _ _ _ hx2.out]; rfl
      have x1 : w2.cell? ⟨wr.heap.size, 1, none⟩ = some (.int .i64 (sn : Int)) := by rw [cell_of_row _ _ 1 _ _ _ hx2.out]; rfl
      have x2 : w2.cell? ⟨wr.heap.size, 2, none⟩ = some (.int .i64 la2) := by rw [cell_of_row _ _ 2 _ _ _ hx2.out]; rfl
      have x3 : w2.cell? ⟨wr.heap.size, 3, none⟩ = some (.slice (some ⟨mb, mo, none⟩) NN mc) := by rw [cell_of_row _ _ 3 _ _ _ hx2.out]; rfl
      have x4 : w2.cell? ⟨wr.heap.size, 4, none⟩ = some (.bool th) := by rw [cell_of_row _ _ 4 _ _ _ hx2.out]; rfl
      have x5 : w2.cell? ⟨wr.heap.size, 5, none⟩ = some (.bool gn) := by rw [cell_of_row _ _ 5 _ _ _ hx2.out]; rfl
      cases bh with
      | true =>
        cases gn with
        | true =>
          have hA2 := HA.out.below B2H.out hbw
          obtain ⟨k2, k8, f2, f8⟩ := hA2.cells
          have FIN := Hid.intro (fun (u : Int) hu => hA2.lose hbw HBH.out HPT.out.2.2.2.2.symm (u := u) hu)
          obtain ⟨lo, hlo2⟩ : ∃ lo : Nat, lo = x.lost + lostI base P t := ⟨_, rfl⟩
          rw [← hlo2] at k2 FIN
          have hlb : lo ≤ 2000000 := by omega
          rw [HMM.out]
          clear hA2 k8 f8 hlo2
          go_wp2
          go_roundw
          case rel => exact ⟨t + 1, by omega, by go_num, FIN.out _ (by go_num)⟩
          case measure => simp [intOf]; omega
        | false =>
          have FIN := Hid.intro ((HA.out.below B2H.out hbw).drop HBH.out HPT.out.2.2.2.2.symm)
          rw [HMM.out]
          go_wp2
          go_roundw
          case rel => exact ⟨t + 1, by omega, by go_num, FIN.out⟩
          case measure => simp [intOf]; omega
      | false =>
        have BL : Below wr.heap.size wr (w2.alloc (.cells #[.int .i64 (gr : Int), .int .i64 (sn : Int), .int .i64 la2, .slice (some ⟨mb, mo, none⟩) NN mc, .bool th, .bool gn] 129)) := B2H.out.alloc B2H.out.size _
        have OW : Hid ((w2.alloc (.cells #[.int .i64 (gr : Int), .int .i64 (sn : Int), .int .i64 la2, .slice (some ⟨mb, mo, none⟩) NN mc, .bool th, .bool gn] 129)).ownsRow 0 129 6 (.slice la m lc) m (fcells (keptP P (keepI base P t)) (keptV lv (keepI base P t)) m)) := by
          rw [HMM.out]
          have := HA.out.own
          exact ownsRow_keep this fun k hk => BL.block k (World.ownsRow.lt this k hk).2
        have NW4 : Hid (∀ j u, ([.int .i64 (gr : Int), .int .i64 (sn : Int), .int .i64 la2, .slice (some ⟨mb, mo, none⟩) NN mc, .bool th, .bool gn] : List Value)[j]? = some u → (w2.alloc (.cells #[.int .i64 (gr : Int), .int .i64 (sn : Int), .int .i64 la2, .slice (some ⟨mb, mo, none⟩) NN mc, .bool th, .bool gn] 129)).cell? ((⟨w2.heap.size, 0, none⟩ : Addr).add j) = some u) :=
          World.news_of_block (cs := #[.int .i64 (gr : Int), .int .i64 (sn : Int), .int .i64 la2, .slice (some ⟨mb, mo, none⟩) NN mc, .bool th, .bool gn]) (t := 129) (fr := (0, 0)) (heap_alloc_new w2 _)
        have ONE4 : Hid (∀ u ∈ ([.int .i64 (gr : Int), .int .i64 (sn : Int), .int .i64 la2, .slice (some ⟨mb, mo, none⟩) NN mc, .bool th, .bool gn] : List Value), u.oneCell' = true) := by simp [Hid, Value.oneCell']
        have FIN : Hid (∀ (g7 c7 : Nat) (w7 : World), w7.ownsRow 0 129 6 (.slice (some ⟨g7, 0, none⟩) (m + 1) c7) (m + 1) (fcells (keptP P (keepI base P t)) (keptV lv (keepI base P t)) m ++ [.int .i64 (gr : Int), .int .i64 (sn : Int), .int .i64 la2, .slice (some ⟨mb, mo, none⟩) NN mc, .bool th, .bool gn]) → (w2.alloc (.cells #[.int .i64 (gr : Int), .int .i64 (sn : Int), .int .i64 la2, .slice (some ⟨mb, mo, none⟩) NN mc, .bool th, .bool gn] 129)).grownBy w7 (Value.slice la m lc).ownBlock → ((Value.slice la m lc).ownBlock = some g7 ∨ g7 = w2.heap.size + 1) →
            LgA w w7 b (.slice (some ⟨g, 0, none⟩) n vc) P lv x base (t + 1) (.slice (some ⟨g7, 0, none⟩) (m + 1) c7)) := fun g7 c7 w7 hown hgrow hat => by
          have h2s := B2H.out.size
          have hA2 := HA.out
          have hown2 := hown
          rw [HMM.out] at hown2 hgrow hat ⊢
          refine hA2.stay hbw HBH.out BL (by rw [← HPT.out.1, ← HPT.out.2.1, ← HPT.out.2.2.1, HLV.out, ← HPT.out.2.2.2.1, ← HPT.out.2.2.2.2]; exact hown2) hgrow ?_
          rcases hat with q | q
          · exact .inl q
          · exact .inr (by omega)
        clear BL hx2 B2H
        go_wp2_with (refine wpList_append_lies _ (by rfl) _ _ _ (by rfl) 0 129 iF (.agg #[.int .i64 0, .int .i64 0, .int .i64 0, .slice none 0 0, .bool false, .bool false]) 6 56 Tryz.underlying116 hiF hzF0 hzF1 hzF2 (by rfl) (by decide) (.slice la m lc) m _ (by rfl) OW.out ⟨w2.heap.size, 0, none⟩ 1 1 [.int .i64 (gr : Int), .int .i64 (sn : Int), .int .i64 la2, .slice (some ⟨mb, mo, none⟩) NN mc, .bool th, .bool gn] (by rfl) (by rfl) NW4.out ONE4.out (by decide) (by unfold maxLen; omega) (by omega) (Nat.zero_le _) (w2.heap.size + 1) (by simp) ?_; intro g7 c7 w7 hown hgrow hat hlt7; have F2 := Hid.intro (FIN.out g7 c7 w7 hown hgrow hat); clear hown hgrow hat hlt7)
        go_roundw
        case rel => exact ⟨t + 1, by omega, by go_num, F2.out⟩
        case measure => simp [intOf]; omega
    · obtain rfl : t = n := by omega
      have t1 : ¬ (t : Int) < (t : Int) := by omega
      have FIN := Hid.intro (HH.out.letGone hA)
      obtain ⟨k2, k8, f2, f8⟩ := hA.cells
      clear hA HA
      go_wp2
      go_end0
      exact ⟨rfl, FIN.out⟩

end Go.Proofs.YthhggjakenalpaaGreatDoor

/- Package sender: isTold, isAck. -/
namespace Go.Proofs.YthhggjakenalpaaGreatDoor
set_option maxRecDepth 100000
open Go.RowKit
open Bt

/-- What an ack tells of a group. -/
def toldB (base bits group : Nat) : Bool := openA base group && decide (bits / 2 ^ (farA base group).toNat % 2 = 1)

theorem open_far {base group : Nat} (h : openA (base : Int) group = true) : ∃ fr : Nat, farA (base : Int) group = (fr : Int) ∧ fr ≤ 3 := by
  unfold openA at h
  simp only [Bool.and_eq_true, decide_eq_true_eq] at h
  exact ⟨(farA (base : Int) group).toNat, by omega, by omega⟩

theorem bit_one_all : ∀ m : Nat, m < 256 → ∀ t : Nat, t < 4 → (Go.bits .and .u8 ((m : Int) / 2 ^ t) 1 == 1) = decide (m / 2 ^ t % 2 = 1) := by decide +kernel

set_option maxRecDepth 100000 in
theorem isTold_any (base bits group : Nat) (hb : bits < 256) (w : World) :
    Calls Tryz.prog 92 #[.int .i64 (base : Int), .int .u8 (bits : Int), .int .i64 (group : Int)] w fun e w' => e = .returned (.bool (toldB base bits group)) ∧ Below w.heap.size w w' := by
  have O := Hid.intro (sopen_any (base : Int) group w)
  have FR := Hid.intro (fun w => sfar_any (base : Int) group w)
  unfold toldB
  cases ho : openA (base : Int) group with
  | false =>
    rw [ho] at O
    clear FR
    go_enter Tryz.func92, Tryz.ntmps92
    go_wp2_with fail
    refine O.out.mono ?_
    rintro e w1 ⟨rfl, B1⟩
    clear O
    go_wp2
    go_ret
    exact ⟨rfl, B1⟩
  | true =>
    rw [ho] at O
    obtain ⟨fr, hf, hf3⟩ := open_far ho
    rw [hf] at FR ⊢
    rw [Int.toNat_natCast]
    obtain ⟨r, hr⟩ : ∃ r : Bool, r = decide (bits / 2 ^ fr % 2 = 1) := ⟨_, rfl⟩
    rw [← hr]
    have HR := Hid.intro hr
    clear hr ho hf
    go_enter Tryz.func92, Tryz.ntmps92
    go_wp2_with fail
    refine O.out.mono ?_
    rintro e w1 ⟨rfl, B1⟩
    have B1H := Hid.intro B1
    clear O B1
    go_wp2_with fail
    refine (FR.out w1).mono ?_
    rintro e w2 ⟨rfl, B2⟩
    have B2H := Hid.intro (B1H.out.trans (B2.mono B1H.out.size))
    clear FR B2
    go_wp2
    rw [bit_one_all bits hb fr (by omega), ← HR.out]
    go_ret
    exact ⟨rfl, B2H.out⟩

/-- Is it an ack of it? -/
theorem hearA_in (x : Snd) (f : FrV) : hearA x f = (decide (f.kd = 1) && (decide (f.tx = x.tx) && (decide (f.data.length = 2) && isFrm f.tx f.sq f.an f.rs f.kd f.data.length))) := by
  unfold hearA
  cases isFrm f.tx f.sq f.an f.rs f.kd f.data.length <;> cases decide (f.kd = 1) <;> cases decide (f.tx = x.tx) <;> cases decide (f.data.length = 2) <;> rfl

set_option maxRecDepth 100000 in
set_option maxHeartbeats 1000000 in
theorem isAck_any (b xt : Nat) (tx sq an rs kd : Int) (a : Option Addr) (len cap : Nat) (w : World) (hw : Wid w) (c0 : w.cell? ⟨b, 0, none⟩ = some (.int .i64 (xt : Int))) :
    Calls Tryz.prog 90 #[.pointer (some ⟨b, 0, none⟩), Fr tx sq an rs kd a len cap] w fun e w' => e = .returned (.bool (decide (kd = 1) && (decide (tx = xt) && (decide (len = 2) && isFrm tx sq an rs kd len)))) ∧ Below w.heap.size w w' := by
  have B0 := (Below.refl _ w).alloc (Nat.le_refl _) (.cells #[.int .i64 tx, .int .i64 sq, .int .i64 an, .int .i64 rs, .int .i64 kd, .slice a len cap] 55)
  have b0 := heap_alloc_new w (.cells #[.int .i64 tx, .int .i64 sq, .int .i64 an, .int .i64 rs, .int .i64 kd, .slice a len cap] 55)
  have RG := right_any tx sq an rs kd a len cap (w.alloc (.cells #[.int .i64 tx, .int .i64 sq, .int .i64 an, .int .i64 rs, .int .i64 kd, .slice a len cap] 55)).drew (hw.below B0.drew)
  have RGH := Hid.intro RG
  have B0H := Hid.intro B0
  have e0 := (B0.cell (p := ⟨b, 0, none⟩) (cell_lt c0)).trans c0
  have c0' := by have := cell_of_row _ _ 0 _ _ _ b0; exact this
  have c1' := by have := cell_of_row _ _ 1 _ _ _ b0; exact this
  have c2' := by have := cell_of_row _ _ 2 _ _ _ b0; exact this
  have c3' := by have := cell_of_row _ _ 3 _ _ _ b0; exact this
  have c4' := by have := cell_of_row _ _ 4 _ _ _ b0; exact this
  have c5' := by have := cell_of_row _ _ 5 _ _ _ b0; exact this
  change _ = some (Value.int .i64 tx) at c0'
  change _ = some (Value.int .i64 sq) at c1'
  change _ = some (Value.int .i64 an) at c2'
  change _ = some (Value.int .i64 rs) at c3'
  change _ = some (Value.int .i64 kd) at c4'
  change _ = some (Value.slice a len cap) at c5'
  clear B0 RG b0 hw c0
  by_cases h1 : kd = 1
  · by_cases h2 : tx = (xt : Int)
    · by_cases h3 : len = 2
      · rw [decide_eq_true h1, decide_eq_true h2, decide_eq_true h3]
        generalize isFrm tx sq an rs kd len = fr at RGH ⊢
        have h1' : (kd == 1) = true := by simpa using h1
        have h2' : (tx == (xt : Int)) = true := by simpa using h2
        have h3' : ((len : Int) == 2) = true := by simp; omega
        clear h1 h2 h3
        go_enter Tryz.func90, Tryz.ntmps90
        go_wp2_with fail
        (first
        | (go_region_with (first
            | (go_at_call 120; refine RGH.out.mono ?_; rintro e w1 ⟨rfl, B1⟩; have E1 := Hid.intro (below_undrew B1); clear B1)
            | fail))
        | fail)
        all_goals
          have BH := Hid.intro (B0H.out.trans (E1.out.mono B0H.out.size))
          clear E1 c0' c1' c2' c3' c4' c5' e0
          go_wp2
          go_ret
          exact ⟨rfl, BH.out⟩
      · rw [decide_eq_true h1, decide_eq_true h2, decide_eq_false h3]
        have h1' : (kd == 1) = true := by simpa using h1
        have h2' : (tx == (xt : Int)) = true := by simpa using h2
        have h3' : ((len : Int) == 2) = false := by simp; omega
        clear h1 h2 h3 RGH
        go_enter Tryz.func90, Tryz.ntmps90
        go_wp2_with fail
        go_quiet (fail)
        go_wp2
        go_ret
        exact ⟨rfl, below_drewN B0H.out _⟩
    · rw [decide_eq_true h1, decide_eq_false h2]
      have h1' : (kd == 1) = true := by simpa using h1
      have h2' : (tx == (xt : Int)) = false := by simpa using h2
      clear h1 h2 RGH
      go_enter Tryz.func90, Tryz.ntmps90
      go_wp2_with fail
      go_quiet (fail)
      go_wp2
      go_ret
      exact ⟨rfl, below_drewN B0H.out _⟩
  · rw [decide_eq_false h1]
    have h1' : (kd == 1) = false := by simpa using h1
    clear h1 RGH
    go_enter Tryz.func90, Tryz.ntmps90
    go_wp2_with fail
    go_quiet (fail)
    go_wp2
    go_ret
    exact ⟨rfl, below_drewN B0H.out _⟩

end Go.Proofs.YthhggjakenalpaaGreatDoor

/- Package sender: Hear. -/
namespace Go.Proofs.YthhggjakenalpaaGreatDoor
set_option maxRecDepth 100000
open Go.RowKit
open Bt

/-- The flights, of the first so many it is told whether they are there. -/
def tdP (base bits : Nat) (P : Nat → Flt) (t i : Nat) : Flt := if i < t then ackF base bits (P i) else P i

theorem tdP_self {base bits : Nat} {P : Nat → Flt} {t : Nat} : tdP base bits P t t = P t := if_neg (Nat.lt_irrefl _)

theorem fcells_there (P : Nat → Flt) (lv : Nat → Value) {n i : Nat} (f : Flt) (hi : i < n) (h1 : f.group = (P i).group) (h2 : f.sent = (P i).sent) (h3 : f.last = (P i).last) (h5 : f.gone = (P i).gone) :
    (fcells P lv n).set (i * 6 + 4) (.bool f.there) = fcells (fun k => if k = i then f else P k) lv n := by
  rw [← fcells_set P lv f]
  have c0 : (fcells P lv n)[i * 6]? = some (.int .i64 (f.group : Int)) := by have := fcells_at P lv hi (j := 0) (by omega); rw [h1]; exact this
  have c1 : (fcells P lv n)[i * 6 + 1]? = some (.int .i64 (f.sent : Int)) := by have := fcells_at P lv hi (j := 1) (by omega); rw [h2]; exact this
  have c2 : (fcells P lv n)[i * 6 + 2]? = some (.int .i64 f.last) := by have := fcells_at P lv hi (j := 2) (by omega); rw [h3]; exact this
  have c3 : (fcells P lv n)[i * 6 + 3]? = some (lv i) := fcells_at P lv hi (j := 3) (by omega)
  have c5 : ((fcells P lv n).set (i * 6 + 4) (.bool f.there))[i * 6 + 5]? = some (.bool f.gone) := by
    rw [List.getElem?_set_ne (by omega)]
    have := fcells_at P lv hi (j := 5) (by omega)
    rw [h5]
    exact this
  rw [set_sameF c0, set_sameF c1, set_sameF c2, set_sameF c3, set_sameF c5]

/-- Telling under way. -/
structure HeA (w W : World) (b : Nat) (v : Value) (n : Nat) (P : Nat → Flt) (lv : Nat → Value) (base bits t : Nat) : Prop where
  head : W.heap[b]? = w.heap[b]?
  own : W.ownsRow 0 129 6 v n (fcells (tdP base bits P t) lv n)
  chg : Chg (fun k => v.ownBlock = some k) w W

variable {M : Nat} {S : Nat → Prop} {w W W' : World} {b n base bits t : Nat} {v : Value} {P : Nat → Flt} {lv : Nat → Value} {x y : Snd}

theorem HeA.start (h : NS M S w b v n P lv x) : HeA w w b v n P lv base bits 0 :=
  ⟨rfl, by rw [fcells_congr (P := tdP base bits P 0) (P' := P) (lv' := lv) (fun i _ => ⟨by unfold tdP; rw [if_neg (by omega)], rfl⟩)]; exact h.own, Chg.refl _ _⟩

theorem HeA.below (h : HeA w W b v n P lv base bits t) (hb : b < w.heap.size) (B : Below W.heap.size W W') : HeA w W' b v n P lv base bits t := by
  have hs := h.chg.size
  exact ⟨(B.block b (by omega)).trans h.head, ownsRow_keep h.own fun k hk => B.block k (World.ownsRow.lt h.own k hk).2, h.chg.trans (below_chg B) (fun _ q _ => q.elim)⟩

theorem HeA.cells (hN : NS M S w b v n P lv x) (h : HeA w W b v n P lv base bits t) : W.cell? ⟨b, 8, none⟩ = some v := by
  have hd := h.head.trans hN.head
  rw [cell_of_row W _ 8 _ _ _ hd]; rfl

theorem HeA.group {g c : Nat} (h : HeA w W b (.slice (some ⟨g, 0, none⟩) n c) n P lv base bits t) (ht : t < n) : W.cell? ⟨g, t * 6, none⟩ = some (.int .i64 ((P t).group : Int)) ∧ W.cell? ⟨g, t * 6 + 4, none⟩ = some (.bool (P t).there) ∧ W.frozen? ⟨g, t * 6 + 4, none⟩ = false := by
  have q : ∀ j, j < 6 → W.cell? ⟨g, t * 6 + j, none⟩ = (fcell (tdP base bits P t) lv t)[j]? := fun j hj => by
    rw [h.own.cellAt (t * 6 + j) (by omega)]
    exact fcells_at _ lv ht hj
  unfold fcell at q
  rw [tdP_self] at q
  exact ⟨q 0 (by omega), q 4 (by omega), h.own.frozenAt _⟩

theorem HeA.next {g c : Nat} (hN : NS M S w b (.slice (some ⟨g, 0, none⟩) n c) n P lv x) (h : HeA w W b (.slice (some ⟨g, 0, none⟩) n c) n P lv base bits t) (ht : t < n) (B : Below W.heap.size W W') :
    HeA w (W'.setCell ⟨g, t * 6 + 4, none⟩ (.bool (toldB base bits (P t).group))) b (.slice (some ⟨g, 0, none⟩) n c) n P lv base bits (t + 1) := by
  have hb := hN.lt b hN.inB
  have hgS := hN.inV g rfl
  have h2 := h.below hb B
  have hs := h2.chg.size
  have C : Chg (fun k => k = g) W' (W'.setCell ⟨g, t * 6 + 4, none⟩ (.bool (toldB base bits (P t).group))) := Chg.setCell (S := fun k => k = g) (Chg.refl _ W') (fun _ => rfl) _
  refine ⟨(C.block b (by omega) (fun q => hgS.2 q.symm)).trans h2.head, ?_, h2.chg.trans C (fun k q _ => by rw [q]; rfl)⟩
  have o := (h2.own.stored (t * 6 + 4) (.bool (toldB base bits (P t).group))).1
  have e := fcells_there (tdP base bits P t) lv (n := n) (i := t) (ackF base bits (P t)) ht (by rw [tdP_self]; rfl) (by rw [tdP_self]; rfl) (by rw [tdP_self]; rfl) (by rw [tdP_self]; rfl)
  have e2 : tdP base bits P (t + 1) = fun k => if k = t then ackF base bits (P t) else tdP base bits P t k := by
    funext k
    unfold tdP
    by_cases q : k = t
    · subst q; rw [if_pos (Nat.lt_succ_self _), if_pos rfl]
    · rw [if_neg q]
      by_cases q2 : k < t
      · rw [if_pos q2, if_pos (by omega)]
      · rw [if_neg q2, if_neg (by omega)]
  rw [e2, ← e]
  exact o

theorem HeA.done (hx : x.Ok M) (hN : NS (M + 4) S w b v n P lv (letC x base)) (h : HeA w W b v n P lv base bits n) : LeftN (M + 4) S w W b (ackC x base bits) := by
  have hs := h.chg.size
  refine ⟨S, ⟨v, n, tdP base bits P n, lv, h.head.trans hN.head, ?_, h.own, fun i hi => ?_, hN.inB, hN.inV, hN.zero, fun k hk => Nat.lt_of_lt_of_le (hN.lt k hk) hs, ackC_ok hx base bits⟩, h.chg.mono (fun k q _ => (hN.inV k q).1), fun k q => .inl q⟩
  · show (letC x base).fl.map (ackF base bits) = _
    rw [hN.fl, List.map_map]
    apply List.map_congr_left
    intro i hi
    have := List.mem_range.1 hi
    unfold tdP
    rw [if_pos this]
    rfl
  · have e : (tdP base bits P n i).rows = (P i).rows := by
      unfold tdP
      rw [if_pos hi]
      rfl
    rw [e]
    exact (hN.rows i hi).kept h.chg (fun _ _ hd q => hd (.inr q))

theorem nhear_nil (v : Value) (w : World) (tx sq an rs kd : Int) (a : Option Addr) (len cap : Nat) (hv : v = Fr tx sq an rs kd a len cap) :
    Calls Tryz.prog 47 #[.pointer none, v] w fun e w' => e = .returned (.bool false) ∧ Below w.heap.size w w' := by
  subst hv
  have B0 := Hid.intro ((Below.refl _ w).alloc (Nat.le_refl _) (.cells #[.int .i64 tx, .int .i64 sq, .int .i64 an, .int .i64 rs, .int .i64 kd, .slice a len cap] 55))
  go_enter Tryz.func47, Tryz.ntmps47
  go_wp2
  go_ret
  exact ⟨rfl, B0.out⟩

end Go.Proofs.YthhggjakenalpaaGreatDoor

/- Package sender: Hear, the walk. -/
namespace Go.Proofs.YthhggjakenalpaaGreatDoor
set_option maxRecDepth 100000
open Go.RowKit
open Bt

theorem hear_trueN {x : Snd} {f : FrV} (h : hearA x f = true) : isFrm f.tx f.sq f.an f.rs f.kd f.data.length = true ∧ f.tx = x.tx ∧ f.kd = 1 ∧ f.data.length = 2 := by
  unfold hearA at h
  simp only [Bool.and_eq_true, decide_eq_true_eq] at h
  exact ⟨h.1, h.2.1.1, h.2.1.2, h.2.2⟩

theorem undrewN {B : Nat} {w w' : World} (h : Below B w.drew w') : Below B w w' := ⟨h.os, h.tape, h.output, h.size, h.block⟩

theorem undrewNN {B k : Nat} {w w' : World} (h : Below B (w.drewN k) w') : Below B w w' := ⟨h.os, h.tape, h.output, h.size, h.block⟩

theorem LeftN.join {M M' : Nat} {S S' : Nat → Prop} {w w' w'' : World} {b : Nat} {x : Snd} (hc : Chg S w w') (hS : ∀ k, S' k → S k ∨ w.heap.size ≤ k) (h : LeftN M S' w' w'' b x) (hM : M ≤ M') : LeftN M' S w w'' b x := by
  obtain ⟨S2, h1, h2, h3⟩ := h
  have hs := hc.size
  refine ⟨S2, h1.more hM, hc.trans h2 (fun k q hk => ?_), fun k hk => ?_⟩
  · rcases hS k q with q2 | q2
    · exact q2
    · omega
  · rcases h3 k hk with q | q
    · exact hS k q
    · exact .inr (by omega)

set_option maxRecDepth 100000 in
set_option maxHeartbeats 4000000 in
theorem nhear_any (M b : Nat) (f : FrV) (a : Option Addr) (cap : Nat) (hY : Byt f.data) (F : Nat → Prop) (x : Snd) (w : World) (hM : M ≤ 1000000) (hw : Wid w) (hc : Sndr M F w b x) (hr : Reads w a f.data) (hap : 0 < f.data.length → ∀ ad, a = some ad → ¬ F ad.block) :
    Calls Tryz.prog 47 #[.pointer (some ⟨b, 0, none⟩), Fr f.tx f.sq f.an f.rs f.kd a f.data.length cap] w fun e w' => e = .returned (.bool (hearA x f)) ∧ LeftN (M + 4) F w w' b (hearC x f) := by
  obtain ⟨v, n, P, lv, h⟩ := hc
  have hHA := hearA_in x f
  have HOK := Hid.intro h.ok
  have B0 := (Below.refl _ w).alloc (Nat.le_refl _) (.cells #[.int .i64 f.tx, .int .i64 f.sq, .int .i64 f.an, .int .i64 f.rs, .int .i64 f.kd, .slice a f.data.length cap] 55)
  have b0 := heap_alloc_new w (.cells #[.int .i64 f.tx, .int .i64 f.sq, .int .i64 f.an, .int .i64 f.rs, .int .i64 f.kd, .slice a f.data.length cap] 55)
  have h0 := h.below B0
  have AK := isAck_any b x.tx f.tx f.sq f.an f.rs f.kd a f.data.length cap (w.alloc (.cells #[.int .i64 f.tx, .int .i64 f.sq, .int .i64 f.an, .int .i64 f.rs, .int .i64 f.kd, .slice a f.data.length cap] 55)) (hw.below B0) h0.cells.1
  rw [← hHA] at AK
  have c0 := by have := cell_of_row _ _ 0 _ _ _ b0; exact this
  have c1 := by have := cell_of_row _ _ 1 _ _ _ b0; exact this
  have c2 := by have := cell_of_row _ _ 2 _ _ _ b0; exact this
  have c3 := by have := cell_of_row _ _ 3 _ _ _ b0; exact this
  have c4 := by have := cell_of_row _ _ 4 _ _ _ b0; exact this
  have c5 := by have := cell_of_row _ _ 5 _ _ _ b0; exact this
  change _ = some (Value.int .i64 f.tx) at c0
  change _ = some (Value.int .i64 f.sq) at c1
  change _ = some (Value.int .i64 f.an) at c2
  change _ = some (Value.int .i64 f.rs) at c3
  change _ = some (Value.int .i64 f.kd) at c4
  change _ = some (Value.slice a f.data.length cap) at c5
  have AKH := Hid.intro AK
  have B0H := Hid.intro B0
  have b0H := Hid.intro b0
  have H0 := Hid.intro h0
  have hsz := World.size_alloc w (.cells #[.int .i64 f.tx, .int .i64 f.sq, .int .i64 f.an, .int .i64 f.rs, .int .i64 f.kd, .slice a f.data.length cap] 55)
  cases hA : hearA x f with
  | false =>
    rw [hA] at AKH
    have hC : hearC x f = x := by unfold hearC; rw [hA]; rfl
    rw [hC]
    have FIN := Hid.intro (fun (w' : World) (B : Below w.heap.size w w') => (⟨F, ⟨v, n, P, lv, (h.below B).more (by omega)⟩, (below_chg B).mono (fun _ q _ => q.elim), fun _ q => .inl q⟩ : LeftN (M + 4) F w w' b x))
    obtain ⟨tx, sq, an, rs, kd, ds⟩ := f
    dsimp only at *
    generalize ds.length = L at *
    clear hHA hC h hr hap AK B0 b0 h0 hY hA hw
    go_enter Tryz.func47, Tryz.ntmps47
    go_wp2_with fail
    refine AKH.out.mono ?_
    rintro e w1 ⟨rfl, B1⟩
    have BB := Hid.intro (B0H.out.trans (B1.mono (by omega)))
    clear B1 AKH
    go_wp2
    go_ret
    exact ⟨rfl, FIN.out _ BB.out⟩
  | true =>
    rw [hA] at AKH
    obtain ⟨q1, q2, q3, q4⟩ := hear_trueN hA
    have hC : hearC x f = ackC x (f.data.getD 0 0) (f.data.getD 1 0) := by unfold hearC; rw [if_pos hA]
    rw [hC]
    obtain ⟨tx, sq, an, rs, kd, ds⟩ := f
    dsimp only at *
    match ds, q4 with
    | [d0, d1], _ =>
      have hb0 := hY d0 (by simp)
      have hb1 := hY d1 (by simp)
      obtain ⟨fb, fo, rfl, hcc⟩ := reads_at hr (by simp)
      have r0 := hcc 0 (by simp)
      have r1 := hcc 1 (by simp)
      simp only [List.getD_cons_zero, List.getD_cons_succ, Nat.add_zero, List.length_cons, List.length_nil, Nat.zero_add, Nat.reduceAdd] at *
      have R0 := Hid.intro r0
      have R1 := Hid.intro r1
      have LG := Hid.intro (fun (W : World) hS => letGo_any M b d0 F x W hM hS)
      have TD := Hid.intro (fun (g : Nat) (W : World) => isTold_any d0 d1 g hb1 W)
      have HX := Hid.intro h
      clear hHA hC h hr hap AK B0 b0 h0 hY hA hw q1 q2 q3 hcc r0 r1
      go_enter Tryz.func47, Tryz.ntmps47
      go_wp2_with fail
      refine AKH.out.mono ?_
      rintro e w1 ⟨rfl, B1⟩
      have BB := Hid.intro (B0H.out.trans (B1.mono (by omega)))
      have e5 := (B1.cell (p := ⟨w.heap.size, 5, none⟩) (cell_lt c5)).trans c5
      have s0 := cellG BB.out R0.out
      have s1 := cellG BB.out R1.out
      have H1 := Hid.intro (HX.out.below BB.out)
      clear B1 AKH c0 c1 c2 c3 c4 c5
      go_wp2_with fail
      go_quiet (fail)
      go_wp2_with fail
      refine (LG.out _ ⟨v, n, P, lv, H1.out.below (below_drewN (Below.refl _ w1) nq)⟩).mono ?_
      rintro e w4 ⟨rfl, S4, hS4, C4, hsub⟩
      obtain ⟨v4, n4, P4, lv4, h4⟩ := hS4
      have H4 := Hid.intro h4
      have CW4 : Hid (Chg F w w4) := ((below_chg BB.out).mono (fun _ q _ => q.elim)).trans (⟨C4.os, C4.tape, C4.output, C4.size, C4.block⟩ : Chg F w1 w4) (fun _ q _ => q)
      have SUB : Hid (∀ k, S4 k → F k ∨ w.heap.size ≤ k) := fun k hk => by
        have q0 := BB.out.size
        rcases hsub k hk with q | q
        · exact .inl q
        · exact .inr (Nat.le_trans q0 q)
      have hb4 := h4.lt b h4.inB
      have hn4 := h4.ok.few
      rw [h4.len] at hn4
      obtain ⟨vo, vc, rfl, hvg⟩ := h4.form
      have c8 := h4.cells.2.2.2.2.2.2.2.2
      have SA := Hid.intro (HeA.start (base := d0) (bits := d1) h4)
      clear h4 C4 hsub LG H1 e5 s0 s1 R0 R1
      go_wp2_with fail
      clear c8
      go_loopw [33] (fun i wr => ∃ t : Nat, t ≤ n4 ∧ i = .int .i64 t ∧ HeA w4 wr b (.slice vo n4 vc) n4 P4 lv4 d0 d1 t) (fun i _ => n4 - (intOf i).toNat)
      case atStart => exact ⟨0, Nat.zero_le _, rfl, SA.out⟩
      case round =>
        clear SA
        obtain ⟨t, ht, rfl, hA⟩ := hrel
        have HA := Hid.intro hA
        by_cases hlt : t < n4
        · obtain ⟨g, rfl⟩ : ∃ g, vo = some ⟨g, 0, none⟩ := by
            rcases hvg with q | q
            · omega
            · exact q
          have k0 : (0 : Int) ≤ (t : Int) := by omega
          have k1 : (t : Int) < (n4 : Int) := by omega
          have e8 := hA.cells H4.out
          obtain ⟨eg, e4, z4⟩ := hA.group hlt
          have TDG := TD.out (P4 t).group wr.drew
          have NX := Hid.intro (fun (W' : World) B => HeA.next H4.out HA.out hlt (W' := W') B)
          obtain ⟨tb, htb⟩ : ∃ tb, tb = toldB d0 d1 (P4 t).group := ⟨_, rfl⟩
          rw [← htb] at TDG NX
          have TDH := Hid.intro TDG
          generalize (P4 t).group = gr at eg TDH
          generalize (P4 t).there = th at e4
          clear hA TDG htb
          go_wp2_with fail
          go_region_law
            (first
              | (go_simp; refine TDH.out.mono ?_; rintro e w5 ⟨rfl, B5⟩; have D5 := undrewN B5; have n8 := cellG D5 e8; have n4' := cellG D5 e4; have z4' : w5.frozen? ⟨g, t * 6 + 4, none⟩ = false := ((HA.out.below hb4 D5).group hlt).2.2; have F5 := Hid.intro (NX.out w5 D5); clear B5 D5)
              | fail)
          all_goals
            clear n8 n4' z4' e8 e4 eg z4 TDH NX
            go_wp2
            go_roundw
            case rel => exact ⟨t + 1, by omega, by go_num, F5.out⟩
            case measure => simp [intOf]; omega
        · obtain rfl : t = n4 := by omega
          have t1 : ¬ (t : Int) < (t : Int) := by omega
          have FIN := Hid.intro (LeftN.join CW4.out SUB.out (HeA.done HOK.out H4.out hA) (Nat.le_refl _))
          clear hA HA
          go_wp2
          go_ret
          exact ⟨rfl, FIN.out⟩

end Go.Proofs.YthhggjakenalpaaGreatDoor
