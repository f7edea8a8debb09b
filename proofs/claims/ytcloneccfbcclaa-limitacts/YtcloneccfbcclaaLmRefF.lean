/- The document's own answer of layer 14: Set. -/
import Derived.Test.YtcloneccfbcclaaLmRefE
import Derived.Deep.MidRow
namespace Go.Proofs.Ytcloneccfbcclaa
open Go.RowKit
open Bt

theorem lcells_set (l : List Lm) {i : Nat} (s : Lm) :
    ((((((lcells l).set (i * 5) (.int .i64 s.bed)).set (i * 5 + 1) (.int .i64 s.kind)).set (i * 5 + 2) (.int .i64 s.lo)).set (i * 5 + 3) (.int .i64 s.hi)).set (i * 5 + 4) (.int .i64 s.cnt)) = lcells (l.set i s) := by
  apply List.ext_getElem?
  intro j
  have hl := lcells_length l
  have hl2 := lcells_length (l.set i s)
  rw [List.length_set] at hl2
  by_cases hj : j < l.length * 5
  · have hj6 : j = (j / 5) * 5 + j % 5 := by omega
    have hq : j / 5 < l.length := by omega
    have hm : j % 5 < 5 := Nat.mod_lt _ (by decide)
    have e2 : (lcells (l.set i s))[j]? = (lcell ((l.set i s)[j / 5]'(by simpa using hq)))[j % 5]? := by
      conv => lhs; rw [hj6]
      exact lcells_at _ (by simpa using hq) hm
    have e1 : (lcells l)[j]? = (lcell l[j / 5])[j % 5]? := by
      conv => lhs; rw [hj6]
      exact lcells_at l hq hm
    rw [e2]
    simp only [List.getElem?_set, List.length_set, hl, List.getElem_set]
    have cases5 : j % 5 = 0 ∨ j % 5 = 1 ∨ j % 5 = 2 ∨ j % 5 = 3 ∨ j % 5 = 4 := by omega
    by_cases e : i = j / 5
    · rw [if_pos e]
      rcases cases5 with q | q | q | q | q
      · rw [q, if_neg (by omega), if_neg (by omega), if_neg (by omega), if_neg (by omega), if_pos (by omega), if_pos (by omega)]; rfl
      · rw [q, if_neg (by omega), if_neg (by omega), if_neg (by omega), if_pos (by omega), if_pos (by omega)]; rfl
      · rw [q, if_neg (by omega), if_neg (by omega), if_pos (by omega), if_pos (by omega)]; rfl
      · rw [q, if_neg (by omega), if_pos (by omega), if_pos (by omega)]; rfl
      · rw [q, if_pos (by omega), if_pos (by omega)]; rfl
    · rw [if_neg e, if_neg (by omega), if_neg (by omega), if_neg (by omega), if_neg (by omega), if_neg (by omega)]
      exact e1
  · rw [List.getElem?_eq_none (by simp only [List.length_set]; omega), List.getElem?_eq_none (by omega)]

/-- The world behind a limit's store. -/
abbrev putLm (w : World) (g o : Nat) (l : Lm) : World := ((((w.setCell ⟨g, o, none⟩ (.int .i64 l.bed)).setCell ⟨g, o + 1, none⟩ (.int .i64 l.kind)).setCell ⟨g, o + 2, none⟩ (.int .i64 l.lo)).setCell ⟨g, o + 3, none⟩ (.int .i64 l.hi)).setCell ⟨g, o + 4, none⟩ (.int .i64 l.cnt)

theorem putLm_chg (w : World) (g o : Nat) (l : Lm) : Chg (fun k => k = g) w (putLm w g o l) :=
  (((((Chg.refl (fun k => k = g) w).setCell (p := ⟨g, o, none⟩) (fun _ => rfl) _).setCell (p := ⟨g, o + 1, none⟩) (fun _ => rfl) _).setCell (p := ⟨g, o + 2, none⟩) (fun _ => rfl) _).setCell (p := ⟨g, o + 3, none⟩) (fun _ => rfl) _).setCell (p := ⟨g, o + 4, none⟩) (fun _ => rfl) _

theorem putLm_own {w : World} {g n c i : Nat} {ls : List Lm} (l : Lm) (h : w.ownsRow 0 30 5 (.slice (some ⟨g, 0, none⟩) n c) n (lcells ls)) : (putLm w g (i * 5) l).ownsRow 0 30 5 (.slice (some ⟨g, 0, none⟩) n c) n (lcells (ls.set i l)) := by
  rw [← lcells_set]
  exact (World.ownsRow.stored (World.ownsRow.stored (World.ownsRow.stored (World.ownsRow.stored (World.ownsRow.stored h _ _).1 _ _).1 _ _).1 _ _).1 _ _).1

theorem frozen_own {w : World} {e : TypeId} {sz g n c : Nat} {xs : List Value} (h : w.ownsRow 0 e sz (.slice (some ⟨g, 0, none⟩) n c) n xs) (j : Nat) : w.frozen? ⟨g, j, none⟩ = false := by
  rcases h.2 with ⟨e, _⟩ | ⟨g', c', cur, e, _, hg, _⟩
  · cases e
  · cases e
    exact frozen_of_row w g j _ _ hg

theorem RT.ol' {S : Nat → Prop} {w : World} {b n c : Nat} {ao : Option Addr} {vV : Value} {zs : List Rz} {m : Nat} (h : RT S w b (.slice ao n c) vV zs m) : w.ownsRow 0 30 5 (.slice ao n c) n (lcells (zs.map Rz.lm)) := by
  obtain ⟨_, _, e, _⟩ := ownsRow_form h.ol
  have o := h.ol
  cases e
  exact o

theorem RT.ov' {S : Nat → Prop} {w : World} {b n c : Nat} {ao : Option Addr} {vL : Value} {zs : List Rz} {m : Nat} (h : RT S w b vL (.slice ao n c) zs m) : w.ownsRow 0 46 1 (.slice ao n c) n (zs.map Rz.v) := by
  obtain ⟨_, _, e, _⟩ := ownsRow_form h.ov
  have o := h.ov
  cases e
  exact o

/-- A limit that is there is set anew. -/
theorem RT.setAt {S : Nat → Prop} {w : World} {b gL gV n cL cV : Nat} {zs : List Rz} {m i : Nat} {l : Lm} (h : RT S w b (.slice (some ⟨gL, 0, none⟩) n cL) (.slice (some ⟨gV, 0, none⟩) n cV) zs m) (hn : n = zs.length) (ok : OkT ((kpsR zs).set i ⟨l, 0⟩) m) :
    LeftG (RB b ((kpsR zs).set i ⟨l, 0⟩) m) S w ((putLm w gL (i * 5) l).setCell ⟨gV, i, none⟩ (.slice none 0 0)) := by
  subst hn
  have C1 := putLm_chg w gL (i * 5) l
  have C2 : Chg (fun k => k = gV) (putLm w gL (i * 5) l) ((putLm w gL (i * 5) l).setCell ⟨gV, i, none⟩ (.slice none 0 0)) := (Chg.refl _ _).setCell (S := fun k => k = gV) (p := ⟨gV, i, none⟩) (fun _ => rfl) _
  have C : Chg (fun k => k = gL ∨ k = gV) w ((putLm w gL (i * 5) l).setCell ⟨gV, i, none⟩ (.slice none 0 0)) := (C1.mono (fun k q _ => .inl q)).trans C2 (fun k q _ => .inr q)
  have ol := putLm_own (i := i) l h.ol
  have nLV : gL ≠ gV := fun q => rows_apart h.ol h.ov (by decide) gL rfl (by rw [q]; rfl)
  have ov1 := ownsRow_keep h.ov fun k hk => C1.block k (World.ownsRow.lt h.ov k hk).2 (fun q => nLV (by rw [← q]; cases hk; rfl))
  have ov2 := (World.ownsRow.stored ov1 i (.slice none 0 0)).1
  have hbL : b ≠ gL := fun q => row_not_block h.ol h.head (by decide) (by rw [q]; rfl)
  have hbV : b ≠ gV := fun q => row_not_block h.ov h.head (by decide) (by rw [q]; rfl)
  have ek : kpsR (zs.set i ⟨l, [], .slice none 0 0⟩) = (kpsR zs).set i ⟨l, 0⟩ := by
    unfold kpsR
    rw [List.map_set]
    rfl
  refine ⟨S, ⟨_, _, zs.set i ⟨l, [], .slice none 0 0⟩, ek, ⟨(C.block b (h.lt b h.inB) (fun q => q.elim hbL hbV)).trans h.head, ?_, ?_, fun z hz => ?_, h.inB, h.inL, h.inV, fun k hk => Nat.lt_of_lt_of_le (h.lt k hk) C.size, by rw [ek]; exact ok, fun z hz => ?_⟩⟩, C.mono (fun k q _ => ?_), fun k hk => .inl hk⟩
  · rw [List.length_set, List.map_set]
    exact ownsRow_keep ol fun k hk => C2.block k (World.ownsRow.lt ol k hk).2 (fun q => nLV (by cases hk; exact q))
  · rw [List.length_set, List.map_set]
    exact ov2
  · rcases List.mem_or_eq_of_mem_set hz with hz | rfl
    · exact ⟨ownsRow_keep (h.iv z hz).1 fun k hk => C.block k (World.ownsRow.lt (h.iv z hz).1 k hk).2 (fun q => by
        rcases q with q | q
        · exact rows_apart (h.iv z hz).1 h.ol (by decide) k hk (by rw [q]; rfl)
        · exact rows_apart (h.iv z hz).1 h.ov (by decide) k hk (by rw [q]; rfl)), (h.iv z hz).2⟩
    · exact ⟨own_noneR _ _ _, fun k hk => by cases hk⟩
  · rcases List.mem_or_eq_of_mem_set hz with hz | rfl
    · exact h.few z hz
    · exact Nat.zero_le _
  · rcases q with q | q
    · rw [q]; exact h.inL gL rfl
    · rw [q]; exact h.inV gV rfl

set_option maxRecDepth 100000 in
set_option maxHeartbeats 2000000 in
theorem refSet14_at (b : Nat) (l : Lm) (hm : mayL l = true) (S : Nat → Prop) (vL vV : Value) (zs : List Rz) (m : Nat) (w : World) (h : RT S w b vL vV zs m) (i : Nat) (hi : i < zs.length) (hp : posK (kpsR zs) l.bed l.kind = i) (ok : OkT ((kpsR zs).set i ⟨l, 0⟩) m) :
    Calls Try.prog 17 #[.pointer (some ⟨b, 0, none⟩), Lv l] w fun e w' => e = .returned (.int .i64 0) ∧ LeftG (RB b ((kpsR zs).set i ⟨l, 0⟩) m) S w w' := by
  have MY := Hid.intro (refMay14_any l)
  rw [hm] at MY
  have FI := Hid.intro (fun (W : World) (hW : Below w.heap.size w W) => refFind14_any b l.bed l.kind S vL vV zs m W (h.below hW))
  rw [hp] at FI
  have mixed : Try.prog.follows Departure.mixedOrders = true := by kernel_rfl
  have OK1 := Hid.intro ok
  have HH := Hid.intro h
  obtain ⟨x0, x1, x2, x3, x4⟩ := l
  have HB := Hid.intro ((Below.refl _ w).alloc (Nat.le_refl _) (.cells #[.int .i64 x0, .int .i64 x1, .int .i64 x2, .int .i64 x3, .int .i64 x4] 30))
  have NB := Hid.intro (limC (l := ⟨x0, x1, x2, x3, x4⟩) (heap_alloc_new w (.cells #[.int .i64 x0, .int .i64 x1, .int .i64 x2, .int .i64 x3, .int .i64 x4] 30)))
  simp only at FI
  have hf := h.ok.few
  rw [kps_len] at hf
  clear h hm hp ok
  go_enter Try.func17, Try.ntmps17
  go_wp2_with fail
  refine (MY.out _).mono ?_
  rintro e w1 ⟨rfl, B1⟩
  have BW := HB.out.trans (B1.mono HB.out.size)
  have BWH := Hid.intro BW
  obtain ⟨c0, c1, c2, c3, c4⟩ := NB.out.below B1
  simp only [Nat.zero_add] at c0 c1 c2 c3 c4
  have F1 := Hid.intro (FI.out w1 BW)
  clear MY B1 BW HB FI NB
  go_wp2_with fail
  refine F1.out.mono ?_
  rintro e w2 ⟨rfl, rfl⟩
  clear F1
  have H1 := HH.out.below BWH.out
  obtain ⟨aL, cL, hvL, zL⟩ := ownsRow_form H1.ol
  subst hvL
  obtain ⟨aV, cV, hvV, zV⟩ := ownsRow_form H1.ov
  subst hvV
  obtain ⟨gL, rfl⟩ := zL.resolve_left (by omega)
  obtain ⟨gV, rfl⟩ := zV.resolve_left (by omega)
  have H1H := Hid.intro (H1.below (w' := w1.drew) (Below.refl _ _).drew)
  have BDH : Hid (Below w.heap.size w w1.drew) := BWH.out.drew
  have k0 := H1.cells.1
  have k1 := H1.cells.2.1
  have d := H1.limAt hi rfl
  obtain ⟨d0, d1, d2, d3, d4⟩ := d
  have f0 := frozen_own H1.ol (i * 5)
  have f1 := frozen_own H1.ol (i * 5 + 1)
  have f2 := frozen_own H1.ol (i * 5 + 2)
  have f3 := frozen_own H1.ol (i * 5 + 3)
  have f4 := frozen_own H1.ol (i * 5 + 4)
  have i0 : (0 : Int) ≤ (i : Int) := by omega
  have i1 : (i : Int) < (zs.length : Int) := by omega
  have i2 : ¬ (i : Int) < 0 := by omega
  obtain ⟨n, hn⟩ : ∃ n, n = zs.length := ⟨_, rfl⟩
  have HN := Hid.intro hn
  rw [← hn] at k0 k1 i1 H1H hf
  generalize zs[i].lm.bed = q0 at d0
  generalize zs[i].lm.kind = q1 at d1
  generalize zs[i].lm.lo = q2 at d2
  generalize zs[i].lm.hi = q3 at d3
  generalize zs[i].lm.cnt = q4 at d4
  generalize hlb : w.heap.size = lb at c0 c1 c2 c3 c4 ⊢
  have HLB := Hid.intro hlb
  clear hn H1 zL zV hlb
  go_wp2_with fail
  go_still_tail 7, mixed
  change wpList Try.prog _ _ _ _ w1.drew
  obtain ⟨w3, hw3⟩ : ∃ w3, w3 = w1.drew := ⟨_, rfl⟩
  rw [← hw3] at H1H BDH ⊢
  have e0 : w3.cell? ⟨gL, i * 5, none⟩ = some (.int .i64 q0) := by rw [hw3]; exact d0
  have e1 : w3.cell? ⟨gL, i * 5 + 1, none⟩ = some (.int .i64 q1) := by rw [hw3]; exact d1
  have e2 : w3.cell? ⟨gL, i * 5 + 2, none⟩ = some (.int .i64 q2) := by rw [hw3]; exact d2
  have e3 : w3.cell? ⟨gL, i * 5 + 3, none⟩ = some (.int .i64 q3) := by rw [hw3]; exact d3
  have e4 : w3.cell? ⟨gL, i * 5 + 4, none⟩ = some (.int .i64 q4) := by rw [hw3]; exact d4
  have nbL : b ≠ gL := fun q => row_not_block H1H.out.ol H1H.out.head (by decide) (by rw [q]; rfl)
  have nVL : gV ≠ gL := fun q => rows_apart H1H.out.ol' H1H.out.ov' (by decide) gL rfl (by rw [← q]; rfl)
  have TH : Hid (w3.there gL (i * 5) 5) := fun j hj => by
    refine ⟨?_, frozen_own H1H.out.ol' _⟩
    match j, hj with
    | 0, _ => exact Option.isSome_of_eq_some e0
    | 1, _ => exact Option.isSome_of_eq_some e1
    | 2, _ => exact Option.isSome_of_eq_some e2
    | 3, _ => exact Option.isSome_of_eq_some e3
    | 4, _ => exact Option.isSome_of_eq_some e4
  have FIN := Hid.intro (left_from BDH.out (H1H.out.setAt (l := ⟨x0, x1, x2, x3, x4⟩) HN.out OK1.out))
  have PC := putLm_chg w3 gL (i * 5) ⟨x0, x1, x2, x3, x4⟩
  have g1 := cell_chg PC H1H.out.cells.2.1 nbL
  have g2 := cell_chg PC (H1H.out.valAt hi rfl) nVL
  have g3 : (putLm w3 gL (i * 5) ⟨x0, x1, x2, x3, x4⟩).frozen? ⟨gV, i, none⟩ = false := by
    refine frozen_own (n := n) (c := cV) (xs := zs.map Rz.v) (e := 46) (sz := 1) (ownsRow_keep H1H.out.ov' fun k hk => PC.block k (World.ownsRow.lt H1H.out.ov' k hk).2 (fun q => nVL (by cases hk; exact q))) i
  clear f0 f1 f2 f3 f4 d0 d1 d2 d3 d4 c0 c1 c2 c3 c4 hw3 k0 k1 e0 e1 e2 e3 e4 PC
  refine wpList_store_mid rfl 30 (.tmp 56) (.tmp 55) rfl gL (i * 5) #[.int .i64 x0, .int .i64 x1, .int .i64 x2, .int .i64 x3, .int .i64 x4] (by rfl) (by rfl) TH.out (by kernel_rfl) (by kernel_rfl) ?_
  change wpList Try.prog _ _ _ _ (putLm w3 gL (i * 5) ⟨x0, x1, x2, x3, x4⟩)
  generalize putLm w3 gL (i * 5) ⟨x0, x1, x2, x3, x4⟩ = w4 at *
  generalize zs[i].v = zv at *
  clear TH H1H
  go_wp2
  go_ret
  exact ⟨rfl, FIN.out⟩

theorem refSet14_any (b : Nat) (l : Lm) (S : Nat → Prop) (L : List Kp) (m : Nat) (w : World) (h : RB b L m S w) :
    Calls Try.prog 17 #[.pointer (some ⟨b, 0, none⟩), Lv l] w fun e w' => e = .returned (.int .i64 (setE L l)) ∧ LeftG (RB b (setT L l) m) S w w' := by
  obtain ⟨vL, vV, zs, rfl, h⟩ := h
  cases hm : mayL l with
  | false =>
    rw [(setT_not hm).1, (setT_not hm).2]
    have MY := Hid.intro (refMay14_any l)
    rw [hm] at MY
    have SM := Hid.intro (fun w' hb => h.same (w' := w') hb)
    clear h hm
    obtain ⟨x0, x1, x2, x3, x4⟩ := l
    have HB := Hid.intro ((Below.refl _ w).alloc (Nat.le_refl _) (.cells #[.int .i64 x0, .int .i64 x1, .int .i64 x2, .int .i64 x3, .int .i64 x4] 30))
    go_enter Try.func17, Try.ntmps17
    go_wp2_with fail
    refine (MY.out _).mono ?_
    rintro e w1 ⟨rfl, B1⟩
    have FIN := Hid.intro (SM.out w1 (HB.out.trans (B1.mono HB.out.size)))
    clear B1 HB MY
    go_wp2
    go_ret
    exact ⟨rfl, FIN.out⟩
  | true =>
    rcases posK_ways (kpsR zs) l.bed l.kind with ⟨e1, e2⟩ | ⟨i, hi, e1, e2, e3⟩
    · by_cases hl : zs.length < 40
      · obtain ⟨a1, a2⟩ := setT_new hm e2 (by rw [kps_len]; exact hl)
        rw [a1, a2]
        exact refSet14_new b l hm S vL vV zs m w h e1 e2 hl
      · obtain ⟨a1, a2⟩ := setT_full hm e2 (by rw [kps_len]; omega)
        rw [a1, a2]
        have MY := Hid.intro (refMay14_any l)
        rw [hm] at MY
        have SM := Hid.intro (fun w' hb => h.same (w' := w') hb)
        have FI := Hid.intro (fun (W : World) (hW : Below w.heap.size w W) => And.intro (refFind14_any b l.bed l.kind S vL vV zs m W (h.below hW)) (h.below hW).cells.1)
        rw [e1] at FI
        obtain ⟨aL, cL, rfl, _⟩ := ownsRow_form h.ol
        have z40 : (40 : Int) ≤ (zs.length : Int) := by omega
        have hf := h.ok.few
        rw [kps_len] at hf
        clear h hm e1 e2 a1 a2
        generalize zs.length = n at *
        obtain ⟨x0, x1, x2, x3, x4⟩ := l
        have HB := Hid.intro ((Below.refl _ w).alloc (Nat.le_refl _) (.cells #[.int .i64 x0, .int .i64 x1, .int .i64 x2, .int .i64 x3, .int .i64 x4] 30))
        have NB := Hid.intro (limC (l := ⟨x0, x1, x2, x3, x4⟩) (heap_alloc_new w (.cells #[.int .i64 x0, .int .i64 x1, .int .i64 x2, .int .i64 x3, .int .i64 x4] 30)))
        simp only at FI
        go_enter Try.func17, Try.ntmps17
        go_wp2_with fail
        refine (MY.out _).mono ?_
        rintro e w1 ⟨rfl, B1⟩
        have BW := HB.out.trans (B1.mono HB.out.size)
        obtain ⟨c0, c1, c2, c3, c4⟩ := NB.out.below B1
        simp only [Nat.zero_add] at c0 c1 c2 c3 c4
        have F1 := Hid.intro (FI.out w1 BW).1
        have k0 := (FI.out w1 BW).2
        have FIN := Hid.intro (SM.out w1 BW)
        clear MY B1 BW HB FI NB SM
        go_wp2_with fail
        refine F1.out.mono ?_
        rintro e w2 ⟨rfl, rfl⟩
        clear F1
        go_wp2
        go_ret
        exact ⟨rfl, FIN.out⟩
    · obtain ⟨a1, a2⟩ := setT_place h.ok hm hi e3 e2
      have ok := setT_ok h.ok l
      rw [a2] at ok
      rw [a1, a2]
      exact refSet14_at b l hm S vL vV zs m w h i (by rw [← kps_len]; exact hi) e1 ok

end Go.Proofs.Ytcloneccfbcclaa
