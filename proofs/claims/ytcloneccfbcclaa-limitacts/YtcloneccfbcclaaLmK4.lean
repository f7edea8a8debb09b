/- Package limit: Set. -/
import Derived.Test.YtcloneccfbcclaaLmK3
import Derived.Test.YtcloneccfbcclaaLmApp
import Derived.Deep.RegionHeld3
import Derived.Deep.RegionLaw
namespace Go.Proofs.Ytcloneccfbcclaa
open Go.RowKit
open Bt

theorem lset_nil (l : Lm) (w : World) :
    Calls Try.prog 11 #[.pointer none, Lv l] w fun e w' => e = .returned (.int .i64 1) ∧ Below w.heap.size w w' := by
  obtain ⟨b, k, f, t, c⟩ := l
  have HB := Hid.intro ((Below.refl _ w).alloc (Nat.le_refl _) (.cells #[.int .i64 b, .int .i64 k, .int .i64 f, .int .i64 t, .int .i64 c] 30))
  go_enter Try.func11, Try.ntmps11
  go_wp2
  go_ret
  exact ⟨rfl, HB.out⟩

theorem okO_may {l : Lm} (h : mayL l = true) : okO (l.bed, l.kind) := by
  have := mayL_true h
  exact ⟨wf_small (by omega) (by omega), wf_small (by omega) (by omega)⟩

theorem lset_not (b : Nat) (l : Lm) (hm : mayL l = false) (S : Nat → Prop) (L : List Kp) (n : Nat) (w : World) (h : Tab S w b L n) :
    Calls Try.prog 11 #[.pointer (some ⟨b, 0, none⟩), Lv l] w fun e w' => e = .returned (.int .i64 (setE L l)) ∧ LeftT S w w' b (setT L l) n := by
  have MY := Hid.intro (lmay_any l)
  rw [hm] at MY
  rw [(setT_not hm).1, (setT_not hm).2]
  have HH := Hid.intro h
  clear h hm
  obtain ⟨x0, x1, x2, x3, x4⟩ := l
  have HB := Hid.intro ((Below.refl _ w).alloc (Nat.le_refl _) (.cells #[.int .i64 x0, .int .i64 x1, .int .i64 x2, .int .i64 x3, .int .i64 x4] 30))
  go_enter Try.func11, Try.ntmps11
  go_wp2_with fail
  refine (MY.out _).mono ?_
  rintro e w1 ⟨rfl, B1⟩
  have FIN := Hid.intro (LeftT.same HH.out (HB.out.trans (B1.mono HB.out.size)))
  clear B1 HB MY
  go_wp2
  go_ret
  exact ⟨rfl, FIN.out⟩

/-- The owner stands in the list, and not yet in the map. -/
structure Half (S : Nat → Prop) (w W : World) (b m : Nat) (v : Value) (L : List Kp) (o : Int × Int) : Prop where
  head : W.heap[b]? = some (.cells #[.map (some m), v] 60 (0, 0))
  map : MapAt ownV okO W m (fM L)
  own : W.ownsRow 0 62 2 v (L.length + 1) (ocells (L.map keyK ++ [o]))
  inV : ∀ k, v.ownBlock = some k → (S k ∨ w.heap.size ≤ k) ∧ k ≠ b ∧ k ≠ m
  chg : Chg S w W

theorem TS.half {S : Nat → Prop} {w W wb : World} {b m : Nat} {v v' : Value} {L : List Kp} {n : Nat} {o : Int × Int} (h : TS S w b m v L n) (hB : Below w.heap.size w W) (hown : wb.ownsRow 0 62 2 v' (L.length + 1) (ocells (L.map keyK ++ [o]))) (hgrow : W.grownBy wb v.ownBlock) (hat : v'.ownBlock = v.ownBlock ∨ v'.ownBlock = some W.heap.size) :
    wb.cell? ⟨b, 1, none⟩ = some v ∧ wb.frozen? ⟨b, 1, none⟩ = false ∧ Half S w (wb.setCell ⟨b, 1, none⟩ v') b m v' L o := by
  have h1 := h.below hB
  obtain ⟨a1, a2, a3⟩ := h.apart
  have bl := h.lt b h.inB
  have ml := h.lt m h.inM
  have hs := hB.size
  have hb : wb.heap[b]? = some (.cells #[.map (some m), v] 60 (0, 0)) := (hgrow.block b (h1.lt b h1.inB) (fun q => a1 q.symm)).trans h1.head
  have hmm : wb.heap[m]? = W.heap[m]? := hgrow.block m (h1.lt m h1.inM) (fun q => a2 q.symm)
  have hV : ∀ k, v'.ownBlock = some k → (S k ∨ w.heap.size ≤ k) ∧ k ≠ b ∧ k ≠ m := fun k hk => by
    rcases hat with q | q
    · have hk2 : v.ownBlock = some k := by rw [← q]; exact hk
      exact ⟨.inl (h.inV k hk2), fun e => a1 (by rw [← e]; exact hk2), fun e => a2 (by rw [← e]; exact hk2)⟩
    · rw [hk] at q
      have e : k = W.heap.size := by simpa using q
      exact ⟨.inr (by omega), by omega, by omega⟩
  refine ⟨by rw [cell_of_row _ _ 1 _ _ _ hb]; rfl, frozen_of_row wb b 1 _ _ hb, ?_, ?_, ?_, hV, ?_⟩
  · rw [heap_setCell_same wb b 1 _ _ _ hb]; rfl
  · exact h1.map.kept ((Below.heap_setCell _ _ _ _ a3).trans hmm)
  · exact ownsRow_keep hown fun k hk => Below.heap_setCell _ _ _ _ (hV k hk).2.1
  · exact (((below_chg hB).mono (fun _ f _ => f.elim)).grown hgrow (fun k hk _ => h.inV k hk)).setCell (fun _ => h.inB) _

theorem Half.done {S : Nat → Prop} {w W W' : World} {b m : Nat} {v v0 : Value} {L : List Kp} {n : Nat} {l : Lm} (h0 : TS S w b m v0 L n) (h : Half S w W b m v L (l.bed, l.kind)) (hM : MapAt ownV okO W' m (fM (L ++ [⟨l, 0⟩]))) (hC : Chg (fun k => k = m) W W') (hok : OkT (L ++ [⟨l, 0⟩]) n) : LeftT S w W' b (L ++ [⟨l, 0⟩]) n := by
  obtain ⟨_, _, a3⟩ := h0.apart
  have hs := h.chg.size
  have hs2 := hC.size
  refine ⟨fun k => S k ∨ v.ownBlock = some k, ⟨m, v, (hC.block b (by have := h0.lt b h0.inB; omega) (fun q => a3 q.symm)).trans h.head, hM, ?_, .inl h0.inB, .inl h0.inM, fun k hk => .inr hk, fun k hk => ?_, hok⟩, h.chg.trans hC (fun k hk _ => by rw [hk]; exact h0.inM), fun k hk => ?_⟩
  · have hl : (L ++ [(⟨l, 0⟩ : Kp)]).length = L.length + 1 := by simp
    have hk : (L ++ [(⟨l, 0⟩ : Kp)]).map keyK = L.map keyK ++ [(l.bed, l.kind)] := by simp [keyK]
    rw [hl, hk]
    exact ownsRow_keep h.own fun k hk => hC.block k (World.ownsRow.lt h.own k hk).2 (fun q => (h.inV k hk).2.2 q)
  · rcases hk with hk | hk
    · have := h0.lt k hk; omega
    · have := (World.ownsRow.lt h.own k hk).2; omega
  · rcases hk with hk | hk
    · exact .inl hk
    · exact (h.inV k hk).1

theorem fM_set (L : List Kp) (l : Lm) {x : Kp} (hf : findK L l.bed l.kind = some x) : ∀ k, (if k = (l.bed, l.kind) then some (Kv ⟨l, 0⟩) else fM L k) = fM (L.map (fun x => if isK l.bed l.kind x = true then (⟨l, 0⟩ : Kp) else x)) k := fun k => by
  unfold fM
  rw [set_find L l hf]
  by_cases h : k = (l.bed, l.kind)
  · subst h
    rw [if_pos rfl, if_pos rfl]
    rfl
  · rw [if_neg h, if_neg (fun q => h q)]

theorem fM_new (L : List Kp) (l : Lm) (hf : findK L l.bed l.kind = none) : ∀ k, (if k = (l.bed, l.kind) then some (Kv ⟨l, 0⟩) else fM L k) = fM (L ++ [⟨l, 0⟩]) k := fun k => by
  unfold fM
  rw [new_find L l hf]
  by_cases h : k = (l.bed, l.kind)
  · subst h
    rw [if_pos rfl, if_pos rfl]
    rfl
  · rw [if_neg h, if_neg (fun q => h q)]

set_option maxRecDepth 100000 in
set_option maxHeartbeats 2000000 in
theorem lset_yes (b : Nat) (l : Lm) (hm : mayL l = true) (S : Nat → Prop) (L : List Kp) (n : Nat) (w : World) (h : Tab S w b L n) :
    Calls Try.prog 11 #[.pointer (some ⟨b, 0, none⟩), Lv l] w fun e w' => e = .returned (.int .i64 (setE L l)) ∧ LeftT S w w' b (setT L l) n := by
  have MY := Hid.intro (lmay_any l)
  rw [hm] at MY
  have ho := okO_may hm
  have mixed : Try.prog.follows Departure.mixedOrders = true := by kernel_rfl
  obtain ⟨m, v, h⟩ := h
  have HH := Hid.intro h
  have HM := Hid.intro hm
  have bl := h.lt b h.inB
  have ml := h.lt m h.inM
  obtain ⟨x0, x1, x2, x3, x4⟩ := l
  have HB := Hid.intro ((Below.refl _ w).alloc (Nat.le_refl _) (.cells #[.int .i64 x0, .int .i64 x1, .int .i64 x2, .int .i64 x3, .int .i64 x4] 30))
  have NB := Hid.intro (limC (l := ⟨x0, x1, x2, x3, x4⟩) (heap_alloc_new w (.cells #[.int .i64 x0, .int .i64 x1, .int .i64 x2, .int .i64 x3, .int .i64 x4] 30)))
  have HE := Hid.intro (fun (y : Kp) (hf : findK L x0 x1 = some y) => And.intro (setT_there HM.out (l := ⟨x0, x1, x2, x3, x4⟩) hf) (fM_set L ⟨x0, x1, x2, x3, x4⟩ hf))
  have HN := Hid.intro (fun (hf : findK L x0 x1 = none) (hl : L.length < 40) => And.intro (setT_new HM.out (l := ⟨x0, x1, x2, x3, x4⟩) hf hl) (And.intro (fM_new L ⟨x0, x1, x2, x3, x4⟩ hf) (new_ok HH.out.ok HM.out hf hl)))
  have HF := Hid.intro (fun (hf : findK L x0 x1 = none) (hl : 40 ≤ L.length) => setT_full HM.out (l := ⟨x0, x1, x2, x3, x4⟩) hf hl)
  obtain ⟨SE, hSE⟩ : ∃ SE, SE = setE L ⟨x0, x1, x2, x3, x4⟩ := ⟨_, rfl⟩
  obtain ⟨ST, hST⟩ : ∃ ST, ST = setT L ⟨x0, x1, x2, x3, x4⟩ := ⟨_, rfl⟩
  rw [← hSE, ← hST]
  have HSE := Hid.intro hSE
  have HST := Hid.intro hST
  clear hSE hST
  clear h hm
  go_enter Try.func11, Try.ntmps11
  go_wp2_with fail
  refine (MY.out _).mono ?_
  rintro e w1 ⟨rfl, B1⟩
  have BW := HB.out.trans (B1.mono HB.out.size)
  have BWH := Hid.intro BW
  obtain ⟨c0, c1, c2, c3, c4⟩ := NB.out.below B1
  simp only [Nat.zero_add] at c0 c1 c2 c3 c4
  have LA := Hid.intro (NB.out.below B1)
  have BO := BW.alloc BW.size (.cells #[.int .i64 x0, .int .i64 x1] 62)
  have BOH := Hid.intro BO
  have h2 := HH.out.below BO
  have k0 := h2.cells.1
  have k1 := h2.cells.2.1
  have o0 : (w1.alloc (.cells #[.int .i64 x0, .int .i64 x1] 62)).cell? ⟨w1.heap.size, 0, none⟩ = some (.int .i64 x0) := by rw [cell_of_row _ _ 0 _ _ _ (heap_alloc_new w1 _)]; rfl
  have o1 : (w1.alloc (.cells #[.int .i64 x0, .int .i64 x1] 62)).cell? ⟨w1.heap.size, 1, none⟩ = some (.int .i64 x1) := by rw [cell_of_row _ _ 1 _ _ _ (heap_alloc_new w1 _)]; rfl
  have H2 := Hid.intro h2
  have OB := Hid.intro (show w.heap.size ≤ w1.heap.size ∧ (w1.alloc (.cells #[.int .i64 x0, .int .i64 x1] 62)).heap[w1.heap.size]? = some (.cells #[.int .i64 x0, .int .i64 x1] 62 (0, 0)) from ⟨BW.size, heap_alloc_new w1 _⟩)
  have LA2 := Hid.intro (LA.out.below ((Below.refl w1.heap.size w1).alloc (Nat.le_refl _) (.cells #[.int .i64 x0, .int .i64 x1] 62)))
  clear MY B1 BW BO h2 NB HB LA BWH
  go_wp2_with fail
  clear c0 c1 c2 c3 c4
  generalize w1.alloc (.cells #[.int .i64 x0, .int .i64 x1] 62) = w2 at *
  generalize w1.heap.size = ob at *
  obtain ⟨lb, hlb⟩ : ∃ lb, lb = w.heap.size := ⟨_, rfl⟩
  rw [← hlb] at LA2 ⊢
  have HLB := Hid.intro hlb
  clear hlb
  obtain ⟨⟨⟨y0, y1, y2, y3, y4⟩, yn⟩, hy⟩ : ∃ y, y = (findK L x0 x1).getD kz := ⟨_, rfl⟩
  obtain ⟨w3, hw3⟩ : ∃ w3, w3 = w2.alloc (.cells #[.int .i64 0, .int .i64 0, .int .i64 0, .int .i64 0, .int .i64 0, .int .i64 0] 53) := ⟨_, rfl⟩
  have B3 : Below w2.heap.size w2 w3 := by rw [hw3]; exact (Below.refl _ w2).alloc (Nat.le_refl _) _
  have LK := (H2.out.below (w' := w2.drew) (Below.refl _ _).drew).look true ho
  have LK2 := (H2.out.below (w' := w3.drew) B3.drew).look true ho
  have e0 := (H2.out.below B3).cells.1
  have p0 := (B3.cell (cell_lt o0)).trans o0
  have p1 := (B3.cell (cell_lt o1)).trans o1
  rw [if_pos rfl, ← hy] at LK LK2
  rw [hw3] at LK2 e0 p0 p1
  have HY := Hid.intro hy
  clear hy B3 hw3
  have LE : Hid (L.length ≤ 40) := HH.out.ok.few
  go_region
  all_goals
    have B4 := Hid.intro (BOH.out.alloc BOH.out.size (.cells #[.int .i64 y0, .int .i64 y1, .int .i64 y2, .int .i64 y3, .int .i64 y4, .int .i64 (yn : Int)] 53)).drew
    have O4 := Hid.intro (((Below.refl w2.heap.size w2).alloc (Nat.le_refl _) (.cells #[.int .i64 y0, .int .i64 y1, .int .i64 y2, .int .i64 y3, .int .i64 y4, .int .i64 (yn : Int)] 53)).drew)
    have L4 := Hid.intro (LA2.out.below O4.out)
    have q0 := (O4.out.cell (cell_lt o0)).trans o0
    have q1 := (O4.out.cell (cell_lt o1)).trans o1
    have K4 := Hid.intro (HH.out.below B4.out)
    clear LK LK2 e0 p0 p1 o0 o1 k0 k1 BOH H2 LA2 O4
    generalize (w2.alloc (.cells #[.int .i64 y0, .int .i64 y1, .int .i64 y2, .int .i64 y3, .int .i64 y4, .int .i64 (yn : Int)] 53)).drew = w4 at *
    have k0 := K4.out.cells.1
    rcases hf : findK L x0 x1 with _ | y
    · by_cases hl : L.length < 40
      · obtain ⟨⟨e1, e2⟩, e3, e4⟩ := HN.out hf hl
        have ES : SE = 0 := by rw [HSE.out]; exact e1
        have E2 := Hid.intro e2
        have E3 := Hid.intro e3
        have E4 := Hid.intro e4
        subst ES
        have k1 := K4.out.cells.2.1
        have LEN : Hid (L.length = (L.map keyK).length) := by rw [Hid, List.length_map]
        have BN := (Below.refl w4.heap.size w4).alloc (Nat.le_refl _) (.cells #[.int .i64 x0, .int .i64 x1] 62)
        have OW := Hid.intro (K4.out.below BN).own
        have NB : Hid ((w4.alloc (.cells #[.int .i64 x0, .int .i64 x1] 62)).heap[w4.heap.size]? = some (.cells (ocell (x0, x1)).toArray 62 (0, 0))) := heap_alloc_new w4 _
        have r1 : (w4.alloc (.cells #[.int .i64 x0, .int .i64 x1] 62)).cell? ⟨b, 1, none⟩ = some v := (K4.out.below BN).cells.2.1
        have OA := Hid.intro (show (w4.alloc (.cells #[.int .i64 x0, .int .i64 x1] 62)).cell? ⟨ob, 0, none⟩ = some (.int .i64 x0) ∧ (w4.alloc (.cells #[.int .i64 x0, .int .i64 x1] 62)).cell? ⟨ob, 1, none⟩ = some (.int .i64 x1) from ⟨(BN.cell (cell_lt q0)).trans q0, (BN.cell (cell_lt q1)).trans q1⟩)
        have LN := Hid.intro (L4.out.below BN)
        have BND := Hid.intro (B4.out.trans (BN.mono B4.out.size)).drew
        have OBH := Hid.intro OB.out.1
        obtain ⟨ao, c, hv, _⟩ := HH.out.form
        subst hv
        have hl2 : ¬ (40 : Int) ≤ (L.length : Int) := by omega
        have HAL : Hid (∀ (v' : Value) (wb : World), wb.ownsRow 0 62 2 v' (L.length + 1) (ocells (L.map keyK ++ [(x0, x1)])) → (w4.alloc (.cells #[.int .i64 x0, .int .i64 x1] 62)).drew.grownBy wb (Value.slice ao L.length c).ownBlock → (v'.ownBlock = (Value.slice ao L.length c).ownBlock ∨ v'.ownBlock = some (w4.alloc (.cells #[.int .i64 x0, .int .i64 x1] 62)).drew.heap.size) →
            wb.cell? ⟨b, 1, none⟩ = some (.slice ao L.length c) ∧ wb.frozen? ⟨b, 1, none⟩ = false ∧ Half S w (wb.setCell ⟨b, 1, none⟩ v') b m v' L (x0, x1) ∧ OwAt (wb.setCell ⟨b, 1, none⟩ v') ob 0 (x0, x1) ∧ LmAt (wb.setCell ⟨b, 1, none⟩ v') lb 0 ⟨x0, x1, x2, x3, x4⟩ ∧ (wb.setCell ⟨b, 1, none⟩ v').cell? ⟨b, 0, none⟩ = some (.map (some m))) := fun v' wb hown hgrow hat => by
          obtain ⟨z1, z2, z3⟩ := HH.out.half BND.out hown hgrow hat
          have cg : Chg (fun k => S k) (w4.alloc (.cells #[.int .i64 x0, .int .i64 x1] 62)).drew (wb.setCell ⟨b, 1, none⟩ v') := ((Chg.refl _ _).grown hgrow (fun k hk _ => HH.out.inV k hk)).setCell (fun _ => HH.out.inB) _
          have nob : ¬ S ob := fun q => by have := HH.out.lt _ q; have := OBH.out; omega
          have nlb : ¬ S lb := fun q => by have := HH.out.lt _ q; have := HLB.out; omega
          exact ⟨z1, z2, z3, ⟨cell_chg cg OA.out.1 nob, cell_chg cg OA.out.2 nob⟩, LN.out.chg (S := fun k => S k) ⟨cg.os, cg.tape, cg.output, cg.size, cg.block⟩ nlb, by rw [cell_of_row _ _ 0 _ _ _ z3.head]; rfl⟩
        clear hf e1 e2 e3 e4 HN HF HE BN OA
        simp only [Option.isSome_none]
        obtain ⟨LL, hLL⟩ : ∃ LL, LL = L.length := ⟨_, rfl⟩
        rw [← hLL] at hl2 k1 LEN OW r1 HAL hl
        clear hLL
        go_wp2_with fail
        go_region_law (first
          | (refine step_append_own rfl (.tmp 41) (.tmp 43) rfl (.slice ao LL c) (L.map keyK) LL LEN.out (by rfl) OW.out w4.heap.size (x0, x1) (by rfl) NB.out (by omega) ?_; intro v' wb hown hgrow hat; obtain ⟨c2, f2, z3, z4, z5, z6⟩ := HAL.out v' wb hown hgrow hat; have Z3 := Hid.intro z3; have Z4 := Hid.intro z4; have Z5 := Hid.intro z5; have Z6 := Hid.intro z6; obtain ⟨ao', cc', hv', _⟩ := ownsRow_form hown; subst hv'; clear hown hgrow hat z3 z4 z5 z6)
          | fail)
        all_goals
          obtain ⟨l0, l1, l2, l3, l4⟩ := Z5.out
          obtain ⟨n0, n1⟩ := Z4.out
          have n2 := Z6.out
          simp only [Nat.zero_add] at l0 l1 l2 l3 l4 n0 n1
          clear c2 f2 k0 k1 q0 q1 r1
          generalize wb.setCell ⟨b, 1, none⟩ (.slice ao' (LL + 1) cc') = w6 at *
          go_wp2_with fail
          go_still_tail 7, mixed
          refine wpList_store_at rfl _ _ _ 57 rfl 53 own_by Try.underlying57 m (fM L) rfl (Z3.out.map.kept rfl) (x0, x1) (.agg #[.int .i64 x0, .int .i64 x1, .int .i64 x2, .int .i64 x3, .int .i64 x4, .int .i64 0]) rfl rfl ho ?_
          intro w7 m7 C7 s7
          have M7 := m7.congr E3.out
          have FIN := Hid.intro (show LeftT S w w7 b ST n by
            rw [HST.out, E2.out]
            exact Half.done (l := ⟨x0, x1, x2, x3, x4⟩) HH.out Z3.out M7 ⟨C7.os, C7.tape, C7.output, C7.size, C7.block⟩ E4.out)
          clear m7 C7 s7 M7 Z3 Z4 Z5 Z6 l0 l1 l2 l3 l4 n0 n1 n2
          go_wp2
          go_ret
          exact ⟨rfl, FIN.out⟩
      · obtain ⟨q1, q2⟩ := HF.out hf (by omega)
        have FIN := Hid.intro (show LeftT S w w4 b ST n by rw [HST.out, q2]; exact LeftT.same ⟨m, v, HH.out⟩ B4.out)
        have ES : SE = 7 := by rw [HSE.out]; exact q1
        subst ES
        have k1 := K4.out.cells.2.1
        obtain ⟨ao, c, rfl, _⟩ := HH.out.form
        have hl2 : (40 : Int) ≤ (L.length : Int) := by omega
        generalize L.length = LL at *
        clear hf q1 q2 HN HF HE
        simp only [Option.isSome_none]
        go_wp2
        go_ret
        exact ⟨rfl, FIN.out⟩
    · obtain ⟨⟨e1, e2⟩, e3⟩ := HE.out y hf
      have ES : SE = 0 := by rw [HSE.out]; exact e1
      have E3 := Hid.intro e3
      have E2 := Hid.intro e2
      subst ES
      clear hf e1 e2 e3 HN HF HE
      simp only [Option.isSome_some]
      obtain ⟨l0, l1, l2, l3, l4⟩ := L4.out
      simp only [Nat.zero_add] at l0 l1 l2 l3 l4
      go_wp2_with fail
      go_still_tail 7, mixed
      refine wpList_store_at rfl _ _ _ 57 rfl 53 own_by Try.underlying57 m (fM L) rfl (K4.out.map.kept rfl) (x0, x1) (.agg #[.int .i64 x0, .int .i64 x1, .int .i64 x2, .int .i64 x3, .int .i64 x4, .int .i64 0]) rfl rfl ho ?_
      intro w5 m5 C5 s5
      have M5 := m5.congr E3.out
      have FIN := Hid.intro (show LeftT S w w5 b ST n by
        rw [HST.out, E2.out]
        exact HH.out.turned (W := w4.drew) B4.out.drew M5 C5 (set_keys L ⟨x0, x1, x2, x3, x4⟩) (set_ok HH.out.ok HM.out))
      clear m5 C5 s5 M5 E3 E2 L4 K4 B4 l0 l1 l2 l3 l4 q0 q1 k0
      go_wp2
      go_ret
      exact ⟨rfl, FIN.out⟩

theorem lset_any (b : Nat) (l : Lm) (S : Nat → Prop) (L : List Kp) (n : Nat) (w : World) (h : Tab S w b L n) :
    Calls Try.prog 11 #[.pointer (some ⟨b, 0, none⟩), Lv l] w fun e w' => e = .returned (.int .i64 (setE L l)) ∧ LeftT S w w' b (setT L l) n := by
  cases hm : mayL l with
  | false => exact lset_not b l hm S L n w h
  | true => exact lset_yes b l hm S L n w h

end Go.Proofs.Ytcloneccfbcclaa
