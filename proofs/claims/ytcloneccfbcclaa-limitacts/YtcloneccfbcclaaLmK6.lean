/- Package limit: maps.DeleteFunc of a table's map, Drop. -/
import Derived.Test.YtcloneccfbcclaaLmK3
import Derived.Test.YtcloneccfbcclaaLmK5
namespace Go.Proofs.Ytcloneccfbcclaa
open Go.RowKit
open Bt

/-- The closure that finds a bed's limits in the map. -/
abbrev delM (bt : Nat) : Value := .func (.func 31) #[] #[.pointer (some ⟨bt, 0, none⟩)]

theorem lclo2_any (o : Int × Int) (y : Kp) (bed : Int) (bt : Nat) (w : World) (hc : w.cell? ⟨bt, 0, none⟩ = some (.int .i64 bed)) :
    Calls Try.prog 31 #[.agg #[.int .i64 o.1, .int .i64 o.2], Kv y, .pointer (some ⟨bt, 0, none⟩)] w fun e w' => e = .returned (.bool (decide (o.1 = bed))) ∧ Below w.heap.size w w' := by
  obtain ⟨o0, o1⟩ := o
  obtain ⟨⟨x0, x1, x2, x3, x4⟩, xn⟩ := y
  show Calls Try.prog 31 #[.agg #[.int .i64 o0, .int .i64 o1], .agg #[.int .i64 x0, .int .i64 x1, .int .i64 x2, .int .i64 x3, .int .i64 x4, .int .i64 (xn : Int)], .pointer (some ⟨bt, 0, none⟩)] w fun e w' => e = .returned (.bool (decide (o0 = bed))) ∧ Below w.heap.size w w'
  have B1 := (Below.refl w.heap.size w).alloc (Nat.le_refl _) (.cells #[.int .i64 o0, .int .i64 o1] 62)
  have B2 := B1.alloc B1.size (.cells #[.int .i64 x0, .int .i64 x1, .int .i64 x2, .int .i64 x3, .int .i64 x4, .int .i64 (xn : Int)] 53)
  have hd := cell_chg (below_chg B2) hc id
  have HB := Hid.intro B2
  have hB : bt < w.heap.size := cell_lt hc
  have e0 : ((w.alloc (.cells #[.int .i64 o0, .int .i64 o1] 62)).alloc (.cells #[.int .i64 x0, .int .i64 x1, .int .i64 x2, .int .i64 x3, .int .i64 x4, .int .i64 (xn : Int)] 53)).cell? ⟨w.heap.size, 0, none⟩ = some (.int .i64 o0) := by
    rw [cell_of_row _ _ 0 _ _ _ ((Below.heap_alloc _ _ _ (by simp)).trans (heap_alloc_new w _))]; rfl
  clear B1 B2 hc
  go_enter Try.func31, Try.ntmps31
  go_wp2
  go_ret
  exact ⟨rfl, HB.out⟩

/-- The map under way: a bed's entries that are no more to come are gone. -/
def fD (L : List Kp) (bed : Int) (left : Int × Int → Bool) : Int × Int → Option Value := fun k => if (decide (k.1 = bed) && !left k) = true then none else fM L k

theorem fD_start (L : List Kp) (bed : Int) : ∀ k, fM L k = fD L bed (fun x => (fM L x).isSome) k := fun k => by
  unfold fD
  cases h : fM L k with
  | none => simp [h]
  | some v => simp [h]

theorem fD_gone {L : List Kp} {bed : Int} {left : Int × Int → Bool} {x : Int × Int} (h : x.1 = bed) : ∀ z, (if z = x then none else fD L bed left z) = fD L bed (fun z => left z && !decide (z = x)) z := fun z => by
  by_cases q : z = x
  · subst q
    rw [if_pos rfl]
    simp [fD, h]
  · rw [if_neg q]
    simp [fD, q]

theorem fD_stays {L : List Kp} {bed : Int} {left : Int × Int → Bool} {x : Int × Int} (h : ¬ x.1 = bed) : ∀ z, fD L bed left z = fD L bed (fun z => left z && !decide (z = x)) z := fun z => by
  by_cases q : z = x
  · subst q
    simp [fD, h]
  · simp [fD, q]

theorem fD_end {L : List Kp} {bed : Int} {left : Int × Int → Bool} (h : ∀ x, (fD L bed left x).isSome → left x = false) : ∀ k, fD L bed left k = fM (dropT L bed) k := fun k => by
  have e : fM (dropT L bed) k = if k.1 = bed then none else fM L k := by
    unfold fM
    rw [dropT_find]
    split <;> rfl
  rw [e]
  by_cases q : k.1 = bed
  · rw [if_pos q]
    cases r : left k with
    | false => simp [fD, q, r]
    | true =>
      cases s : fD L bed left k with
      | none => rfl
      | some v =>
        have := h k (by rw [s]; rfl)
        rw [r] at this
        cases this
  · rw [if_neg q]
    simp [fD, q]

theorem fD_val {L : List Kp} {bed : Int} {left : Int × Int → Bool} {x : Int × Int} {v : Value} (h : fD L bed left x = some v) : ∃ y : Kp, v = Kv y := by
  unfold fD at h
  split at h
  · cases h
  · unfold fM at h
    obtain ⟨y, _, rfl⟩ := Option.map_eq_some_iff.1 h
    exact ⟨y, rfl⟩

set_option maxRecDepth 100000 in
set_option maxHeartbeats 2000000 in
theorem lmdel_any (m : Nat) (L : List Kp) (bed : Int) (bt : Nat) (hbm : bt ≠ m) (w : World) (hc : w.cell? ⟨bt, 0, none⟩ = some (.int .i64 bed)) (hM : MapAt ownV okO w m (fM L)) :
    Calls Try.prog 30 #[.map (some m), delM bt] w fun e w' => e = .returned (.tuple #[]) ∧ MapAt ownV okO w' m (fM (dropT L bed)) ∧ Chg (fun k => k = m) w w' := by
  have HM := Hid.intro hM
  have HC := Hid.intro hc
  have ml := hM.lt
  have btl : bt < w.heap.size := cell_lt hc
  clear hM hc
  go_enter Try.func30, Try.ntmps30
  go_wp2_with (at_range; refine wpList_range_map rfl _ 57 rfl 62 53 Try.underlying57 m (fM L) rfl HM.out ?_; intro w0 cnt0 hrg0 hB0 hs0)
  go_frame
  have R0 := Hid.intro (hrg0.congr (fD_start L bed))
  have C0 := Hid.intro ((below_chg hB0).mono (T := fun k => k = m) (fun _ f _ => f.elim))
  clear hrg0 hB0 hs0
  go_loopw [8] (fun _ ws => ∃ (left : Int × Int → Bool) (cnt : Nat), RngAt ownV okO ws m w.heap.size (fD L bed left) left cnt ∧ Chg (fun k => k = m) w ws) (fun _ ws => ws.rangeLeft m w.heap.size)
  case atStart => exact ⟨_, _, R0.out, C0.out⟩
  case round =>
    obtain ⟨left, cnt, hrg, hch⟩ := hrel
    clear R0 C0
    go_wp2_with (at_next; refine wpList_next_map rfl _ rfl 62 own_by m w.heap.size _ _ _ rfl hrg ?_ ?_)
    · intro hl0
      have FIN := Hid.intro (show MapAt ownV okO wr m (fM (dropT L bed)) from hrg.map.congr (fD_end (fun x => hl0 x.1 x.2)))
      have CH := Hid.intro hch
      clear hrg hch hl0
      go_wp2
      go_end0
      exact ⟨rfl, FIN.out, CH.out⟩
    · intro k1 k2 v w1 cnt1 hok hfx hlx hrg1 hlt hC1 hs1 hen
      obtain ⟨y, rfl⟩ := fD_val hfx
      obtain ⟨⟨x0, x1, x2, x3, x4⟩, xn⟩ := y
      have hen' : (Instr.entry (.pointer (some ⟨w.heap.size, 0, none⟩))).run Try.prog w1 = .ok (.tuple #[.agg #[.int .i64 k1, .int .i64 k2], .agg #[.int .i64 x0, .int .i64 x1, .int .i64 x2, .int .i64 x3, .int .i64 x4, .int .i64 (xn : Int)]]) w1 := hen
      have C1 := hch.trans hC1 (fun k hk hlt => by omega)
      have B1 := (Below.refl w1.heap.size w1).alloc (Nat.le_refl _) (.cells #[.int .i64 k1, .int .i64 k2] 62)
      have B2 := B1.alloc B1.size (.cells #[.int .i64 x0, .int .i64 x1, .int .i64 x2, .int .i64 x3, .int .i64 x4, .int .i64 (xn : Int)] 53)
      have hb1 := cell_chg (below_chg B2) (cell_chg C1 HC.out hbm) id
      have CL := Hid.intro (lclo2_any (k1, k2) ⟨⟨x0, x1, x2, x3, x4⟩, xn⟩ bed bt _ hb1)
      have NO : Hid (((w1.alloc (.cells #[.int .i64 k1, .int .i64 k2] 62)).alloc (.cells #[.int .i64 x0, .int .i64 x1, .int .i64 x2, .int .i64 x3, .int .i64 x4, .int .i64 (xn : Int)] 53)).heap[w1.heap.size]? = some (.cells #[.int .i64 k1, .int .i64 k2] 62 (0, 0))) := (Below.heap_alloc _ _ _ (by simp)).trans (heap_alloc_new w1 _)
      have LE := Hid.intro hrg.left_eq
      have B2H := Hid.intro B2
      have R1 := Hid.intro hrg1
      have C1H := Hid.intro C1
      have hml : m < w1.heap.size := by have := C1.size; omega
      have hrl : w.heap.size < w1.heap.size := hrg1.lt
      have hrn : w.heap.size ≠ m := by omega
      clear hen hrg1 hC1 hrg hch B1 B2 hb1 C1 hfx hs1
      unfold ownV
      by_cases hk : k1 = bed
      · have e : decide ((k1, k2).1 = bed) = true := by simpa using hk
        rw [e] at CL
        have FG := Hid.intro (fD_gone (L := L) (left := left) (x := (k1, k2)) hk)
        clear e hk
        go_wp2_with fail
        refine CL.out.mono ?_
        rintro e w3 ⟨rfl, B3⟩
        have B4 := B2H.out.trans (B3.mono B2H.out.size)
        have n3 := (B3.block _ (lt_of_heap NO.out)).trans NO.out
        have d0 : w3.cell? ⟨w1.heap.size, 0, none⟩ = some (.int .i64 k1) := by rw [cell_of_row _ _ 0 _ _ _ n3]; rfl
        have d1 : w3.cell? ⟨w1.heap.size, 1, none⟩ = some (.int .i64 k2) := by rw [cell_of_row _ _ 1 _ _ _ n3]; rfl
        have R3 := Hid.intro (R1.out.kept (B4.block m hml) (B4.block _ hrl))
        have C3 := Hid.intro (C1H.out.trans (below_chg B4) (fun _ f _ => f.elim))
        clear CL B3 B4 n3 NO B2H R1 C1H hen'
        go_wp2_with (at_delete; refine wpList_delete_map rfl _ _ 57 62 rfl 53 own_by Try.underlying57 m w.heap.size _ _ _ rfl R3.out (k1, k2) rfl hok ?_; intro w4 cnt4 hrg4 hle hC4 hs4)
        have R4 := Hid.intro (hrg4.congr FG.out)
        have L4 := Hid.intro hrg4.left_eq
        have C4 := Hid.intro (C3.out.trans hC4 (fun _ z _ => z))
        clear hrg4 hC4 hs4 R3 C3 d0 d1
        go_frame
        go_roundw
        case rel => exact ⟨_, cnt4, R4.out, C4.out⟩
        case measure => rw [L4.out, LE.out]; omega
      · have e : decide ((k1, k2).1 = bed) = false := by simpa using hk
        rw [e] at CL
        have FG := Hid.intro (fD_stays (L := L) (left := left) (x := (k1, k2)) hk)
        clear e hk
        go_wp2_with fail
        refine CL.out.mono ?_
        rintro e w3 ⟨rfl, B3⟩
        have B4 := B2H.out.trans (B3.mono B2H.out.size)
        have R3 := (R1.out.kept (B4.block m hml) (B4.block _ hrl)).congr FG.out
        have R4 := Hid.intro R3
        have L4 := Hid.intro R3.left_eq
        have C4 := Hid.intro (C1H.out.trans (below_chg B4) (fun _ f _ => f.elim))
        clear CL B3 B4 NO B2H R1 C1H hen' R3
        go_wp2
        go_roundw
        case rel => exact ⟨_, cnt1, R4.out, C4.out⟩
        case measure => rw [L4.out, LE.out]; exact hlt

theorem keptO_keys (L : List Kp) (bed : Int) : keptO (L.map keyK) bed = (dropT L bed).map keyK := by
  rw [dropT_keys]
  rfl

theorem ldrop_nil (bed : Int) (w : World) :
    Calls Try.prog 14 #[.pointer none, .int .i64 bed] w fun e w' => e = .returned (.int .i64 0) ∧ Below w.heap.size w w' := by
  have HB := Hid.intro ((Below.refl _ w).alloc (Nat.le_refl _) (.cells #[.int .i64 bed] 3))
  go_enter Try.func14, Try.ntmps14
  go_wp2
  go_ret
  exact ⟨rfl, HB.out⟩

set_option maxRecDepth 100000 in
set_option maxHeartbeats 2000000 in
theorem ldrop_any (b : Nat) (bed : Int) (S : Nat → Prop) (L : List Kp) (n : Nat) (w : World) (h : Tab S w b L n) :
    Calls Try.prog 14 #[.pointer (some ⟨b, 0, none⟩), .int .i64 bed] w fun e w' => e = .returned (.int .i64 (dropN L bed : Int)) ∧ LeftT S w w' b (dropT L bed) n := by
  obtain ⟨m, v, h⟩ := h
  have HH := Hid.intro h
  have few := h.ok.few
  have BA := (Below.refl w.heap.size w).alloc (Nat.le_refl _) (.cells #[.int .i64 bed] 3)
  have BAH := Hid.intro BA
  have h1 := h.below BA
  have H1 := Hid.intro h1
  have cb : (w.alloc (.cells #[.int .i64 bed] 3)).cell? ⟨w.heap.size, 0, none⟩ = some (.int .i64 bed) := by rw [cell_of_row _ _ 0 _ _ _ (heap_alloc_new w _)]; rfl
  have nv : v.ownBlock ≠ some w.heap.size := fun z => by have := h.lt _ (h.inV _ z); omega
  have own1 := h1.own
  rw [← List.length_map (f := keyK)] at own1
  have DE := Hid.intro (ldel_any v (L.map keyK) (by rw [List.length_map]; omega) bed w.heap.size nv _ cb own1)
  have CB := Hid.intro cb
  obtain ⟨c0, c1, _⟩ := h1.cells
  have DN := Hid.intro (drop_len L bed)
  have OKD := Hid.intro (dropT_ok h.ok bed)
  have fewD := (dropT_ok h.ok bed).few
  have KK := Hid.intro (keptO_keys L bed)
  have LK : Hid ((keptO (L.map keyK) bed).length = (dropT L bed).length) := by rw [Hid, KK.out, List.length_map]
  obtain ⟨dn, hdn⟩ : ∃ dn, dn = dropN L bed := ⟨_, rfl⟩
  rw [← hdn] at DN ⊢
  obtain ⟨ao, c, hv, _⟩ := h.form
  subst hv
  obtain ⟨LL, hLL⟩ : ∃ LL, LL = L.length := ⟨_, rfl⟩
  obtain ⟨DL, hDL⟩ : ∃ DL, DL = (dropT L bed).length := ⟨_, rfl⟩
  rw [← hLL] at c1 DE DN few
  rw [← hDL] at DN fewD
  have HLL := Hid.intro hLL
  have HDL := Hid.intro hDL
  have bl := h.lt b h.inB
  have ml := h.lt m h.inM
  clear h h1 BA cb nv own1 hdn hLL hDL
  go_enter Try.func14, Try.ntmps14
  go_wp2_with fail
  refine DE.out.mono ?_
  rintro e w2 ⟨v2, rfl, o1, o2, o3⟩
  have hb2 : w2.heap[b]? = some (.cells #[.map (some m), .slice ao LL c] 60 (0, 0)) := (o3.block b (H1.out.lt b H1.out.inB) (fun z => H1.out.apart.1 (by rw [← HLL.out]; exact z))).trans (by rw [HLL.out]; exact H1.out.head)
  have hm2 : w2.heap[m]? = (w.alloc (.cells #[.int .i64 bed] 3)).heap[m]? := o3.block m (H1.out.lt m H1.out.inM) (fun z => H1.out.apart.2.1 (by rw [← HLL.out]; exact z))
  have hbt2 : w2.cell? ⟨w.heap.size, 0, none⟩ = some (.int .i64 bed) := cell_chg o3 CB.out (fun z => by have := HH.out.lt _ (HH.out.inV _ (by rw [← HLL.out]; exact z)); simp at this)
  have e0 : w2.cell? ⟨b, 0, none⟩ = some (.map (some m)) := by rw [cell_of_row _ _ 0 _ _ _ hb2]; rfl
  have e1 : w2.cell? ⟨b, 1, none⟩ = some (.slice ao LL c) := by rw [cell_of_row _ _ 1 _ _ _ hb2]; rfl
  have f1 : w2.frozen? ⟨b, 1, none⟩ = false := frozen_of_row w2 b 1 _ _ hb2
  have mb : m ≠ b := HH.out.apart.2.2
  have M3 : MapAt ownV okO (w2.setCell ⟨b, 1, none⟩ v2) m (fM L) := H1.out.map.kept ((Below.heap_setCell _ _ _ _ mb).trans hm2)
  have hbt3 : (w2.setCell ⟨b, 1, none⟩ v2).cell? ⟨w.heap.size, 0, none⟩ = some (.int .i64 bed) := cell_chg (Chg.setCell (S := fun k => k = b) (Chg.refl _ w2) (fun _ => rfl) v2) hbt2 (by simp; omega)
  have MD := Hid.intro (lmdel_any m L bed w.heap.size (by omega) _ hbt3 M3)
  have hV : Hid (∀ k, v2.ownBlock = some k → S k ∧ k ≠ b ∧ k ≠ m) := fun k hk => by
    rw [o1] at hk
    have hk2 : (Value.slice ao L.length c).ownBlock = some k := by rw [← HLL.out]; exact hk
    exact ⟨HH.out.inV k hk2, fun q => HH.out.apart.1 (by rw [← q]; exact hk2), fun q => HH.out.apart.2.1 (by rw [← q]; exact hk2)⟩
  rw [KK.out, List.length_map, ← HDL.out] at o2
  have O3 := Hid.intro (show (w2.setCell ⟨b, 1, none⟩ v2).ownsRow 0 62 2 v2 DL (ocells ((dropT L bed).map keyK)) from ownsRow_keep o2 fun k hk => Below.heap_setCell _ _ _ _ (hV.out k hk).2.1)
  have hd3 := Hid.intro (show (w2.setCell ⟨b, 1, none⟩ v2).heap[b]? = some (.cells #[.map (some m), v2] 60 (0, 0)) from by rw [heap_setCell_same w2 b 1 _ _ _ hb2]; rfl)
  have C3 := Hid.intro (show Chg S w (w2.setCell ⟨b, 1, none⟩ v2) from (((below_chg BAH.out).mono (fun _ f _ => f.elim)).trans o3 (fun k hk _ => HH.out.inV k (by rw [← HLL.out]; exact hk))).setCell (fun _ => HH.out.inB) _)
  obtain ⟨a2, c2, hv2, _⟩ := ownsRow_form o2
  subst hv2
  have g0 : (w2.setCell ⟨b, 1, none⟩ (.slice a2 DL c2)).cell? ⟨b, 0, none⟩ = some (.map (some m)) := by rw [cell_of_row _ _ 0 _ _ _ hd3.out]; rfl
  clear DE o1 o2 o3 hb2 hm2 hbt2 hbt3 M3 H1 CB BAH KK LK
  go_wp2_with fail
  refine MD.out.mono ?_
  rintro e w4 ⟨rfl, M4, C4⟩
  have bl3 : b < (w2.setCell ⟨b, 1, none⟩ (.slice a2 DL c2)).heap.size := lt_of_heap hd3.out
  have hd4 := (C4.block b bl3 (fun q => mb q.symm)).trans hd3.out
  have k1 : w4.cell? ⟨b, 1, none⟩ = some (.slice a2 DL c2) := by rw [cell_of_row _ _ 1 _ _ _ hd4]; rfl
  have FIN := Hid.intro (show LeftT S w w4 b (dropT L bed) n from
    ⟨S, ⟨m, _, hd4, M4, by
      rw [← HDL.out]
      exact ownsRow_keep O3.out fun k hk => C4.block k (World.ownsRow.lt O3.out k hk).2 (hV.out k hk).2.2, HH.out.inB, HH.out.inM, fun k hk => (hV.out k hk).1, fun k hk => Nat.lt_of_lt_of_le (Nat.lt_of_lt_of_le (HH.out.lt k hk) C3.out.size) C4.size, OKD.out⟩, C3.out.trans C4 (fun k hk _ => by rw [hk]; exact HH.out.inM), fun _ => .inl⟩)
  have sd : (LL : Int) - (DL : Int) = (dn : Int) := by have := DN.out; omega
  have dn40 : dn ≤ 40 := by have := DN.out; omega
  clear MD M4 C4 bl3 hd4 hd3 O3 C3 hV g0 e0 e1 f1
  go_wp2
  go_ret
  exact ⟨rfl, FIN.out⟩

end Go.Proofs.Ytcloneccfbcclaa
