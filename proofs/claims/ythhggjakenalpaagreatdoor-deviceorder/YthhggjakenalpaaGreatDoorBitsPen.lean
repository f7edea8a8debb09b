/- Contracts of package bits: a pen. -/
import Derived.Test.YthhggjakenalpaaGreatDoorBase
namespace Go.Proofs.YthhggjakenalpaaGreatDoor
set_option maxRecDepth 100000
open Go.RowKit
open Bt

/-- A pen at block pb, its row the value v, that has written the bits l. -/
structure PenAt (w : World) (pb : Nat) (v : Value) (l : List Nat) : Prop where
  bits : Bits l
  here : w.heap[pb]? = some (.cells #[v, .int .i64 l.length] 150 (0, 0))
  row : w.ownsRow 0 5 1 v (pack l).length ((pack l).map U)

theorem PenAt.apart {w : World} {pb : Nat} {v : Value} {l : List Nat} (h : PenAt w pb v l) : v.ownBlock ≠ some pb := by
  intro e
  rcases h.row.2 with ⟨hv, _⟩ | ⟨g, cap, cur, hv, _, hh, _⟩
  · rw [hv] at e; cases e
  · rw [hv] at e
    have : g = pb := by simpa [Value.ownBlock] using e
    subst this
    rw [h.here] at hh
    simp at hh

theorem PenAt.lt {w : World} {pb : Nat} {v : Value} {l : List Nat} (h : PenAt w pb v l) : pb < w.heap.size := lt_of_heap h.here

/-- The blocks of a pen. -/
def penFoot (pb : Nat) (v : Value) (k : Nat) : Prop := k = pb ∨ v.ownBlock = some k

theorem PenAt.kept {w w' : World} {S : Nat → Prop} {pb : Nat} {v : Value} {l : List Nat} (h : PenAt w pb v l) (hc : Chg S w w') (hS : ∀ k, penFoot pb v k → ¬ S k) : PenAt w' pb v l :=
  ⟨h.bits, by rw [hc.block pb h.lt (hS pb (.inl rfl))]; exact h.here, ownsRow_of_block h.row fun k hk => hc.block k (ownsRow_lt h.row hk) (hS k (.inr hk))⟩

theorem isWidth_any (n : Int) (w : World) :
    Calls Tryz.prog 111 #[.int .i64 n] w fun e w' => e = .returned (.bool (isW n)) ∧ w = w' := by
  by_cases h1 : 1 ≤ n
  · by_cases h2 : n ≤ 32
    · have hw : isW n = true := by simp [isW, h1, h2]
      rw [hw]
      go_enter Tryz.func111, Tryz.ntmps111
      go_wp2
      go_ret
      exact ⟨rfl, rfl⟩
    · have hw : isW n = false := by simp [isW, h1, h2]
      rw [hw]
      go_enter Tryz.func111, Tryz.ntmps111
      go_wp2
      go_ret
      exact ⟨rfl, rfl⟩
  · have hw : isW n = false := by simp [isW, h1]
    rw [hw]
    go_enter Tryz.func111, Tryz.ntmps111
    go_wp2
    go_ret
    exact ⟨rfl, rfl⟩

theorem shiftOf_any (n : Nat) (hn : n < 2 ^ 62) (w : World) :
    Calls Tryz.prog 150 #[.int .i64 n] w fun e w' => e = .returned (.int .i64 ((7 - n % 8 : Nat) : Int)) ∧ w' = w := by
  have h8 : n % 8 < 8 := Nat.mod_lt _ (by decide)
  go_enter Tryz.func150, Tryz.ntmps150
  go_wp2
  go_ret
  exact ⟨ret_int (by omega), rfl⟩

theorem isField_any (n m : Int) (w : World) :
    Calls Tryz.prog 151 #[.int .i64 n, .int .i64 m] w fun e w' => e = .returned (.bool (isF n m)) ∧ w = w' := by
  cases h : isW m with
  | false =>
    have hf : isF n m = false := by simp [isF, h]
    rw [hf]
    go_enter Tryz.func151, Tryz.ntmps151
    go_wp2_with (go_at_call 111; refine (isWidth_any _ _).mono ?_; rintro e w' ⟨rfl, rfl⟩; rw [h])
    go_ret
    exact ⟨rfl, rfl⟩
  | true =>
    obtain ⟨h1, h2⟩ := isW_true h
    by_cases h0 : 0 ≤ n
    · go_enter Tryz.func151, Tryz.ntmps151
      go_wp2_with (go_at_call 111; refine (isWidth_any _ _).mono ?_; rintro e w' ⟨rfl, rfl⟩; rw [h])
      go_ret
      exact ⟨ret_bool (isF_eq h h0).symm, rfl⟩
    · have hf : isF n m = false := by simp [isF, h0]
      rw [hf]
      go_enter Tryz.func151, Tryz.ntmps151
      go_wp2_with (go_at_call 111; refine (isWidth_any _ _).mono ?_; rintro e w' ⟨rfl, rfl⟩; rw [h])
      go_ret
      exact ⟨rfl, rfl⟩

/-- The byte that is stored. -/
def orByte (old b n : Nat) : Value := .int .u8 (bits BinOp.or IntKind.u8 (old : Int) (wrap64 ((b : Int) * 2 ^ (7 - n % 8)) % 256))

theorem orByte_zero (b n : Nat) (h : n % 8 = 0) : orByte 0 b n = .int .u8 (bits BinOp.or IntKind.u8 0 (wrap64 ((b : Int) * 128) % 256)) := by
  simp [orByte, h]

theorem orByte_eq (old b n : Nat) (ho : old < 256) (hb : b < 2) : orByte old b n = U (old ||| b * 2 ^ (7 - n % 8)) := by
  have h8 : n % 8 < 8 := Nat.mod_lt _ (by decide)
  have hlt : b * 2 ^ (7 - n % 8) < 256 := by
    generalize n % 8 = r at h8
    rcases (show b = 0 ∨ b = 1 by omega) with rfl | rfl
    · simp
    · match r, h8 with
      | 0, _ => decide
      | 1, _ => decide
      | 2, _ => decide
      | 3, _ => decide
      | 4, _ => decide
      | 5, _ => decide
      | 6, _ => decide
      | 7, _ => decide
  have e : ((b : Int) * 2 ^ (7 - n % 8)) = ((b * 2 ^ (7 - n % 8) : Nat) : Int) := by simp
  unfold orByte U
  rw [e, IntWalk.wrap64_in _ (by omega), Int.emod_eq_of_lt (by omega) (by omega), u8_or_nat _ _ ho hlt]

set_option maxRecDepth 100000 in
set_option maxHeartbeats 400000 in
theorem write_old (pb g cap n m : Nat) (b : Nat) (old : Nat) (hn : n < 2 ^ 40) (hn8 : ¬ n % 8 = 0) (hm : n / 8 < m) (w : World)
    (c0 : w.cell? ⟨pb, 0, none⟩ = some (.slice (some ⟨g, 0, none⟩) m cap)) (c1 : w.cell? ⟨pb, 1, none⟩ = some (.int .i64 n))
    (f1 : w.frozen? ⟨pb, 1, none⟩ = false)
    (cg : w.cell? ⟨g, ((n : Int) / 8).toNat, none⟩ = some (U old)) (fg : w.frozen? ⟨g, ((n : Int) / 8).toNat, none⟩ = false) (hne : ¬ pb = g) (hne' : ¬ g = pb) :
    Calls Tryz.prog 152 #[.pointer (some ⟨pb, 0, none⟩), .int .i64 b] w fun e w' => e = .returned (.tuple #[]) ∧
      w' = ((w.setCell ⟨g, n / 8, none⟩ (orByte old b n)).setCell ⟨pb, 1, none⟩ (.int .i64 (n + 1))).drew := by
  have h8 : n % 8 < 8 := Nat.mod_lt _ (by decide)
  have i0 : (0 : Int) ≤ (n : Int) / 8 := by omega
  have i1 : (n : Int) / 8 < (m : Int) := by omega
  have hz : ((n : Int) % 8 == 0) = false := by simp; omega
  have hq : (n : Int).tdiv 8 = (n : Int) / 8 := Int.tdiv_eq_ediv_of_nonneg (by omega)
  have hq1 : IntKind.i64.wrap ((n : Int).tdiv 8) = (n : Int) / 8 := by rw [hq]; exact IntWalk.i64_in _ (by omega)
  have hq2 : IntKind.i64.wrap ((n : Int) / 8) = (n : Int) / 8 := by rw [← hq]; exact hq1
  go_enter Tryz.func152, Tryz.ntmps152
  go_wp2_with fail
  refine wp_region_still_tail 21 (by kernel_rfl) (by kernel_rfl) ?_
  simp only [List.take_succ_cons, List.take_zero, List.drop_succ_cons, List.drop_zero]
  change wpStill _ _ w.drew _ _ _
  iterate 16 still_step
  still_call (shiftOf_any n (by omega) _)
  iterate 4 still_step
  refine wpStill_nil ?_
  go_wp2
  go_end0
  exact ⟨rfl, rfl⟩

set_option maxRecDepth 100000 in
set_option maxHeartbeats 400000 in
theorem write_new (pb n k : Nat) (b : Nat) (v : Value) (xs : List Value) (hn : n < 2 ^ 40) (hn8 : n % 8 = 0) (hk1 : n / 8 ≤ k) (hk2 : k ≤ n / 8) (w : World)
    (here : w.heap[pb]? = some (.cells #[v, .int .i64 n] 150 (0, 0))) (own : w.ownsRow 0 5 1 v k xs) (hap : v.ownBlock ≠ some pb) :
    Calls Tryz.prog 152 #[.pointer (some ⟨pb, 0, none⟩), .int .i64 b] w fun e w' => e = .returned (.tuple #[]) ∧
      ∃ g cap w1, w1.ownsRow 0 5 1 (.slice (some ⟨g, 0, none⟩) (k + 1) cap) (k + 1) (xs ++ [U 0]) ∧ (w.alloc (.cells #[.int .u8 0] 5)).grownBy w1 v.ownBlock ∧
        (v.ownBlock = some g ∨ g = w.heap.size + 1) ∧ ¬ g = pb ∧
        w' = (((w1.setCell ⟨pb, 0, none⟩ (.slice (some ⟨g, 0, none⟩) (k + 1) cap)).setCell ⟨g, n / 8, none⟩ (orByte 0 b n)).setCell ⟨pb, 1, none⟩ (.int .i64 (n + 1))).drew := by
  have h8 : n % 8 < 8 := Nat.mod_lt _ (by decide)
  have i0 : (0 : Int) ≤ (n : Int) / 8 := by omega
  have i1 : (n : Int) / 8 < (k : Int) + 1 := by omega
  have hz : ((n : Int) % 8 == 0) = true := by simp; omega
  have hq : (n : Int).tdiv 8 = (n : Int) / 8 := Int.tdiv_eq_ediv_of_nonneg (by omega)
  have hq1 : IntKind.i64.wrap ((n : Int).tdiv 8) = (n : Int) / 8 := by rw [hq]; exact IntWalk.i64_in _ (by omega)
  have hq2 : IntKind.i64.wrap ((n : Int) / 8) = (n : Int) / 8 := by rw [← hq]; exact hq1
  have hlt := lt_of_heap here
  have c0 : w.cell? ⟨pb, 0, none⟩ = some v := by rw [cell_of_row w pb 0 _ _ _ here]; rfl
  have c1 : w.cell? ⟨pb, 1, none⟩ = some (.int .i64 n) := by rw [cell_of_row w pb 1 _ _ _ here]; rfl
  obtain ⟨i, hi, hz0, hz1, hz2⟩ := info_parts info_u8
  have HERE : Hid (w.heap[pb]? = some (.cells #[v, .int .i64 n] 150 (0, 0))) := here
  clear here
  go_enter Tryz.func152, Tryz.ntmps152
  go_wp2_with (at_builtin; refine wpList_append_lies _ rfl _ _ 42 rfl 0 5 i (.int .u8 0) 1 1 Tryz.underlying42 hi hz0 hz1 hz2 rfl (by decide) v k xs rfl (own.alloc _) ⟨w.heap.size, 0, none⟩ 1 1 [.int .u8 0] rfl rfl (World.news_of_block (cs := #[.int .u8 0]) (t := 5) (fr := (0, 0)) (heap_alloc_new w _)) (by simp [Value.oneCell']) (by decide) (by unfold maxLen; omega) (by omega) (Nat.zero_le _) (w.heap.size + 1) (by simp) ?_)
  intro g cap w1 hown hgrow hat hgl
  have here1 : w1.heap[pb]? = some (.cells #[v, .int .i64 n] 150 (0, 0)) := by
    rw [hgrow.block pb (by simp; omega) (Ne.symm hap), Below.heap_alloc _ _ _ hlt]; exact HERE.out
  have hne' : ¬ g = pb := by
    rcases hat with hat | hat
    · intro e; exact hap (by rw [hat, e])
    · omega
  have hne : ¬ pb = g := fun e => hne' e.symm
  have d0 : w1.cell? ⟨pb, 0, none⟩ = some v := by rw [cell_of_row w1 pb 0 _ _ _ here1]; rfl
  have d1 : w1.cell? ⟨pb, 1, none⟩ = some (.int .i64 n) := by rw [cell_of_row w1 pb 1 _ _ _ here1]; rfl
  have f0 : w1.frozen? ⟨pb, 0, none⟩ = false := frozen_of_row w1 pb 0 _ _ here1
  have f1 : w1.frozen? ⟨pb, 1, none⟩ = false := frozen_of_row w1 pb 1 _ _ here1
  have cg : w1.cell? ⟨g, ((n : Int) / 8).toNat, none⟩ = some (U 0) := by
    have e : ((n : Int) / 8).toNat = k := by omega
    have hx : xs.length = k := by simpa using own.1
    rw [e, hown.cellAt k (by omega), List.getElem?_append_right (by omega), hx]; simp [U]
  have fg : w1.frozen? ⟨g, ((n : Int) / 8).toNat, none⟩ = false := hown.frozenAt _
  have HO := Hid.intro hown
  have HG := Hid.intro hgrow
  have HA := Hid.intro hat
  clear hown hgrow hat c0 c1 here1 own
  go_wp2_with fail
  have e0 : (w1.setCell ⟨pb, 0, none⟩ (.slice (some ⟨g, 0, none⟩) (k + 1) cap)).cell? ⟨pb, 0, none⟩ = some (.slice (some ⟨g, 0, none⟩) (k + 1) cap) := World.cell?_setCell_same _ _ _ d0
  have e1 : (w1.setCell ⟨pb, 0, none⟩ (.slice (some ⟨g, 0, none⟩) (k + 1) cap)).cell? ⟨pb, 1, none⟩ = some (.int .i64 n) := by rw [World.cell?_setCell_other _ _ _ _ (by simp)]; exact d1
  have e2 : (w1.setCell ⟨pb, 0, none⟩ (.slice (some ⟨g, 0, none⟩) (k + 1) cap)).cell? ⟨g, ((n : Int) / 8).toNat, none⟩ = some (U 0) := by rw [World.cell?_setCell_other _ _ _ _ (fun e => hne (congrArg Addr.block e))]; exact cg
  have e3 : (w1.setCell ⟨pb, 0, none⟩ (.slice (some ⟨g, 0, none⟩) (k + 1) cap)).frozen? ⟨pb, 1, none⟩ = false := by rw [World.frozen?_setCell]; exact f1
  have e4 : (w1.setCell ⟨pb, 0, none⟩ (.slice (some ⟨g, 0, none⟩) (k + 1) cap)).frozen? ⟨g, ((n : Int) / 8).toNat, none⟩ = false := by rw [World.frozen?_setCell]; exact fg
  clear d0 d1 f0 f1 cg fg
  generalize hW : w1.setCell ⟨pb, 0, none⟩ (.slice (some ⟨g, 0, none⟩) (k + 1) cap) = w2 at e0 e1 e2 e3 e4 ⊢
  have HW := Hid.intro hW
  clear hW
  refine wp_region_still_tail 21 (by kernel_rfl) (by kernel_rfl) ?_
  simp only [List.take_succ_cons, List.take_zero, List.drop_succ_cons, List.drop_zero]
  change wpStill _ _ w2.drew _ _ _
  iterate 16 still_step
  still_call (shiftOf_any n (by omega) _)
  iterate 4 still_step
  refine wpStill_nil ?_
  go_wp2
  go_end0
  exact ⟨rfl, g, cap, w1, HO.out, HG.out, HA.out, hne', by rw [HW.out, orByte_zero b n hn8]⟩

/-- What the last byte's store, and the count's, make of a pen. -/
theorem pen_stored {w2 : World} {pb g m cap b : Nat} {l : List Nat} (hb : b < 2) (hl : Bits l)
    (here : w2.heap[pb]? = some (.cells #[.slice (some ⟨g, 0, none⟩) m cap, .int .i64 l.length] 150 (0, 0)))
    (own : w2.ownsRow 0 5 1 (.slice (some ⟨g, 0, none⟩) m cap) m ((pack (l ++ [0])).map U)) (hm : m = (pack (l ++ [0])).length) (hne : ¬ g = pb) :
    PenAt ((w2.setCell ⟨g, l.length / 8, none⟩ (orByte (packAt l (l.length / 8)) b l.length)).setCell ⟨pb, 1, none⟩ (.int .i64 (l.length + 1))).drew pb (.slice (some ⟨g, 0, none⟩) m cap) (l ++ [b]) := by
  have hlen : (pack (l ++ [b])).length = m := by rw [hm, pack_length, pack_length]; simp
  refine ⟨bits_snoc hl hb, ?_, ?_⟩
  · have h1 : (w2.setCell ⟨g, l.length / 8, none⟩ (orByte (packAt l (l.length / 8)) b l.length)).heap[pb]? = some (.cells #[.slice (some ⟨g, 0, none⟩) m cap, .int .i64 l.length] 150 (0, 0)) := by
      rw [heap_setCell_other _ _ _ _ (by simp; omega)]; exact here
    rw [heap_drew, heap_setCell_same _ pb 1 _ _ _ h1]
    simp
  · have h1 := (own.stored (l.length / 8) (orByte (packAt l (l.length / 8)) b l.length)).1
    rw [hlen]
    have e : (pack (l ++ [b])).map U = ((pack (l ++ [0])).map U).set (l.length / 8) (orByte (packAt l (l.length / 8)) b l.length) := by
      rw [orByte_eq _ _ _ (packAt_lt l hl _) hb, packAt_or l b hb, pack_set l b, List.map_set]
    rw [e]
    exact ownsRow_of_block h1 fun k hk => by
      have : g = k := by simpa [Value.ownBlock] using hk
      rw [heap_drew, heap_setCell_other _ _ _ _ (by simp; omega)]

/-- A pen's step, whatever it has written. -/
theorem write_any (pb b : Nat) (v : Value) (l : List Nat) (hb : b < 2) (hn : l.length < 2 ^ 40) (w : World) (h : PenAt w pb v l) :
    Calls Tryz.prog 152 #[.pointer (some ⟨pb, 0, none⟩), .int .i64 b] w fun e w' => e = .returned (.tuple #[]) ∧
      ∃ v', PenAt w' pb v' (l ++ [b]) ∧ Chg (penFoot pb v) w w' ∧ ∀ k, v'.ownBlock = some k → v.ownBlock = some k ∨ w.heap.size ≤ k := by
  have hap := h.apart
  have hpl := pack_length l
  by_cases h8 : l.length % 8 = 0
  · refine (write_new pb l.length (pack l).length b v ((pack l).map U) hn h8 (by omega) (by omega) w h.here h.row hap).mono ?_
    rintro e w' ⟨rfl, g, cap, w1, hown, hgrow, hat, hne, rfl⟩
    have here1 : w1.heap[pb]? = some (.cells #[v, .int .i64 l.length] 150 (0, 0)) := by
      rw [hgrow.block pb (by have := h.lt; simp; omega) (Ne.symm hap), Below.heap_alloc _ _ _ h.lt]; exact h.here
    have z : packAt l (l.length / 8) = 0 := packAt_far l _ (by omega)
    refine ⟨rfl, .slice (some ⟨g, 0, none⟩) ((pack l).length + 1) cap, ?_, ?_, ?_⟩
    · have P := pen_stored (w2 := w1.setCell ⟨pb, 0, none⟩ (.slice (some ⟨g, 0, none⟩) ((pack l).length + 1) cap)) (pb := pb) (g := g) (m := (pack l).length + 1) (cap := cap) (b := b) (l := l) hb h.bits ?_ ?_ ?_ hne
      · rw [z] at P; exact P
      · rw [heap_setCell_same _ pb 0 _ _ _ here1]; simp
      · rw [pack_zero_new l h8]
        refine ownsRow_of_block (w := w1) (by simpa using hown) fun k hk => ?_
        have : g = k := by simpa [Value.ownBlock] using hk
        rw [heap_setCell_other _ _ _ _ (by simp; omega)]
      · rw [pack_zero_new l h8]; simp
    · have hg : g < w.heap.size → penFoot pb v g := by
        intro hlt
        rcases hat with hat | hat
        · exact .inr hat
        · omega
      exact (((((Chg.refl _ w).alloc _).grown hgrow (fun k hk _ => .inr hk)).setCell (fun _ => .inl rfl) _).setCell hg _).setCell (fun _ => .inl rfl) _ |>.drew
    · intro k hk
      have : g = k := by simpa [Value.ownBlock] using hk
      subst this
      rcases hat with hat | hat
      · exact .inl hat
      · right; omega
  · obtain ⟨g, cap, hv, _, _⟩ := h.row.form (by omega)
    subst hv
    have hne : ¬ g = pb := fun e => hap (by simp [Value.ownBlock, e])
    have hx : (((l.length : Nat) : Int) / 8).toNat = l.length / 8 := by omega
    have hin : l.length / 8 < (pack l).length := by omega
    have cg : w.cell? ⟨g, ((l.length : Int) / 8).toNat, none⟩ = some (U (packAt l (l.length / 8))) := by
      rw [hx, h.row.cellAt _ (by omega), List.getElem?_map]
      have := pack_getD l (l.length / 8) (by omega)
      rw [List.getD_eq_getElem?_getD, List.getElem?_eq_getElem hin] at this
      rw [List.getElem?_eq_getElem hin]
      simp at this
      simp [this]
    refine (write_old pb g cap l.length (pack l).length b (packAt l (l.length / 8)) hn h8 hin w ?_ ?_ ?_ cg (h.row.frozenAt _) (fun e => hne e.symm) hne).mono ?_
    · rw [cell_of_row w pb 0 _ _ _ h.here]; rfl
    · rw [cell_of_row w pb 1 _ _ _ h.here]; rfl
    · exact frozen_of_row w pb 1 _ _ h.here
    · rintro e w' ⟨rfl, rfl⟩
      refine ⟨rfl, .slice (some ⟨g, 0, none⟩) (pack l).length cap, ?_, ?_, fun k hk => .inl hk⟩
      · exact pen_stored hb h.bits h.here (by rw [pack_zero_old l h8]; exact h.row) (by rw [pack_zero_old l h8]) hne
      · exact ((Chg.refl _ w).setCell (fun _ => .inr rfl) _).setCell (fun _ => .inl rfl) _ |>.drew

theorem put_nil (n m : Int) (w : World) :
    Calls Tryz.prog 114 #[.pointer none, .int .i64 n, .int .i64 m] w fun e w' => e = .returned (.bool false) ∧ w = w' := by
  go_enter Tryz.func114, Tryz.ntmps114
  go_wp2
  go_ret
  exact ⟨rfl, rfl⟩

theorem put_no (pb : Nat) (n m : Int) (w : World) (h : isF n m = false) :
    Calls Tryz.prog 114 #[.pointer (some ⟨pb, 0, none⟩), .int .i64 n, .int .i64 m] w fun e w' => e = .returned (.bool false) ∧ w = w' := by
  go_enter Tryz.func114, Tryz.ntmps114
  go_wp2_with (go_at_call 151; refine (isField_any _ _ _).mono ?_; rintro e w' ⟨rfl, rfl⟩; rw [h])
  go_ret
  exact ⟨rfl, rfl⟩

set_option maxHeartbeats 400000 in
theorem put_yes (pb n m : Nat) (v : Value) (l : List Nat) (hn : n < 2 ^ 63) (hl : l.length < 2 ^ 39) (w : World) (h : isF n m = true) (hp : PenAt w pb v l) :
    Calls Tryz.prog 114 #[.pointer (some ⟨pb, 0, none⟩), .int .i64 n, .int .i64 m] w fun e w' => e = .returned (.bool true) ∧
      ∃ v', PenAt w' pb v' (l ++ fld m n) ∧ Chg (penFoot pb v) w w' ∧ ∀ k, v'.ownBlock = some k → v.ownBlock = some k ∨ w.heap.size ≤ k := by
  have hm : 1 ≤ m ∧ m ≤ 32 := by
    have := isW_true (w := m) (by simp [isF] at h; exact h.1)
    omega
  have HP := Hid.intro hp
  clear hp
  have hmf : ∀ (fn : Fn) (first cap : Array Value) (w : World), (Instr.makeFunc fn first cap).run Tryz.prog w = .ok (.func fn first cap) w := fun _ _ _ _ => rfl
  go_enter Tryz.func114, Tryz.ntmps114
  go_wp2_with (go_at_call 151; refine (isField_any _ _ _).mono ?_; rintro e w' ⟨rfl, rfl⟩; rw [h])
  go_loopw [20] (fun i wr => ∃ k : Nat, k ≤ m ∧ i = .int .i64 k ∧ ∃ v', PenAt wr pb v' (l ++ fld k (n / 2 ^ (m - k))) ∧ Chg (penFoot pb v) w wr ∧ ∀ j, v'.ownBlock = some j → v.ownBlock = some j ∨ w.heap.size ≤ j)
    (fun i _ => m - (intOf i).toNat)
  case atStart => exact ⟨0, by omega, rfl, v, by simpa [fld] using HP.out, Chg.refl _ _, fun j hj => .inl hj⟩
  case round =>
    obtain ⟨k, hk, rfl, v', hpk, hck, hok⟩ := hrel
    have HPK := Hid.intro hpk
    have HCK := Hid.intro hck
    have HOK := Hid.intro hok
    clear hpk hck hok
    by_cases hlt : k < m
    · have hbit := and_bit n (m - 1 - k) hn
      have hb2 : n / 2 ^ (m - 1 - k) % 2 < 2 := Nat.mod_lt _ (by decide)
      have hst := fld_step m n k hlt
      have HST := Hid.intro hst
      have HB := Hid.intro hbit
      clear hst hbit
      go_wp2_with fail
      rw [HB.out]
      refine (write_any pb (n / 2 ^ (m - 1 - k) % 2) v' _ hb2 (by simp [fld_length]; omega) wr HPK.out).mono ?_
      rintro e w1 ⟨rfl, v1, hp1, hc1, ho1⟩
      have R : PenAt w1 pb v1 (l ++ fld (k + 1) (n / 2 ^ (m - (k + 1)))) := by rw [HST.out, ← List.append_assoc]; exact hp1
      have C : Chg (penFoot pb v) w w1 := HCK.out.trans hc1 (fun i hi hlt => by
        rcases hi with hi | hi
        · exact .inl hi
        · rcases HOK.out i hi with h1 | h1
          · exact .inr h1
          · omega)
      have O : ∀ j, v1.ownBlock = some j → v.ownBlock = some j ∨ w.heap.size ≤ j := fun j hj => by
        rcases ho1 j hj with h1 | h1
        · exact HOK.out j h1
        · right; have := HCK.out.size; omega
      have R' := Hid.intro R
      have C' := Hid.intro C
      have O' := Hid.intro O
      clear R C O hp1 hc1 ho1
      go_wp2
      go_roundw
      case rel => exact ⟨k + 1, by omega, by go_num, v1, R'.out, C'.out, O'.out⟩
      case measure => simp [intOf]; omega
    · go_wp2
      go_ret
      have e : k = m := by omega
      subst e
      exact ⟨rfl, v', by simpa using HPK.out, HCK.out, HOK.out⟩

/-- Put, whatever it is handed. -/
theorem put_any (pb : Nat) (n m : Int) (v : Value) (l : List Nat) (hl : l.length < 2 ^ 39) (w : World) (hp : PenAt w pb v l) :
    Calls Tryz.prog 114 #[.pointer (some ⟨pb, 0, none⟩), .int .i64 n, .int .i64 m] w fun e w' => e = .returned (.bool (isF n m)) ∧
      ∃ v', PenAt w' pb v' (l ++ putB n m) ∧ Chg (penFoot pb v) w w' ∧ ∀ k, v'.ownBlock = some k → v.ownBlock = some k ∨ w.heap.size ≤ k := by
  cases h : isF n m with
  | false =>
    refine (put_no pb n m w h).mono ?_
    rintro e w' ⟨rfl, rfl⟩
    exact ⟨rfl, v, by simpa [putB, h] using hp, Chg.refl _ _, fun k hk => .inl hk⟩
  | true =>
    obtain ⟨h1, h2, h3, h4⟩ := isF_bounds h
    obtain ⟨N, rfl⟩ := Int.eq_ofNat_of_zero_le h3
    obtain ⟨M, rfl⟩ := Int.eq_ofNat_of_zero_le (show 0 ≤ m by omega)
    have hN : N < 2 ^ 63 := by
      rw [Int.toNat_natCast] at h4
      have h5 : N < 2 ^ M := by exact_mod_cast h4
      exact Nat.lt_of_lt_of_le h5 (Nat.pow_le_pow_right (by decide) (by omega))
    have e : putB N M = fld M N := by simp [putB, h]
    rw [e]
    exact put_yes pb N M v l hN hl w h hp

set_option maxHeartbeats 400000 in
theorem copied_any (ao : Option Addr) (cap : Nat) (bs : List Nat) (hb : bs.length < 2 ^ 40) (w : World) (hr : Reads w ao bs) :
    Calls Tryz.prog 110 #[.slice ao bs.length cap] w fun e w' => ∃ g, e = .returned (.slice (some ⟨g, 0, none⟩) bs.length bs.length) ∧ w.heap.size ≤ g ∧ RowIs w' g bs ∧ Chg (fun _ => False) w w' := by
  obtain ⟨i, hi, hz0, hz1, hz2⟩ := info_parts info_u8
  have hsz : (Tryz.prog.info? 5).map (·.size) = some 1 := by rw [hi]; simp [hz1]
  have HR := Hid.intro hr
  clear hr
  go_enter Tryz.func110, Tryz.ntmps110
  go_wp2_with (at_make; refine wpList_make_full _ rfl _ _ 42 rfl 0 5 i (.int .u8 0) 1 Tryz.underlying42 hi hz0 hz1 _ _ _ _ bs.length rfl rfl (by omega) (by omega) (by rw [hz2]; omega) (by unfold maxLen; omega) (Nat.zero_le _) ?_)
  intro w1 hown hgrow
  have hB : Below w.heap.size w w1 := (Below.refl _ w).grown hgrow (Nat.le_refl _) (fun k hk => by cases hk)
  obtain ⟨cur, hcur, hlen⟩ : ∃ cur : List Value, w1.heap[w.heap.size]? = some (.cells cur.toArray 5 (0, 0)) ∧ cur.length = bs.length := by
    rcases hown.2 with ⟨h', _⟩ | ⟨g', cap', cur, h', _, hg, _, _, hcs, _⟩
    · simp at h'
    · simp only [Value.slice.injEq, Option.some.injEq, Addr.mk.injEq, and_true, true_and] at h'
      obtain ⟨rfl, rfl⟩ := h'
      exact ⟨cur.toList, by simpa using hg, by simpa using hcs⟩
  have hR1 := HR.out.below hB
  have H1 := Hid.intro hcur
  have H2 := Hid.intro hR1
  have H3 := Hid.intro hB
  clear hown hgrow hcur hR1 hB
  go_wp2_with (refine wpList_copy_splice rfl _ _ 42 42 rfl 5 Tryz.underlying42 hsz (some ⟨w.heap.size, 0, none⟩) ao bs.length bs.length bs.length cap rfl rfl w.heap.size 0 cur 5 H1.out (bs.map U) (by simp) ?_ (by simp [hlen]) ?_ w.heap.size w H3.out (Nat.le_refl _) ?_)
  · intro h0
    obtain ⟨ad, ha, hj⟩ := H2.out (by simpa using h0)
    exact ⟨ad, ha, fun j a hja => hj j (U a) (by rw [List.getElem?_map, hja]; rfl)⟩
  · intro u hu
    obtain ⟨b, _, rfl⟩ := List.mem_map.1 hu
    rfl
  · intro w2 hg2 hB2
    go_wp2
    go_ret
    refine ⟨w.heap.size, rfl, Nat.le_refl _, ?_, below_chg hB2⟩
    have := hg2.out
    rw [splice_all _ _ (by simp [hlen])] at this
    exact this

theorem bytes_nil (w : World) :
    Calls Tryz.prog 116 #[.pointer none] w fun e w' => e = .returned (.slice none 0 0) ∧ w = w' := by
  go_enter Tryz.func116, Tryz.ntmps116
  go_wp2
  go_ret
  exact ⟨rfl, rfl⟩

theorem bytes_any (pb : Nat) (v : Value) (l : List Nat) (hl : l.length < 2 ^ 39) (w : World) (hp : PenAt w pb v l) :
    Calls Tryz.prog 116 #[.pointer (some ⟨pb, 0, none⟩)] w fun e w' => ∃ g, e = .returned (.slice (some ⟨g, 0, none⟩) (pack l).length (pack l).length) ∧ w.heap.size ≤ g ∧ RowIs w' g (pack l) ∧ Chg (fun _ => False) w w' := by
  have hpl : (pack l).length < 2 ^ 40 := by rw [pack_length]; omega
  have c0 : w.cell? ⟨pb, 0, none⟩ = some v := by rw [cell_of_row w pb 0 _ _ _ hp.here]; rfl
  obtain ⟨ao, cap, rfl, hr, _⟩ := row_of_owns hp.row
  clear hp
  have HR := Hid.intro hr
  clear hr
  go_enter Tryz.func116, Tryz.ntmps116
  go_wp2_with fail
  refine (copied_any ao cap (pack l) (by omega) w HR.out).mono ?_
  rintro e w1 ⟨g, rfl, hg, hrow, hc⟩
  have H1 := Hid.intro hrow
  have H2 := Hid.intro hc
  clear hrow hc
  go_wp2
  go_ret
  exact ⟨g, rfl, hg, H1.out, H2.out⟩

/-- A new pen. -/
theorem pen_new (w : World) : PenAt (w.alloc (.cells #[.slice none 0 0, .int .i64 0] 150)) w.heap.size (.slice none 0 0) [] :=
  ⟨bits_nil, heap_alloc_new _ _, World.ownsRow_nil _ _ _ _⟩

/-- A pen that is new, and each that comes of it: its blocks are from B on. -/
def Own (B : Nat) (pb : Nat) (v : Value) : Prop := B ≤ pb ∧ ∀ k, v.ownBlock = some k → B ≤ k

theorem own_new (B pb : Nat) (h : B ≤ pb) : Own B pb (.slice none 0 0) := ⟨h, fun k hk => by cases hk⟩

theorem Own.next {B pb : Nat} {v v' : Value} {w : World} (h : Own B pb v) (hB : B ≤ w.heap.size) (hk : ∀ k, v'.ownBlock = some k → v.ownBlock = some k ∨ w.heap.size ≤ k) : Own B pb v' :=
  ⟨h.1, fun k e => by
    rcases hk k e with h1 | h1
    · exact h.2 k h1
    · omega⟩

theorem Own.chg {B pb : Nat} {v : Value} {w w' : World} (h : Own B pb v) (hc : Chg (penFoot pb v) w w') : Chg (fun k => B ≤ k) w w' :=
  hc.mono fun i hi _ => by
    rcases hi with hi | hi
    · rw [hi]; exact h.1
    · exact h.2 i hi

/-- Two new pens. -/
theorem pens_new (w : World) :
    PenAt ((w.alloc (.cells #[.slice none 0 0, .int .i64 0] 150)).alloc (.cells #[.slice none 0 0, .int .i64 0] 150)) w.heap.size (.slice none 0 0) [] ∧
    PenAt ((w.alloc (.cells #[.slice none 0 0, .int .i64 0] 150)).alloc (.cells #[.slice none 0 0, .int .i64 0] 150)) (w.heap.size + 1) (.slice none 0 0) [] ∧
    Below w.heap.size w ((w.alloc (.cells #[.slice none 0 0, .int .i64 0] 150)).alloc (.cells #[.slice none 0 0, .int .i64 0] 150)) := by
  refine ⟨(pen_new w).kept ((Chg.refl (fun _ => False) _).alloc _) (fun _ _ h => h), ?_, ((Below.refl _ w).alloc (Nat.le_refl _) _).alloc (by simp) _⟩
  have := pen_new (w.alloc (.cells #[.slice none 0 0, .int .i64 0] 150))
  rw [World.size_alloc] at this
  exact this

/-- Two pens that have no block in common. -/
def Apart (pb : Nat) (v : Value) (qb : Nat) (u : Value) : Prop := ∀ k, penFoot pb v k → ¬ penFoot qb u k

theorem Apart.symm {pb qb : Nat} {v u : Value} (h : Apart pb v qb u) : Apart qb u pb v := fun k a b => h k b a

/-- They stay so where the first one grows. -/
theorem Apart.next {pb qb : Nat} {v v' u : Value} {l : List Nat} {w : World} (h : Apart pb v qb u) (hq : PenAt w qb u l) (hk : ∀ k, v'.ownBlock = some k → v.ownBlock = some k ∨ w.heap.size ≤ k) : Apart pb v' qb u := by
  intro k a b
  rcases a with a | a
  · exact h k (.inl a) b
  · rcases hk k a with a1 | a1
    · exact h k (.inr a1) b
    · rcases b with b | b
      · have := hq.lt; omega
      · have := ownsRow_lt hq.row b; omega

theorem apart_new (pb qb : Nat) (h : ¬ pb = qb) : Apart pb (.slice none 0 0) qb (.slice none 0 0) := by
  intro k a b
  rcases a with a | a
  · rcases b with b | b
    · omega
    · cases b
  · cases a

end Go.Proofs.YthhggjakenalpaaGreatDoor
