/- The contract of a pen's step: one bit more is behind all others. -/
import Derived.Test.YtfmnnhpadpjegaaSmall
import Derived.Test.YtfmnnhpadpjegaaMem
import Derived.StillTailTactics
namespace Go.Proofs.Ytfmnnhpadpjegaa
open Go.RowKit
open Bt

theorem info_u8 : (Try.prog.info? 5).map (fun i => (i.zero, i.size, i.bytes)) = some (some (.int .u8 0), 1, 1) := by kernel_rfl

theorem Hid.intro {p : Prop} (h : p) : Hid p := h

/-- The byte that is stored. -/
def orByte (old b n : Nat) : Value := .int .u8 (bits BinOp.or IntKind.u8 (old : Int) (wrap64 ((b : Int) * 2 ^ (7 - n % 8)) % 256))

theorem orByte_zero (b n : Nat) (h : n % 8 = 0) : orByte 0 b n = .int .u8 (bits BinOp.or IntKind.u8 0 (wrap64 ((b : Int) * 128) % 256)) := by
  simp [orByte, h]

theorem orByte_eq (old b n : Nat) (ho : old < 256) (hb : b < 2) : orByte old b n = U (old ||| b * 2 ^ (7 - n % 8)) := by
  have h8 : n % 8 < 8 := Nat.mod_lt _ (by decide)
  have hlt : b * 2 ^ (7 - n % 8) < 256 := by
    generalize n % 8 = r at h8
    rcases (show b = 0 ∨ b = 1 by omega) with rfl | rfl
    · simp
    · match r, h8 with
      | 0, _ => decide
      | 1, _ => decide
      | 2, _ => decide
      | 3, _ => decide
      | 4, _ => decide
      | 5, _ => decide
      | 6, _ => decide
      | 7, _ => decide
  have e : ((b : Int) * 2 ^ (7 - n % 8)) = ((b * 2 ^ (7 - n % 8) : Nat) : Int) := by simp
  unfold orByte U
  rw [e, IntWalk.wrap64_in _ (by omega), Int.emod_eq_of_lt (by omega) (by omega), u8_or_nat _ _ ho hlt]

set_option maxRecDepth 100000 in
set_option maxHeartbeats 400000 in
theorem write_old (pb g cap n m : Nat) (b : Nat) (old : Nat) (hn : n < 2 ^ 40) (hn8 : ¬ n % 8 = 0) (hm : n / 8 < m) (w : World)
    (c0 : w.cell? ⟨pb, 0, none⟩ = some (.slice (some ⟨g, 0, none⟩) m cap)) (c1 : w.cell? ⟨pb, 1, none⟩ = some (.int .i64 n))
    (f1 : w.frozen? ⟨pb, 1, none⟩ = false)
    (cg : w.cell? ⟨g, ((n : Int) / 8).toNat, none⟩ = some (U old)) (fg : w.frozen? ⟨g, ((n : Int) / 8).toNat, none⟩ = false) (hne : ¬ pb = g) (hne' : ¬ g = pb) :
    Calls Try.prog 22 #[.pointer (some ⟨pb, 0, none⟩), .int .i64 b] w fun e w' => e = .returned (.tuple #[]) ∧
      w' = ((w.setCell ⟨g, n / 8, none⟩ (orByte old b n)).setCell ⟨pb, 1, none⟩ (.int .i64 (n + 1))).drew := by
  have h8 : n % 8 < 8 := Nat.mod_lt _ (by decide)
  have i0 : (0 : Int) ≤ (n : Int) / 8 := by omega
  have i1 : (n : Int) / 8 < (m : Int) := by omega
  have hz : ((n : Int) % 8 == 0) = false := by simp; omega
  have hq : (n : Int).tdiv 8 = (n : Int) / 8 := Int.tdiv_eq_ediv_of_nonneg (by omega)
  have hq1 : IntKind.i64.wrap ((n : Int).tdiv 8) = (n : Int) / 8 := by rw [hq]; exact IntWalk.i64_in _ (by omega)
  have hq2 : IntKind.i64.wrap ((n : Int) / 8) = (n : Int) / 8 := by rw [← hq]; exact hq1
  go_enter Try.func22, Try.ntmps22
  go_wp2_with fail
  refine wp_region_still_tail 21 (by kernel_rfl) (by kernel_rfl) ?_
  simp only [List.take_succ_cons, List.take_zero, List.drop_succ_cons, List.drop_zero]
  change wpStill _ _ w.drew _ _ _
  iterate 16 still_step
  still_call (shiftOf_any n (by omega) _)
  iterate 4 still_step
  refine wpStill_nil ?_
  go_wp2
  go_end0
  exact ⟨rfl, rfl⟩

set_option maxRecDepth 100000 in
set_option maxHeartbeats 400000 in
theorem write_new (pb n k : Nat) (b : Nat) (v : Value) (xs : List Value) (hn : n < 2 ^ 40) (hn8 : n % 8 = 0) (hk1 : n / 8 ≤ k) (hk2 : k ≤ n / 8) (w : World)
    (here : w.heap[pb]? = some (.cells #[v, .int .i64 n] 26 (0, 0))) (own : w.ownsRow 0 5 1 v k xs) (hap : v.ownBlock ≠ some pb) :
    Calls Try.prog 22 #[.pointer (some ⟨pb, 0, none⟩), .int .i64 b] w fun e w' => e = .returned (.tuple #[]) ∧
      ∃ g cap w1, w1.ownsRow 0 5 1 (.slice (some ⟨g, 0, none⟩) (k + 1) cap) (k + 1) (xs ++ [U 0]) ∧ (w.alloc (.cells #[.int .u8 0] 5)).grownBy w1 v.ownBlock ∧
        (v.ownBlock = some g ∨ g = w.heap.size + 1) ∧ ¬ g = pb ∧
        w' = (((w1.setCell ⟨pb, 0, none⟩ (.slice (some ⟨g, 0, none⟩) (k + 1) cap)).setCell ⟨g, n / 8, none⟩ (orByte 0 b n)).setCell ⟨pb, 1, none⟩ (.int .i64 (n + 1))).drew := by
  have h8 : n % 8 < 8 := Nat.mod_lt _ (by decide)
  have i0 : (0 : Int) ≤ (n : Int) / 8 := by omega
  have i1 : (n : Int) / 8 < (k : Int) + 1 := by omega
  have hz : ((n : Int) % 8 == 0) = true := by simp; omega
  have hq : (n : Int).tdiv 8 = (n : Int) / 8 := Int.tdiv_eq_ediv_of_nonneg (by omega)
  have hq1 : IntKind.i64.wrap ((n : Int).tdiv 8) = (n : Int) / 8 := by rw [hq]; exact IntWalk.i64_in _ (by omega)
  have hq2 : IntKind.i64.wrap ((n : Int) / 8) = (n : Int) / 8 := by rw [← hq]; exact hq1
  have hlt := lt_of_heap here
  have c0 : w.cell? ⟨pb, 0, none⟩ = some v := by rw [cell_of_row w pb 0 _ _ _ here]; rfl
  have c1 : w.cell? ⟨pb, 1, none⟩ = some (.int .i64 n) := by rw [cell_of_row w pb 1 _ _ _ here]; rfl
  obtain ⟨i, hi, hz0, hz1, hz2⟩ := info_parts info_u8
  have HERE : Hid (w.heap[pb]? = some (.cells #[v, .int .i64 n] 26 (0, 0))) := here
  clear here
  go_enter Try.func22, Try.ntmps22
  go_wp2_with (at_builtin; refine wpList_append_lies _ rfl _ _ 24 rfl 0 5 i (.int .u8 0) 1 1 Try.underlying24 hi hz0 hz1 hz2 rfl (by decide) v k xs rfl (own.alloc _) ⟨w.heap.size, 0, none⟩ 1 1 [.int .u8 0] rfl rfl (World.news_of_block (cs := #[.int .u8 0]) (t := 5) (fr := (0, 0)) (heap_alloc_new w _)) (by simp [Value.oneCell']) (by decide) (by unfold maxLen; omega) (by omega) (Nat.zero_le _) (w.heap.size + 1) (by simp) ?_)
  intro g cap w1 hown hgrow hat hgl
  have here1 : w1.heap[pb]? = some (.cells #[v, .int .i64 n] 26 (0, 0)) := by
    rw [hgrow.block pb (by simp; omega) (Ne.symm hap), Below.heap_alloc _ _ _ hlt]; exact HERE.out
  have hne' : ¬ g = pb := by
    rcases hat with hat | hat
    · intro e; exact hap (by rw [hat, e])
    · omega
  have hne : ¬ pb = g := fun e => hne' e.symm
  have d0 : w1.cell? ⟨pb, 0, none⟩ = some v := by rw [cell_of_row w1 pb 0 _ _ _ here1]; rfl
  have d1 : w1.cell? ⟨pb, 1, none⟩ = some (.int .i64 n) := by rw [cell_of_row w1 pb 1 _ _ _ here1]; rfl
  have f0 : w1.frozen? ⟨pb, 0, none⟩ = false := frozen_of_row w1 pb 0 _ _ here1
  have f1 : w1.frozen? ⟨pb, 1, none⟩ = false := frozen_of_row w1 pb 1 _ _ here1
  have cg : w1.cell? ⟨g, ((n : Int) / 8).toNat, none⟩ = some (U 0) := by
    have e : ((n : Int) / 8).toNat = k := by omega
    have hx : xs.length = k := by simpa using own.1
    rw [e, hown.cellAt k (by omega), List.getElem?_append_right (by omega), hx]; simp [U]
  have fg : w1.frozen? ⟨g, ((n : Int) / 8).toNat, none⟩ = false := hown.frozenAt _
  have HO := Hid.intro hown
  have HG := Hid.intro hgrow
  have HA := Hid.intro hat
  clear hown hgrow hat c0 c1 here1 own
  go_wp2_with fail
  have e0 : (w1.setCell ⟨pb, 0, none⟩ (.slice (some ⟨g, 0, none⟩) (k + 1) cap)).cell? ⟨pb, 0, none⟩ = some (.slice (some ⟨g, 0, none⟩) (k + 1) cap) := World.cell?_setCell_same _ _ _ d0
  have e1 : (w1.setCell ⟨pb, 0, none⟩ (.slice (some ⟨g, 0, none⟩) (k + 1) cap)).cell? ⟨pb, 1, none⟩ = some (.int .i64 n) := by rw [World.cell?_setCell_other _ _ _ _ (by simp)]; exact d1
  have e2 : (w1.setCell ⟨pb, 0, none⟩ (.slice (some ⟨g, 0, none⟩) (k + 1) cap)).cell? ⟨g, ((n : Int) / 8).toNat, none⟩ = some (U 0) := by rw [World.cell?_setCell_other _ _ _ _ (fun e => hne (congrArg Addr.block e))]; exact cg
  have e3 : (w1.setCell ⟨pb, 0, none⟩ (.slice (some ⟨g, 0, none⟩) (k + 1) cap)).frozen? ⟨pb, 1, none⟩ = false := by rw [World.frozen?_setCell]; exact f1
  have e4 : (w1.setCell ⟨pb, 0, none⟩ (.slice (some ⟨g, 0, none⟩) (k + 1) cap)).frozen? ⟨g, ((n : Int) / 8).toNat, none⟩ = false := by rw [World.frozen?_setCell]; exact fg
  clear d0 d1 f0 f1 cg fg
  generalize hW : w1.setCell ⟨pb, 0, none⟩ (.slice (some ⟨g, 0, none⟩) (k + 1) cap) = w2 at e0 e1 e2 e3 e4 ⊢
  have HW := Hid.intro hW
  clear hW
  refine wp_region_still_tail 21 (by kernel_rfl) (by kernel_rfl) ?_
  simp only [List.take_succ_cons, List.take_zero, List.drop_succ_cons, List.drop_zero]
  change wpStill _ _ w2.drew _ _ _
  iterate 16 still_step
  still_call (shiftOf_any n (by omega) _)
  iterate 4 still_step
  refine wpStill_nil ?_
  go_wp2
  go_end0
  exact ⟨rfl, g, cap, w1, HO.out, HG.out, HA.out, hne', by rw [HW.out, orByte_zero b n hn8]⟩
/-- What the last byte's store, and the count's, make of a pen. -/
theorem pen_stored {w2 : World} {pb g m cap b : Nat} {l : List Nat} (hb : b < 2) (hl : Bits l)
    (here : w2.heap[pb]? = some (.cells #[.slice (some ⟨g, 0, none⟩) m cap, .int .i64 l.length] 26 (0, 0)))
    (own : w2.ownsRow 0 5 1 (.slice (some ⟨g, 0, none⟩) m cap) m ((pack (l ++ [0])).map U)) (hm : m = (pack (l ++ [0])).length) (hne : ¬ g = pb) :
    PenAt ((w2.setCell ⟨g, l.length / 8, none⟩ (orByte (packAt l (l.length / 8)) b l.length)).setCell ⟨pb, 1, none⟩ (.int .i64 (l.length + 1))).drew pb (.slice (some ⟨g, 0, none⟩) m cap) (l ++ [b]) := by
  have hlen : (pack (l ++ [b])).length = m := by rw [hm, pack_length, pack_length]; simp
  refine ⟨bits_snoc hl hb, ?_, ?_⟩
  · have h1 : (w2.setCell ⟨g, l.length / 8, none⟩ (orByte (packAt l (l.length / 8)) b l.length)).heap[pb]? = some (.cells #[.slice (some ⟨g, 0, none⟩) m cap, .int .i64 l.length] 26 (0, 0)) := by
      rw [heap_setCell_other _ _ _ _ (by simp; omega)]; exact here
    rw [heap_drew, heap_setCell_same _ pb 1 _ _ _ h1]
    simp
  · have h1 := (own.stored (l.length / 8) (orByte (packAt l (l.length / 8)) b l.length)).1
    rw [hlen]
    have e : (pack (l ++ [b])).map U = ((pack (l ++ [0])).map U).set (l.length / 8) (orByte (packAt l (l.length / 8)) b l.length) := by
      rw [orByte_eq _ _ _ (packAt_lt l hl _) hb, packAt_or l b hb, pack_set l b, List.map_set]
    rw [e]
    exact ownsRow_of_block h1 fun k hk => by
      have : g = k := by simpa [Value.ownBlock] using hk
      rw [heap_drew, heap_setCell_other _ _ _ _ (by simp; omega)]

/-- A pen's step, whatever it has written. -/
theorem write_any (pb b : Nat) (v : Value) (l : List Nat) (hb : b < 2) (hn : l.length < 2 ^ 40) (w : World) (h : PenAt w pb v l) :
    Calls Try.prog 22 #[.pointer (some ⟨pb, 0, none⟩), .int .i64 b] w fun e w' => e = .returned (.tuple #[]) ∧
      ∃ v', PenAt w' pb v' (l ++ [b]) ∧ Chg (penFoot pb v) w w' ∧ ∀ k, v'.ownBlock = some k → v.ownBlock = some k ∨ w.heap.size ≤ k := by
  have hap := h.apart
  have hpl := pack_length l
  by_cases h8 : l.length % 8 = 0
  · refine (write_new pb l.length (pack l).length b v ((pack l).map U) hn h8 (by omega) (by omega) w h.here h.row hap).mono ?_
    rintro e w' ⟨rfl, g, cap, w1, hown, hgrow, hat, hne, rfl⟩
    have here1 : w1.heap[pb]? = some (.cells #[v, .int .i64 l.length] 26 (0, 0)) := by
      rw [hgrow.block pb (by have := h.lt; simp; omega) (Ne.symm hap), Below.heap_alloc _ _ _ h.lt]; exact h.here
    have z : packAt l (l.length / 8) = 0 := packAt_far l _ (by omega)
    refine ⟨rfl, .slice (some ⟨g, 0, none⟩) ((pack l).length + 1) cap, ?_, ?_, ?_⟩
    · have P := pen_stored (w2 := w1.setCell ⟨pb, 0, none⟩ (.slice (some ⟨g, 0, none⟩) ((pack l).length + 1) cap)) (pb := pb) (g := g) (m := (pack l).length + 1) (cap := cap) (b := b) (l := l) hb h.bits ?_ ?_ ?_ hne
      · rw [z] at P; exact P
      · rw [heap_setCell_same _ pb 0 _ _ _ here1]; simp
      · rw [pack_zero_new l h8]
        refine ownsRow_of_block (w := w1) (by simpa using hown) fun k hk => ?_
        have : g = k := by simpa [Value.ownBlock] using hk
        rw [heap_setCell_other _ _ _ _ (by simp; omega)]
      · rw [pack_zero_new l h8]; simp
    · have hg : g < w.heap.size → penFoot pb v g := by
        intro hlt
        rcases hat with hat | hat
        · exact .inr hat
        · omega
      exact (((((Chg.refl _ w).alloc _).grown hgrow (fun k hk _ => .inr hk)).setCell (fun _ => .inl rfl) _).setCell hg _).setCell (fun _ => .inl rfl) _ |>.drew
    · intro k hk
      have : g = k := by simpa [Value.ownBlock] using hk
      subst this
      rcases hat with hat | hat
      · exact .inl hat
      · right; omega
  · obtain ⟨g, cap, hv, _, _⟩ := h.row.form (by omega)
    subst hv
    have hne : ¬ g = pb := fun e => hap (by simp [Value.ownBlock, e])
    have hx : (((l.length : Nat) : Int) / 8).toNat = l.length / 8 := by omega
    have hin : l.length / 8 < (pack l).length := by omega
    have cg : w.cell? ⟨g, ((l.length : Int) / 8).toNat, none⟩ = some (U (packAt l (l.length / 8))) := by
      rw [hx, h.row.cellAt _ (by omega), List.getElem?_map]
      have := pack_getD l (l.length / 8) (by omega)
      rw [List.getD_eq_getElem?_getD, List.getElem?_eq_getElem hin] at this
      rw [List.getElem?_eq_getElem hin]
      simp at this
      simp [this]
    refine (write_old pb g cap l.length (pack l).length b (packAt l (l.length / 8)) hn h8 hin w ?_ ?_ ?_ cg (h.row.frozenAt _) (fun e => hne e.symm) hne).mono ?_
    · rw [cell_of_row w pb 0 _ _ _ h.here]; rfl
    · rw [cell_of_row w pb 1 _ _ _ h.here]; rfl
    · exact frozen_of_row w pb 1 _ _ h.here
    · rintro e w' ⟨rfl, rfl⟩
      refine ⟨rfl, .slice (some ⟨g, 0, none⟩) (pack l).length cap, ?_, ?_, fun k hk => .inl hk⟩
      · exact pen_stored hb h.bits h.here (by rw [pack_zero_old l h8]; exact h.row) (by rw [pack_zero_old l h8]) hne
      · exact ((Chg.refl _ w).setCell (fun _ => .inr rfl) _).setCell (fun _ => .inl rfl) _ |>.drew

end Go.Proofs.Ytfmnnhpadpjegaa
