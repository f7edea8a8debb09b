/- Package rs: Pad. -/
import Derived.Test.YthbfdfkkacmbhabDoorRsK1
namespace Go.Proofs.YthbfdfkkacmbhabDoor
open Go.RowKit
open Bt

set_option maxRecDepth 100000 in
set_option maxHeartbeats 1000000 in
theorem rpad_any (k n s : Int) (ao : Option Addr) (cap : Nat) (bs : List Nat) (_ : Byt bs) (_ : bs.length ≤ 300) (w : World) (hr : Reads w ao bs) (_ : ao = none → cap = 0) :
    Calls Tryd.prog 18 #[Cd k n s, .slice ao bs.length cap] w fun e w' => ∃ v, e = .returned v ∧ Rd w.heap.size w' v (padB k n s bs) ∧ Below w.heap.size w w' := by
  obtain ⟨i8, hi8, hz80, hz81, hz82⟩ := info_parts info_u8
  have hsz : (Tryd.prog.info? 5).map (·.size) = some 1 := by rw [hi8]; simp [hz81]
  have HR := Hid.intro hr
  clear hr
  have HM := Hid.intro (fun w => rmay_any k n s w)
  have b0 := heap_alloc_new w (.cells #[.int .i64 k, .int .i64 n, .int .i64 s] 27)
  rcases hmay : mayC k n s with _ | _
  · have e : padB k n s bs = [] := by unfold padB; rw [if_neg (by rw [hmay]; simp)]
    rw [e]
    rw [hmay] at HM
    clear e b0
    go_enter Tryd.func18, Tryd.ntmps18
    go_wp2_with fail
    refine (HM.out _).mono ?_
    rintro e1 w1 ⟨rfl, B1⟩
    go_wp2
    go_ret
    exact ⟨_, rfl, rd_nil _ _, ((Below.refl _ _).alloc (Nat.le_refl _) _).trans ((below_chg B1).below (by simp) (fun _ f => f.elim))⟩
  · obtain ⟨h1, h2, h3, h4, h5, h6⟩ := mayC_true hmay
    obtain ⟨K, rfl⟩ := Int.eq_ofNat_of_zero_le (show 0 ≤ k by omega)
    obtain ⟨N, rfl⟩ := Int.eq_ofNat_of_zero_le (show 0 ≤ n by omega)
    obtain ⟨S, rfl⟩ := Int.eq_ofNat_of_zero_le (show 0 ≤ s by omega)
    have hKS := may_prod hmay
    have hks : (K : Int) * (S : Int) = ((K * S : Nat) : Int) := by simp
    rw [hmay] at HM
    obtain ⟨L, hL⟩ : ∃ L, L = K * S := ⟨_, rfl⟩
    rw [← hL] at hks hKS
    have HT := Hid.intro (fun w => textBytes_any K S N L hL (by omega) w)
    have E : Hid (padB K N S bs = if bs.length ≤ L then bs ++ List.replicate (L - bs.length) 0 else []) := by
      show _ = _
      unfold padB
      by_cases hle : bs.length ≤ L
      · rw [if_pos ⟨hmay, by omega⟩, if_pos hle, hks, Int.toNat_natCast]
      · rw [if_neg (by rw [hks]; omega), if_neg hle]
    generalize padB K N S bs = P at E ⊢
    clear hL hks hmay
    go_enter Tryd.func18, Tryd.ntmps18
    go_wp2_with fail
    refine (HM.out _).mono ?_
    rintro e1 w1 ⟨rfl, B1⟩
    have b1 : w1.heap[w.heap.size]? = some (.cells #[.int .i64 (K : Int), .int .i64 (N : Int), .int .i64 (S : Int)] 27 (0, 0)) := by
      rw [B1.block _ (by simp)]; exact b0
    have B1w : Below w.heap.size w w1 := ((Below.refl _ _).alloc (Nat.le_refl _) _).trans ((below_chg B1).below (by simp) (fun _ f => f.elim))
    have c0 : w1.cell? ⟨w.heap.size, 0, none⟩ = some (.int .i64 (K : Int)) := by rw [cell_of_row w1 _ 0 _ _ _ b1]; rfl
    have c1 : w1.cell? ⟨w.heap.size, 1, none⟩ = some (.int .i64 (N : Int)) := by rw [cell_of_row w1 _ 1 _ _ _ b1]; rfl
    have c2 : w1.cell? ⟨w.heap.size, 2, none⟩ = some (.int .i64 (S : Int)) := by rw [cell_of_row w1 _ 2 _ _ _ b1]; rfl
    have BH := Hid.intro B1w
    have CH := Hid.intro b1
    clear b0 B1 b1 B1w HM
    go_wp2_with fail
    refine (HT.out _).mono ?_
    rintro e1 w2 ⟨rfl, B2⟩
    have b2 := (B2.block _ (lt_of_heap CH.out)).trans CH.out
    have B2w := BH.out.trans (B2.mono BH.out.size)
    by_cases hle : bs.length ≤ L
    · have e : P = bs ++ List.replicate (L - bs.length) 0 := by rw [E.out, if_pos hle]
      subst e
      clear E c0 c1 c2
      have c0 : w2.cell? ⟨w.heap.size, 0, none⟩ = some (.int .i64 (K : Int)) := by rw [cell_of_row w2 _ 0 _ _ _ b2]; rfl
      have c1 : w2.cell? ⟨w.heap.size, 1, none⟩ = some (.int .i64 (N : Int)) := by rw [cell_of_row w2 _ 1 _ _ _ b2]; rfl
      have c2 : w2.cell? ⟨w.heap.size, 2, none⟩ = some (.int .i64 (S : Int)) := by rw [cell_of_row w2 _ 2 _ _ _ b2]; rfl
      have l0 : ¬ (L : Int) < (bs.length : Int) := by omega
      have l1 : ¬ L < bs.length := by omega
      have B2H := Hid.intro B2w
      clear B2 b2 BH CH B2w
      go_wp2_with fail
      refine (HT.out _).mono ?_
      rintro e1 w3 ⟨rfl, B3⟩
      have B3H := Hid.intro (B2H.out.trans (B3.mono B2H.out.size))
      clear B2H B3 c0 c1 c2 HT
      go_wp2_with (at_make; refine wpList_make_full _ rfl _ _ 28 rfl 0 5 i8 (.int .u8 0) 1 Tryd.underlying28 hi8 hz80 hz81 _ _ _ _ L rfl rfl (by omega) (by omega) (by rw [hz82]; omega) (by unfold maxLen; omega) (Nat.zero_le _) ?_)
      intro w4 hown hgrow
      have hB : Below w.heap.size w w4 := B3H.out.grown hgrow B3H.out.size (fun k hk => by cases hk)
      have hcur : w4.heap[w3.heap.size]? = some (.cells (List.replicate L (U 0)).toArray 5 (0, 0)) := by
        rcases hown.2 with ⟨h', _⟩ | ⟨g', cap', cur, h', _, hg, _, _, hcs, hq⟩
        · simp at h'
        · simp only [Value.slice.injEq, Option.some.injEq, Addr.mk.injEq, and_true, true_and] at h'
          obtain ⟨rfl, rfl⟩ := h'
          rw [hg]
          rw [toList_madeCells_one] at hq
          have h2 : cur.toList.length = L := by simpa using hcs
          have h3 : cur.toList = List.replicate L (U 0) := (List.take_of_length_le (by omega)).symm.trans hq
          rw [← h3]
      have hR4 := HR.out.below hB
      have H1 := Hid.intro hcur
      have H2 := Hid.intro hR4
      have H3 := Hid.intro hB
      have NB := Hid.intro B3H.out.size
      clear hown hgrow hcur hR4 hB
      go_wp2_with (refine wpList_copy_splice rfl _ _ 28 28 rfl 5 Tryd.underlying28 hsz (some ⟨w3.heap.size, 0, none⟩) ao L L bs.length cap rfl rfl w3.heap.size 0 (List.replicate L (U 0)) 5 H1.out (bs.map U) (by rw [List.length_map]; exact (Nat.min_eq_left hle).symm) ?_ (by simp; exact hle) ?_ w.heap.size w H3.out NB.out ?_)
      · intro h0
        obtain ⟨ad, ha, hj⟩ := H2.out (by simpa using h0)
        exact ⟨ad, ha, fun j a hja => hj j (U a) (by rw [List.getElem?_map, hja]; rfl)⟩
      · intro u hu
        obtain ⟨b, _, rfl⟩ := List.mem_map.1 hu
        rfl
      · intro w5 hg5 hB5
        go_wp2
        go_ret
        have e : splice (List.replicate L (U 0)) 0 (bs.map U) = (bs ++ List.replicate (L - bs.length) 0).map U := by
          simp [splice]
        have hl2 : (bs ++ List.replicate (L - bs.length) 0).length = L := by simp; omega
        have hg := hg5.out
        rw [e] at hg
        refine ⟨_, rfl, ⟨some ⟨w3.heap.size, 0, none⟩, L, by rw [hl2]; rfl, fun _ => ⟨_, rfl, World.news_of_block (cs := ((bs ++ List.replicate (L - bs.length) 0).map U).toArray) hg⟩, ⟨(fun h => by cases h), by rw [hl2]; exact Nat.le_refl _⟩, (fun ad h => by cases h; exact NB.out)⟩, hB5⟩
    · have e : P = [] := by rw [E.out, if_neg hle]
      subst e
      have l0 : (L : Int) < (bs.length : Int) := by omega
      have l1 : L < bs.length := by omega
      clear B2 b2
      go_wp2
      go_ret
      exact ⟨_, rfl, rd_nil _ _, B2w⟩

end Go.Proofs.YthbfdfkkacmbhabDoor
