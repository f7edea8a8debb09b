/- Contracts of the document's own answer for layer 2: sum, back, Short, Long, Number, Read. -/
import Derived.Test.YtaieohnppeapfaaDoorRefOne
import Derived.Test.YtaieohnppeapfaaDoorCrcPure
namespace Go.Proofs.YtaieohnppeapfaaDoor
open Go.RowKit
open Bt

/-- The list as far as it is set to ones. -/
def ones (W k : Nat) : List Nat := (List.range W).map fun i => if i < k then 1 else 0
theorem ones_length (W k : Nat) : (ones W k).length = W := by simp [ones]
theorem ones_zero (W : Nat) : ones W 0 = List.replicate W 0 := by
  apply List.ext_getElem
  · simp [ones]
  · intro i h1 h2; simp [ones]
theorem ones_all (W : Nat) : ones W W = List.replicate W 1 := by
  apply List.ext_getElem
  · simp [ones]
  · intro i h1 h2
    simp only [List.length_replicate] at h2
    simp [ones, h2]
theorem ones_step (W k : Nat) : (ones W k).set k 1 = ones W (k + 1) := by
  apply List.ext_getElem
  · simp [ones]
  · intro i h1 h2
    rw [List.getElem_set]
    simp only [ones, List.getElem_map, List.getElem_range]
    by_cases hi : k = i
    · rw [if_pos hi, if_pos (by omega)]
    · rw [if_neg hi]
      by_cases h3 : i < k
      · rw [if_pos h3, if_pos (by omega)]
      · rw [if_neg h3, if_neg (by omega)]

/-- A list that is put together with the polynomial as far as so many places. -/
def mixed (s poly : List Nat) (k : Nat) : List Nat := (List.range s.length).map fun i => if i < k then (s.getD i 0 + poly.getD i 0) % 2 else s.getD i 0
theorem mixed_length (s poly : List Nat) (k : Nat) : (mixed s poly k).length = s.length := by simp [mixed]
theorem mixed_zero (s poly : List Nat) : mixed s poly 0 = s := by
  apply List.ext_getElem
  · simp [mixed]
  · intro i h1 h2; simp [mixed, List.getD_eq_getElem?_getD, h2]
theorem mixed_all (s poly : List Nat) (h : s.length = poly.length) : mixed s poly s.length = List.zipWith (fun x y => (x + y) % 2) s poly := by
  apply List.ext_getElem
  · simp [mixed, h]
  · intro i h1 h2
    rw [mixed_length] at h1
    simp [mixed, List.getD_eq_getElem?_getD, h1, ← h]
theorem mixed_at (s poly : List Nat) (k : Nat) (h : k < s.length) : (mixed s poly k).getD k 0 = s.getD k 0 := by
  simp [mixed, List.getD_eq_getElem?_getD, h]
theorem mixed_step (s poly : List Nat) (k : Nat) : (mixed s poly k).set k ((s.getD k 0 + poly.getD k 0) % 2) = mixed s poly (k + 1) := by
  apply List.ext_getElem
  · simp [mixed]
  · intro i h1 h2
    rw [List.getElem_set]
    simp only [mixed, List.getElem_map, List.getElem_range]
    by_cases hi : k = i
    · subst hi; rw [if_pos rfl, if_pos (by omega)]
    · rw [if_neg hi]
      by_cases h3 : i < k
      · rw [if_pos h3, if_pos (by omega)]
      · rw [if_neg h3, if_neg (by omega)]

theorem rep_bits (W : Nat) : Bits (List.replicate W 1) := fun b hb => by
  have := List.eq_of_mem_replicate hb
  omega

set_option maxRecDepth 100000 in
set_option maxHeartbeats 2000000 in
theorem sum_pos (lb lo lcap gp pcap : Nat) (l poly : List Nat) (h1 : 0 < l.length) (h2 : l.length ≤ 2400) (hW2 : 2 ≤ poly.length) (hW : poly.length ≤ 32) (hbl : Bits l) (hbp : Bits poly) (w : World)
    (hl : ∀ j, (hj : j < l.length) → w.cell? ⟨lb, lo + j, none⟩ = some (I l[j])) (hp : ∀ j, (hj : j < poly.length) → w.cell? ⟨gp, j, none⟩ = some (I poly[j])) :
    Calls Tryd.prog 39 #[.slice (some ⟨lb, lo, none⟩) l.length lcap, .slice (some ⟨gp, 0, none⟩) poly.length pcap] w fun e w' =>
      ∃ g cap, e = .returned (.slice (some ⟨g, 0, none⟩) poly.length cap) ∧ w.heap.size ≤ g ∧
        w'.ownsRow 0 3 1 (.slice (some ⟨g, 0, none⟩) poly.length cap) poly.length ((l.foldl (lstep poly) (List.replicate poly.length 1)).map I) ∧ Below w.heap.size w w' := by
  obtain ⟨i, hi, hz0, hz1, hz2⟩ := info_parts info_int
  have HL := Hid.intro hl
  have HP := Hid.intro hp
  have HBL := Hid.intro hbl
  have HBP := Hid.intro hbp
  clear hl hp hbl hbp
  generalize hWe : poly.length = W at hW2 hW ⊢
  have HWE := Hid.intro hWe
  clear hWe
  go_enter Tryd.func39, Tryd.ntmps39
  go_wp2_with (at_make; refine wpList_make_full _ rfl _ _ 57 rfl 0 3 i (.int .i64 0) 1 Tryd.underlying57 hi hz0 hz1 _ _ _ _ W rfl rfl (by omega) (by omega) (by rw [hz2]; omega) (by unfold maxLen; omega) (Nat.zero_le _) ?_)
  intro w1 hown hgrow
  have hB : Below w.heap.size w w1 := (Below.refl _ w).grown hgrow (Nat.le_refl _) (fun k hk => by cases hk)
  have hR : w1.ownsRow 0 3 1 (.slice (some ⟨w.heap.size, 0, none⟩) W W) W ((ones W 0).map I) := by
    rw [ones_zero, List.map_replicate]
    rw [toList_madeCells_one] at hown
    exact hown
  clear hown hgrow
  go_wp2_with fail
  go_loopw [6] (fun c wr => ∃ k : Nat, k ≤ W ∧ c = .int .i64 k ∧ wr.ownsRow 0 3 1 (.slice (some ⟨w.heap.size, 0, none⟩) W W) W ((ones W k).map I) ∧ Below w.heap.size w wr)
    (fun c _ => W - (intOf c).toNat)
  case atStart => exact ⟨0, by omega, rfl, hR, hB⟩
  case round =>
    obtain ⟨k, hk, rfl, RK, BK⟩ := hrel
    clear hR hB
    by_cases hlt : k < W
    · have fl := ones_length W k
      have c1 : ∃ u, wr.cell? ⟨w.heap.size, k, none⟩ = some u := by
        rw [RK.cellAt _ (by omega)]
        exact ⟨_, List.getElem?_eq_getElem (by simp [fl]; omega)⟩
      obtain ⟨u, c1⟩ := c1
      have f1 : wr.frozen? ⟨w.heap.size, k, none⟩ = false := RK.frozenAt _
      have i1 : (0 : Int) ≤ (k : Int) := by omega
      have i2 : (k : Int) < (W : Int) := by omega
      have RS : (wr.setCell ⟨w.heap.size, k, none⟩ (I 1)).ownsRow 0 3 1 (.slice (some ⟨w.heap.size, 0, none⟩) W W) W ((ones W (k + 1)).map I) := by
        rw [← ones_step W k, List.map_set]; exact (RK.stored _ _).1
      have BS : Below w.heap.size w (wr.setCell ⟨w.heap.size, k, none⟩ (I 1)) := BK.setCell (Nat.le_refl _) _
      have RSH := Hid.intro RS
      have BSH := Hid.intro BS
      clear RS BS RK BK fl
      go_wp2
      go_roundw
      case rel => exact ⟨k + 1, by omega, by go_num, RSH.out, BSH.out⟩
      case measure => simp [intOf]; omega
    · have hkW : k = W := by omega
      rw [hkW, ones_all] at RK
      have RKH := Hid.intro RK
      clear RK hkW
      go_wp2_with fail
      go_loopw [5, 7] (fun v c wr => ∃ (k : Nat) (g cap : Nat), k ≤ l.length ∧ c = .int .i64 k ∧ v = .slice (some ⟨g, 0, none⟩) W cap ∧ w.heap.size ≤ g ∧
          wr.ownsRow 0 3 1 (.slice (some ⟨g, 0, none⟩) W cap) W (((l.take k).foldl (lstep poly) (List.replicate W 1)).map I) ∧ Below w.heap.size w wr)
        (fun _ c _ => l.length - (intOf c).toNat)
      case atStart => exact ⟨0, w.heap.size, W, by omega, rfl, rfl, Nat.le_refl _, RKH.out, BK⟩
      case round =>
        obtain ⟨q, g, cap, hq, rfl, rfl, hg, RQ, BQ⟩ := hrel
        clear RKH BK
        by_cases hlt2 : q < l.length
        · have ST := lrun_num (W - 1) poly (List.replicate W 1) (l.take q) (rep_bits W) HBP.out (bits_take HBL.out q) (by rw [List.length_replicate]; omega) (by rw [HWE.out]; omega)
          have hfs : (l.take (q + 1)).foldl (lstep poly) (List.replicate W 1) = lstep poly ((l.take q).foldl (lstep poly) (List.replicate W 1)) l[q] := by
            rw [take_snoc l q hlt2, List.foldl_append]; rfl
          have hSl := ST.2.1
          have hSb := ST.2.2
          have hlq := HBL.out l[q] (List.getElem_mem hlt2)
          have cl := HL.out q hlt2
          have c2 : wr.cell? ⟨lb, lo + q, none⟩ = some (I l[q]) := (BQ.cell (cell_lt cl)).trans cl
          generalize l[q] = b at hfs hlq cl c2
          generalize (l.take q).foldl (lstep poly) (List.replicate W 1) = S at hSl hSb RQ hfs
          clear ST cl
          match S, hSl, hSb, RQ, hfs with
          | [], hSl, _, _, _ => simp at hSl
          | a :: t, hSl, hSb, RQ, hfs =>
            have ha := hSb a (by simp)
            have hbt : Bits t := fun x hx => hSb x (by simp [hx])
            have htl : t.length = W - 1 := by simpa using hSl
            have c1 : wr.cell? ⟨g, 0, none⟩ = some (I a) := by rw [RQ.cellAt 0 (by omega)]; rfl
            have hcapW : W ≤ cap := by
              rcases RQ.2 with ⟨h', _⟩ | ⟨g', cap', _, h', _, _, hn, _⟩
              · simp at h'
              · simp only [Value.slice.injEq, Option.some.injEq, Addr.mk.injEq, and_true, true_and] at h'
                obtain ⟨rfl, rfl⟩ := h'
                exact hn
            have hcapM : cap ≤ 9223372036854775807 := by
              rcases RQ.2 with ⟨h', _⟩ | ⟨g', cap', _, h', _, _, _, hm, _⟩
              · simp at h'
              · simp only [Value.slice.injEq, Option.some.injEq, Addr.mk.injEq, and_true, true_and] at h'
                obtain ⟨rfl, rfl⟩ := h'
                unfold maxLen at hm
                exact hm
            have HFS := Hid.intro hfs
            have RQH := Hid.intro RQ
            have j1 : (0 : Int) ≤ (q : Int) := by omega
            have j2 : (q : Int) < (l.length : Int) := by omega
            have j3 : (0 : Int) < (W : Int) := by omega
            have hc1 : ¬ cap = 1 := by omega
            have hsumI : (((a + b) % 2 : Nat) : Int) = ((a : Int) + (b : Int)) % 2 := by omega
            have HSI := Hid.intro hsumI
            clear hfs RQ hsumI
            go_wp2_with fail
            go_quiet (fail)
            have R3 := ownsRow_keep (w' := wr.drewN nq) RQH.out (fun _ _ => rfl)
            have B3 : Below w.heap.size w (wr.drewN nq) := ⟨BQ.os, BQ.tape, BQ.output, BQ.size, BQ.block⟩
            clear RQH BQ c1 c2
            generalize wr.drewN nq = w3 at R3 B3 ⊢
            have hgl : g < w3.heap.size := (World.ownsRow.lt R3 g rfl).2
            have O3 := World.ownsRow_made (base := 0) (e := 3) (size := 1) w3 #[] 0 (Nat.zero_le _) (by unfold maxLen; omega) rfl
            have news : ∀ j u, (t.map I)[j]? = some u → (w3.alloc (.cells #[] 3)).cell? ((⟨g, 1, none⟩ : Addr).add j) = some u := by
              intro j u hu
              have hj := (List.getElem?_eq_some_iff.1 hu).1
              simp only [List.length_map] at hj
              rw [WideShapes.add_plain, World.cell?_alloc_lt _ _ _ hgl, R3.cellAt _ (by omega), Nat.add_comm]
              exact hu
            have one : ∀ u ∈ t.map I, u.oneCell' = true := by
              intro u hu
              obtain ⟨q, _, rfl⟩ := List.mem_map.1 hu
              rfl
            have O3H := Hid.intro O3
            have R3H := Hid.intro R3
            have NEWS := Hid.intro news
            have ONE := Hid.intro one
            have HTL := Hid.intro htl
            clear O3 R3 news one htl
            go_wp2_with (at_builtin; refine wpList_append_lies _ rfl _ _ 57 rfl 0 3 i (.int .i64 0) 1 8 Tryd.underlying57 hi hz0 hz1 hz2 rfl (by decide) _ 0 [] rfl O3H.out ⟨g, 1, none⟩ (W - 1) (cap - 1) (t.map I) rfl (by have := HTL.out; simp; omega) NEWS.out ONE.out (by omega) (by unfold maxLen; omega) (by omega) (Nat.zero_le _) (w3.heap.size + 1) (by simp) ?_)
            intro g4 cp4 w4 own4 grow4 hat4 hgl4
            have B4 : Below w3.heap.size w3 w4 := ((Below.refl _ w3).alloc (Nat.le_refl _) _).grown grow4 (by simp) (fun k hk => by
              have e : w3.heap.size = k := by simpa [Value.ownBlock] using hk
              omega)
            have hg4 : w.heap.size ≤ g4 := by
              have hsz := B3.size
              rcases hat4 with h | h
              · have e : w3.heap.size = g4 := by simpa [Value.ownBlock] using h
                omega
              · omega
            have B4w := B3.trans (B4.mono B3.size)
            have O4H := Hid.intro own4
            clear own4 grow4 hat4 B4 B3 R3H NEWS ONE O3H hgl
            go_wp2_with (at_builtin; refine wpList_append_lies _ rfl _ _ 57 rfl 0 3 i (.int .i64 0) 1 8 Tryd.underlying57 hi hz0 hz1 hz2 rfl (by decide) _ _ _ rfl (O4H.out.alloc _) ⟨w4.heap.size, 0, none⟩ 1 1 [.int .i64 0] rfl rfl (World.news_of_block (cs := #[.int .i64 0]) (t := 3) (fr := (0, 0)) (heap_alloc_new w4 _)) (by simp [Value.oneCell']) (by decide) (by unfold maxLen; omega) (by omega) (Nat.zero_le _) (w4.heap.size + 1) (by simp) ?_)
            intro g5 cp5 w5 own5 grow5 hat5 hgl5
            rw [show W - 1 + 1 = W from by omega] at own5 ⊢
            have B5 : Below w.heap.size w w5 := (B4w.alloc B4w.size _).grown grow5 (by have := B4w.size; simp; omega) (fun k hk => by
              have e : g4 = k := by simpa [Value.ownBlock] using hk
              omega)
            have hg5 : w.heap.size ≤ g5 := by
              rcases hat5 with h | h
              · have e : g4 = g5 := by simpa [Value.ownBlock] using h
                omega
              · have := B4w.size; omega
            have R5 : w5.ownsRow 0 3 1 (.slice (some ⟨g5, 0, none⟩) W cp5) W ((t ++ [0]).map I) := by
              rw [List.map_append]; exact own5
            have R5H := Hid.intro R5
            clear own5 grow5 hat5 B4w O4H R5 hgl4 hgl5 hg4
            by_cases hh : (a + b) % 2 = 1
            · have hI : (((a : Int) + (b : Int)) % 2 == 1) = true := by simp; omega
              have hst : lstep poly (a :: t) b = List.zipWith (fun x y => (x + y) % 2) (t ++ [0]) poly := by
                unfold lstep; rw [if_pos (by simpa using hh)]; rfl
              have htn : (t ++ [0]).length = W := by have := HTL.out; simp; omega
              have hTbits : Bits (t ++ [0]) := bits_snoc hbt (by decide)
              generalize t ++ [0] = T at hst htn R5H hTbits
              have HSTP := Hid.intro hst
              have HTN := Hid.intro htn
              clear hst htn
              have hTb := Hid.intro hTbits
              clear hTbits
              have hg5p : ¬ g5 = gp := by
                have := cell_lt (HP.out 0 (by rw [HWE.out]; omega))
                simp only at this
                omega
              go_wp2_with fail
              go_loopw [9] (fun c wz => ∃ j : Nat, j ≤ W ∧ c = .int .i64 j ∧ wz.ownsRow 0 3 1 (.slice (some ⟨g5, 0, none⟩) W cp5) W ((mixed T poly j).map I) ∧ Below w.heap.size w wz)
                (fun c _ => W - (intOf c).toNat)
              case atStart => exact ⟨0, by omega, rfl, by rw [mixed_zero]; exact R5H.out, B5⟩
              case round =>
                obtain ⟨j, hj, rfl, RJ, BJ⟩ := hrel
                clear R5H B5
                by_cases hjl : j < W
                · have fl := mixed_length T poly j
                  have cj : wr.cell? ⟨g5, j, none⟩ = some (I (T.getD j 0)) := by
                    rw [RJ.cellAt _ (by omega), List.getElem?_map, ← mixed_at T poly j (by rw [HTN.out]; exact hjl), List.getD_eq_getElem?_getD, List.getElem?_eq_getElem (by rw [fl, HTN.out]; exact hjl)]
                    rfl
                  have hpj := HP.out j (by rw [HWE.out]; exact hjl)
                  have cp : wr.cell? ⟨gp, j, none⟩ = some (I (poly.getD j 0)) := by
                    rw [List.getD_eq_getElem?_getD, List.getElem?_eq_getElem (by rw [HWE.out]; exact hjl)]
                    exact (BJ.cell (cell_lt hpj)).trans hpj
                  have fj : wr.frozen? ⟨g5, j, none⟩ = false := RJ.frozenAt _
                  have bT := getD_bit T hTb.out j
                  have bP := getD_bit poly HBP.out j
                  have ms := mixed_step T poly j
                  have jj1 : (0 : Int) ≤ (j : Int) := by omega
                  have jj2 : (j : Int) < (W : Int) := by omega
                  generalize T.getD j 0 = x at cj bT ms
                  generalize poly.getD j 0 = y at cp bP ms
                  have RS : (wr.setCell ⟨g5, j, none⟩ (I ((x + y) % 2))).ownsRow 0 3 1 (.slice (some ⟨g5, 0, none⟩) W cp5) W ((mixed T poly (j + 1)).map I) := by
                    rw [← ms, List.map_set]; exact (RJ.stored _ _).1
                  have BS : Below w.heap.size w (wr.setCell ⟨g5, j, none⟩ (I ((x + y) % 2))) := BJ.setCell hg5 _
                  have RSH := Hid.intro (ownsRow_keep (w' := (wr.setCell ⟨g5, j, none⟩ (I ((x + y) % 2))).drew) RS (fun _ _ => rfl))
                  have BSH := Hid.intro BS.drew
                  have hxy : (((x + y) % 2 : Nat) : Int) = ((x : Int) + (y : Int)) % 2 := by omega
                  have hw1 : IntKind.i64.wrap ((x : Int) + (y : Int)) = (x : Int) + (y : Int) := IntWalk.i64_in _ (by omega)
                  have hw2 : ((x : Int) + (y : Int)).tmod 2 = ((x : Int) + (y : Int)) % 2 := Int.tmod_eq_emod_of_nonneg (by omega)
                  rw [show I ((x + y) % 2) = .int .i64 (((x : Int) + (y : Int)) % 2) from by unfold I; rw [hxy]] at RSH BSH
                  clear RS BS RJ BJ fl hpj ms hxy
                  go_wp2_with fail
                  refine wp_region_still_tail 13 (by kernel_rfl) (by kernel_rfl) ?_
                  simp only [List.take_succ_cons, List.take_zero, List.drop_succ_cons, List.drop_zero]
                  change wpStill _ _ wr.drew _ _ _
                  iterate 13 still_step
                  refine wpStill_nil ?_
                  go_wp2
                  go_roundw
                  case rel => exact ⟨j + 1, by omega, by go_num, RSH.out, BSH.out⟩
                  case measure => simp [intOf]; omega
                · have hje : j = W := by omega
                  have RF : wr.ownsRow 0 3 1 (.slice (some ⟨g5, 0, none⟩) W cp5) W ((lstep poly (a :: t) b).map I) := by
                    rw [hje] at RJ
                    rw [HSTP.out, ← mixed_all T poly (by rw [HTN.out, HWE.out]), HTN.out]; exact RJ
                  have RFH := Hid.intro RF
                  clear RF RJ hje
                  go_wp2
                  go_roundw
                  case rel => exact ⟨q + 1, g5, cp5, by omega, by go_num, rfl, hg5, by rw [HFS.out]; exact RFH.out, BJ⟩
                  case measure => simp [intOf]; omega
            · have hI : (((a : Int) + (b : Int)) % 2 == 1) = false := by simp; omega
              have hst : lstep poly (a :: t) b = t ++ [0] := by
                unfold lstep; rw [if_neg (by simpa using hh)]; rfl
              have HSTP := Hid.intro hst
              clear hst
              go_wp2_with fail
              refine wp_loop_rounds 1 ?_
              rw [rounds_succ]
              go_wp2
              go_roundw
              case rel => exact ⟨q + 1, g5, cp5, by omega, by go_num, rfl, hg5, by rw [HFS.out, HSTP.out]; exact R5H.out, B5⟩
              case measure => simp [intOf]; omega
        · go_wp2
          go_ret
          have hqe : q = l.length := by omega
          rw [hqe, List.take_length] at RQ
          exact ⟨g, cap, rfl, hg, RQ, BQ⟩

set_option maxRecDepth 100000 in
set_option maxHeartbeats 2000000 in
theorem sum_zero (a : Option Addr) (lcap gp pcap : Nat) (poly : List Nat) (hW2 : 2 ≤ poly.length) (hW : poly.length ≤ 32) (w : World) :
    Calls Tryd.prog 39 #[.slice a 0 lcap, .slice (some ⟨gp, 0, none⟩) poly.length pcap] w fun e w' =>
      ∃ g cap, e = .returned (.slice (some ⟨g, 0, none⟩) poly.length cap) ∧ w.heap.size ≤ g ∧
        w'.ownsRow 0 3 1 (.slice (some ⟨g, 0, none⟩) poly.length cap) poly.length ((List.replicate poly.length 1).map I) ∧ Below w.heap.size w w' := by
  obtain ⟨i, hi, hz0, hz1, hz2⟩ := info_parts info_int
  generalize hWe : poly.length = W at hW2 hW ⊢
  clear hWe
  go_enter Tryd.func39, Tryd.ntmps39
  go_wp2_with (at_make; refine wpList_make_full _ rfl _ _ 57 rfl 0 3 i (.int .i64 0) 1 Tryd.underlying57 hi hz0 hz1 _ _ _ _ W rfl rfl (by omega) (by omega) (by rw [hz2]; omega) (by unfold maxLen; omega) (Nat.zero_le _) ?_)
  intro w1 hown hgrow
  have hB : Below w.heap.size w w1 := (Below.refl _ w).grown hgrow (Nat.le_refl _) (fun k hk => by cases hk)
  have hR : w1.ownsRow 0 3 1 (.slice (some ⟨w.heap.size, 0, none⟩) W W) W ((ones W 0).map I) := by
    rw [ones_zero, List.map_replicate]
    rw [toList_madeCells_one] at hown
    exact hown
  clear hown hgrow
  go_wp2_with fail
  go_loopw [6] (fun c wr => ∃ k : Nat, k ≤ W ∧ c = .int .i64 k ∧ wr.ownsRow 0 3 1 (.slice (some ⟨w.heap.size, 0, none⟩) W W) W ((ones W k).map I) ∧ Below w.heap.size w wr)
    (fun c _ => W - (intOf c).toNat)
  case atStart => exact ⟨0, by omega, rfl, hR, hB⟩
  case round =>
    obtain ⟨k, hk, rfl, RK, BK⟩ := hrel
    clear hR hB
    by_cases hlt : k < W
    · have fl := ones_length W k
      have c1 : ∃ u, wr.cell? ⟨w.heap.size, k, none⟩ = some u := by
        rw [RK.cellAt _ (by omega)]
        exact ⟨_, List.getElem?_eq_getElem (by simp [fl]; omega)⟩
      obtain ⟨u, c1⟩ := c1
      have f1 : wr.frozen? ⟨w.heap.size, k, none⟩ = false := RK.frozenAt _
      have i1 : (0 : Int) ≤ (k : Int) := by omega
      have i2 : (k : Int) < (W : Int) := by omega
      have RS : (wr.setCell ⟨w.heap.size, k, none⟩ (I 1)).ownsRow 0 3 1 (.slice (some ⟨w.heap.size, 0, none⟩) W W) W ((ones W (k + 1)).map I) := by
        rw [← ones_step W k, List.map_set]; exact (RK.stored _ _).1
      have BS : Below w.heap.size w (wr.setCell ⟨w.heap.size, k, none⟩ (I 1)) := BK.setCell (Nat.le_refl _) _
      have RSH := Hid.intro RS
      have BSH := Hid.intro BS
      clear RS BS RK BK fl
      go_wp2
      go_roundw
      case rel => exact ⟨k + 1, by omega, by go_num, RSH.out, BSH.out⟩
      case measure => simp [intOf]; omega
    · have hkW : k = W := by omega
      rw [hkW, ones_all] at RK
      have RKH := Hid.intro RK
      clear RK hkW
      go_wp2_with fail
      refine wp_loop_rounds 1 ?_
      rw [rounds_succ]
      go_wp2
      go_ret
      exact ⟨w.heap.size, W, rfl, Nat.le_refl _, RKH.out, BK⟩

/-- A slice that begins at ao reads as the numbers l. -/
def ReadsI (w : World) (ao : Option Addr) (l : List Nat) : Prop :=
  0 < l.length → ∃ b off, ao = some ⟨b, off, none⟩ ∧ ∀ j, (hj : j < l.length) → w.cell? ⟨b, off + j, none⟩ = some (I l[j])

theorem ReadsI.below {w w' : World} {ao : Option Addr} {l : List Nat} (h : ReadsI w ao l) (hb : Below w.heap.size w w') : ReadsI w' ao l := by
  intro h0
  obtain ⟨b, off, ha, hc⟩ := h h0
  exact ⟨b, off, ha, fun j hj => (hb.cell (cell_lt (hc j hj))).trans (hc j hj)⟩

theorem owns_readsI {w : World} {v : Value} {l : List Nat} (h : w.ownsRow 0 3 1 v l.length (l.map I)) : ∃ ao cap, v = .slice ao l.length cap ∧ ReadsI w ao l := by
  obtain ⟨ao, cap, hv, hf⟩ := ownsRow_form h
  refine ⟨ao, cap, hv, fun h0 => ?_⟩
  rcases hf with hf | ⟨g, rfl⟩
  · omega
  · subst hv
    exact ⟨g, 0, rfl, fun j hj => by rw [Nat.zero_add, h.cellAt j (by omega)]; simp [hj]⟩

/-- The document's own sum. -/
theorem sum_any (ao : Option Addr) (lcap gp pcap : Nat) (l poly : List Nat) (h2 : l.length ≤ 2400) (hW2 : 2 ≤ poly.length) (hW : poly.length ≤ 32) (hbl : Bits l) (hbp : Bits poly) (w : World)
    (hl : ReadsI w ao l) (hp : w.ownsRow 0 3 1 (.slice (some ⟨gp, 0, none⟩) poly.length pcap) poly.length (poly.map I)) :
    Calls Tryd.prog 39 #[.slice ao l.length lcap, .slice (some ⟨gp, 0, none⟩) poly.length pcap] w fun e w' =>
      ∃ g cap, e = .returned (.slice (some ⟨g, 0, none⟩) poly.length cap) ∧ w.heap.size ≤ g ∧
        w'.ownsRow 0 3 1 (.slice (some ⟨g, 0, none⟩) poly.length cap) poly.length ((l.foldl (lstep poly) (List.replicate poly.length 1)).map I) ∧ Below w.heap.size w w' := by
  by_cases h0 : l.length = 0
  · obtain rfl : l = [] := List.eq_nil_of_length_eq_zero h0
    exact sum_zero ao lcap gp pcap poly hW2 hW w
  · obtain ⟨b, off, rfl, hc⟩ := hl (by omega)
    exact sum_pos b off lcap gp pcap l poly (by omega) h2 hW2 hW hbl hbp w hc (fun j hj => by rw [hp.cellAt j (by omega)]; simp [hj])

set_option maxHeartbeats 1000000 in
/-- A list in the other order. -/
theorem back_pos (b off cap : Nat) (l : List Nat) (h1 : 0 < l.length) (h2 : l.length ≤ 64) (hbl : Bits l) (w : World) (hl : ∀ j, (hj : j < l.length) → w.cell? ⟨b, off + j, none⟩ = some (I l[j])) :
    Calls Tryd.prog 41 #[.slice (some ⟨b, off, none⟩) l.length cap] w fun e w' => ∃ v, e = .returned v ∧ w'.ownsRow 0 3 1 v l.length (l.reverse.map I) ∧ (∀ j, v.ownBlock = some j → w.heap.size ≤ j) ∧ Below w.heap.size w w' := by
  obtain ⟨i, hi, hz0, hz1, hz2⟩ := info_parts info_int
  have HL := Hid.intro hl
  have HB := Hid.intro hbl
  clear hl hbl
  go_enter Tryd.func41, Tryd.ntmps41
  go_wp2
  go_loopw [3, 4] (fun v c wr => ∃ k : Nat, k ≤ l.length ∧ c = .int .i64 ((l.length : Int) - 1 - k) ∧ wr.ownsRow 0 3 1 v k ((l.reverse.take k).map I) ∧ (∀ j, v.ownBlock = some j → w.heap.size ≤ j) ∧ Below w.heap.size w wr)
    (fun _ c _ => (intOf c + 1).toNat)
  case atStart => exact ⟨0, by omega, by simp, World.ownsRow_nil _ _ _ _, nil_own _, Below.refl _ _⟩
  case round =>
    obtain ⟨k, hk, rfl, RK, NK, BK⟩ := hrel
    have NKH := Hid.intro NK
    have RKH := Hid.intro RK
    clear NK RK
    by_cases hlt : k < l.length
    · have hx : l.length - 1 - k < l.length := by omega
      have cl := HL.out (l.length - 1 - k) hx
      have c1 : wr.cell? ⟨b, off + (l.length - 1 - k), none⟩ = some (I l[l.length - 1 - k]) := (BK.cell (cell_lt cl)).trans cl
      have ts : l.reverse.take (k + 1) = l.reverse.take k ++ [l[l.length - 1 - k]] := by
        rw [take_snoc l.reverse k (by simpa using hlt)]; simp
      have hb := HB.out l[l.length - 1 - k] (List.getElem_mem hx)
      generalize l[l.length - 1 - k] = x at cl c1 ts hb
      have TS := Hid.intro ts
      clear ts cl
      have i1 : (0 : Int) ≤ (l.length : Int) - 1 - (k : Int) := by omega
      have i2 : (l.length : Int) - 1 - (k : Int) < (l.length : Int) := by omega
      have R6H := Hid.intro (RKH.out.alloc (.cells #[I x] 3))
      go_wp2_with (at_builtin; refine wpList_append_lies _ rfl _ _ 57 rfl 0 3 i (.int .i64 0) 1 8 Tryd.underlying57 hi hz0 hz1 hz2 rfl (by decide) u3 _ _ rfl R6H.out ⟨wr.heap.size, 0, none⟩ 1 1 [I x] rfl rfl (World.news_of_block (cs := #[I x]) (t := 3) (fr := (0, 0)) (heap_alloc_new wr _)) (by simp [Value.oneCell', I]) (by decide) (by unfold maxLen; omega) (by omega) (Nat.zero_le _) (wr.heap.size + 1) (by simp) ?_)
      intro g7 cp w7 hown hgrow hat hgl
      have C7 : Chg (fun j => u3.ownBlock = some j) wr w7 := ((Chg.refl _ _).alloc _).grown hgrow (fun j hj _ => hj)
      have B7 := BK.trans (C7.below BK.size (fun j hj => NKH.out j hj))
      have N7 : ∀ q, (Value.slice (some ⟨g7, 0, none⟩) (k + 1) cp).ownBlock = some q → w.heap.size ≤ q := by
        intro q hq
        have e : g7 = q := by simpa [Value.ownBlock] using hq
        subst e
        rcases hat with hat | hat
        · exact NKH.out g7 hat
        · have := BK.size; omega
      have R7 : w7.ownsRow 0 3 1 (.slice (some ⟨g7, 0, none⟩) (k + 1) cp) (k + 1) ((l.reverse.take (k + 1)).map I) := by
        rw [TS.out, List.map_append]; simpa using hown
      have R7H := Hid.intro R7
      have N7H := Hid.intro N7
      clear hown hgrow hat R7 N7 C7 BK R6H NKH RKH
      go_wp2
      go_roundw
      case rel => exact ⟨k + 1, by omega, by go_num, R7H.out, N7H.out, B7⟩
      case measure => simp [intOf]; omega
    · have hke : k = l.length := by omega
      have RL : wr.ownsRow 0 3 1 u3 l.length (l.reverse.map I) := by
        have := RKH.out
        rw [hke, List.take_of_length_le (by simp)] at this
        exact this
      clear hke
      go_wp2
      go_ret
      exact ⟨_, rfl, RL, NKH.out, BK⟩

end Go.Proofs.YtaieohnppeapfaaDoor
