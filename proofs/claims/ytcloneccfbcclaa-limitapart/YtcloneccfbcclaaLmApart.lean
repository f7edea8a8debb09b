/- The statement LimitApart: values of other beds and kinds don't matter. -/
import Derived.Test.YtcloneccfbcclaaLmTwoT
import Derived.Test.YtcloneccfbcclaaLmAlive
import Derived.Test.YtcloneccfbcclaaLmArg
import Derived.Deep.RegionHeld3
namespace Go.Proofs.Ytcloneccfbcclaa
open Go.ChangeShapes Go.WideShapes Go.ChangeAt Go.RowKit
open Bt

namespace LLimitApart

/-- An act's cells, in a block of its own. -/
abbrev actV (k v x0 x1 x2 x3 x4 : Int) : Obj := .cells #[.int .i64 k, .int .i64 v, .int .i64 x0, .int .i64 x1, .int .i64 x2, .int .i64 x3, .int .i64 x4] 41 (0, 0)

theorem act_block {w : World} {g : Nat} {k v x0 x1 x2 x3 x4 : Int} (h : w.heap[g]? = some (actV k v x0 x1 x2 x3 x4)) : ActAt14 w g 0 ⟨k, v, ⟨x0, x1, x2, x3, x4⟩⟩ :=
  ⟨by rw [cell_of_row _ _ 0 _ _ _ h]; rfl, by rw [cell_of_row _ _ 1 _ _ _ h]; rfl, by rw [cell_of_row _ _ 2 _ _ _ h]; rfl, by rw [cell_of_row _ _ 3 _ _ _ h]; rfl, by rw [cell_of_row _ _ 4 _ _ _ h]; rfl, by rw [cell_of_row _ _ 5 _ _ _ h]; rfl, by rw [cell_of_row _ _ 6 _ _ _ h]; rfl⟩

set_option maxRecDepth 100000 in
set_option maxHeartbeats 4000000 in
theorem walk (a : Option Addr) (len cap : Nat) (l : List Act14) (bed kind : Int) (w : World) (hz : l.length = len ∧ (∀ x ∈ l, LmW x.lm) ∧ ActsAt14 w a l ∧ len ≤ maxLen) (hbed : (Lit.int .i64 bed).wf = true) (hkind : (Lit.int .i64 kind).wf = true) :
    Calls Try.prog 5 #[.slice a len cap, .int .i64 bed, .int .i64 kind] w fun e w' => e = .returned (.bool true) ∧ Below w.heap.size w w' := by
  obtain ⟨rfl, hwf, hact, hmx⟩ := hz
  have HA := Hid.intro hact
  have HW := Hid.intro hwf
  have AL := Hid.intro (alive14_any w)
  have ho : okO (bed, kind) := ⟨hbed, hkind⟩
  obtain ⟨len, hlen⟩ : ∃ len, len = l.length := ⟨_, rfl⟩
  have HLEN := Hid.intro hlen
  rw [← hlen] at hmx ⊢
  unfold maxLen at hmx
  clear hact hlen hbed hkind hwf
  go_enter Try.func5, Try.ntmps5
  go_wp2_with fail
  refine AL.out.mono ?_
  rintro e w1 ⟨rfl, B1⟩
  have BH := Hid.intro B1
  clear AL B1
  by_cases hl : 100 < len
  · have hl2 : (100 : Int) < (len : Int) := by omega
    go_wp2
    go_ret
    exact ⟨rfl, BH.out⟩
  have hl2 : ¬ (100 : Int) < (len : Int) := by omega
  go_wp2_with fail
  refine (lnew_any w1).mono ?_
  rintro e w2 ⟨ta, T, rfl, hS, hF, BN⟩
  have HS := Hid.intro hS
  have HF := Hid.intro hF
  have BNH := Hid.intro BN
  clear hS hF BN
  go_wp2_with fail
  refine (lnew_any w2).mono ?_
  rintro e w3 ⟨tb, T2, rfl, hS2, hF2, BN2⟩
  have TW := Hid.intro (two_new (P := TB ta [] 0) (Q := TB tb [] 0) (R := fun _ => False) (tb_owned ta [] 0) HS.out HF.out hS2 hF2 BNH.out BN2 (Nat.le_refl _) (fun _ q => q.elim))
  have C3 := Hid.intro (show Chg (fun k => w1.heap.size ≤ k) w1 w3 from ((below_chg BNH.out).mono (fun _ f _ => f.elim)).trans (below_chg BN2) (fun _ f _ => f.elim))
  clear hS2 hF2 BN2 HS HF BNH
  go_wp2_with fail
  go_loopw [9] (fun iv ws => ∃ (t : Nat) (A C : List Kp), t ≤ len ∧ iv = .int .i64 t ∧ Alike bed kind A C ∧ Two (TB ta A t) (TB tb C t) (fun _ => False) w1.heap.size ws ∧ Chg (fun k => w1.heap.size ≤ k) w1 ws) (fun iv _ => len - (intOf iv).toNat)
  case atStart => exact ⟨0, [], [], by omega, rfl, ⟨rfl, rfl⟩, TW.out, C3.out⟩
  case round =>
    clear TW C3
    obtain ⟨t, A, C, ht, rfl, hAl, hTw, hCh⟩ := hrel
    have AH := Hid.intro hAl
    have TH := Hid.intro hTw
    have CH := Hid.intro hCh
    clear hAl hTw hCh
    by_cases hlt : t < len
    · have hlt' : t < l.length := by rw [← HLEN.out]; exact hlt
      obtain ⟨ab, off, ea, hab, hcell⟩ := HA.out (by omega)
      subst ea
      have s1 := BH.out.size
      have s2 := CH.out.size
      obtain ⟨c0, c1, c2, c3, c4, c5, c6⟩ := ((hcell t hlt').below BH.out).chg CH.out (by omega)
      have wf := HW.out l[t] (List.getElem_mem hlt')
      have t0 : (0 : Int) ≤ (t : Int) := by omega
      have t1 : (t : Int) < (len : Int) := by omega
      generalize l[t] = x at *
      obtain ⟨k, vv, ⟨x0, x1, x2, x3, x4⟩⟩ := x
      simp only at c0 c1 c2 c3 c4 c5 c6
      have hx : okO (x0, x1) := ⟨wf.bed, wf.kind⟩
      have BA := (Below.refl wr.heap.size wr).alloc (Nat.le_refl _) (actV k vv x0 x1 x2 x3 x4)
      have BAH := Hid.intro BA
      have xs : (wr.alloc (actV k vv x0 x1 x2 x3 x4)).heap.size = wr.heap.size + 1 := by simp
      have TG := Hid.intro ((TH.out.grow (tb_owned _ _ _) (tb_owned _ _ _) BA).less (G := fun q => q = wr.heap.size) (fun q hq => .inr (by omega)))
      have XA := Hid.intro (act_block (heap_alloc_new wr (actV k vv x0 x1 x2 x3 x4)))
      have CA := Hid.intro (CH.out.alloc (actV k vv x0 x1 x2 x3 x4))
      have HXS := Hid.intro xs
      clear hcell wf BA xs CH
      have hR0 : Hid (∀ q, q = wr.heap.size → q < (wr.alloc (actV k vv x0 x1 x2 x3 x4)).heap.size) := fun q hq => by have := HXS.out; omega
      have hB0 : Hid (w1.heap.size ≤ (wr.alloc (actV k vv x0 x1 x2 x3 x4)).heap.size) := by have := HXS.out; rw [Hid]; omega
      by_cases hk2 : k = 2
      · subst hk2
        have P1 := Hid.intro (Two.call (P' := TB ta (seeT A x0 x1 vv) (t + 1)) (tb_owned _ _ _) TG.out hR0.out hB0.out (fun S hS => lsee_any ta x0 x1 vv hx S A t (by omega) _ hS))
        by_cases hown : x0 = bed ∧ x1 = kind
        · have AO : Hid (Alike bed kind (seeT A x0 x1 vv) (seeT C x0 x1 vv)) := by rw [Hid, hown.1, hown.2]; exact AH.out.own vv
          obtain ⟨e0, e1⟩ := hown
          have f0 : (x0 == bed) = true := by simpa using e0
          have f1 : (x1 == kind) = true := by simpa using e1
          clear e0 e1 AH TH TG
          go_wp2_with fail
          refine P1.out.mono ?_
          rintro e w4 ⟨rfl, h4, C4⟩
          have X4 := XA.out.chg C4 (fun q => q.2 rfl)
          have s4 := C4.size
          have P2 := Hid.intro (Two.call2 (P' := TB tb (seeT C x0 x1 vv) (t + 1)) (tb_owned _ _ _) h4 (fun q hq => by have := hR0.out q hq; omega) (by have := hB0.out; omega) (fun S hS => lsee_any tb x0 x1 vv hx S C t (by omega) _ hS))
          have C4H := Hid.intro (CA.out.trans C4 (fun q hq _ => hq.1))
          have X4H := Hid.intro X4
          obtain ⟨d0, d1, d2, d3, d4, d5, d6⟩ := X4
          simp only [Nat.zero_add] at d0 d1 d2 d3 d4 d5 d6
          clear P1 h4 C4 s4 CA
          go_wp2_with fail
          refine P2.out.mono ?_
          rintro e w5 ⟨rfl, h5, C5⟩
          have C5H := Hid.intro (C4H.out.trans C5 (fun q hq _ => hq.1))
          have H5 := Hid.intro h5
          have X5 := X4H.out.chg C5 (fun q => q.2 rfl)
          clear d0 d1 d2 d3 d4 d5 d6 X4H
          obtain ⟨d0, d1, d2, d3, d4, d5, d6⟩ := X5
          simp only [Nat.zero_add] at d0 d1 d2 d3 d4 d5 d6
          clear P2 h5 C5 C4H c0 c1 c2 c3 c4 c5 c6
          go_wp2_with fail
          go_quiet (fail)
          generalize hq : World.drewN _ _ = wq
          have Bq : Below w5.heap.size w5 wq := by rw [← hq]; exact ⟨rfl, rfl, rfl, Nat.le_refl _, fun _ _ => rfl⟩
          have FT := Hid.intro (((H5.out).below (tb_owned _ _ _) (tb_owned _ _ _) Bq).less (G := fun _ => False) (fun _ q => q.elim))
          have FC := Hid.intro ((C5H.out).trans (below_chg Bq) (fun _ f _ => f.elim))
          clear hq Bq
          go_wp2
          go_roundw
          case rel => exact ⟨t + 1, _, _, by omega, by go_num, AO.out, FT.out, FC.out⟩
          case measure => simp [intOf]; omega
        · have AO := Hid.intro (AH.out.other hown vv)
          have HO : ((x0 == bed) && (x1 == kind)) = false := by
            rw [Bool.eq_false_iff]
            intro q
            simp only [Bool.and_eq_true, beq_iff_eq] at q
            exact hown q
          clear AH TH TG
          rcases f0 : (x0 == bed) with _ | _
          · clear hown HO
            go_wp2_with fail
            refine P1.out.mono ?_
            rintro e w4 ⟨rfl, h4, C4⟩
            have X4 := XA.out.chg C4 (fun q => q.2 rfl)
            have C4H := Hid.intro (CA.out.trans C4 (fun q hq _ => hq.1))
            have H4 := Hid.intro (two_more h4 (Nat.le_refl _) (Nat.le_succ t))
            obtain ⟨d0, d1, d2, d3, d4, d5, d6⟩ := X4
            simp only [Nat.zero_add] at d0 d1 d2 d3 d4 d5 d6
            clear P1 h4 C4 CA c0 c1 c2 c3 c4 c5 c6
            go_wp2_with fail
            go_quiet (fail)
            generalize hq : World.drewN _ _ = wq
            have Bq : Below w4.heap.size w4 wq := by rw [← hq]; exact ⟨rfl, rfl, rfl, Nat.le_refl _, fun _ _ => rfl⟩
            have FT := Hid.intro (((H4.out).below (tb_owned _ _ _) (tb_owned _ _ _) Bq).less (G := fun _ => False) (fun _ q => q.elim))
            have FC := Hid.intro ((C4H.out).trans (below_chg Bq) (fun _ f _ => f.elim))
            clear hq Bq
            go_wp2
            go_roundw
            case rel => exact ⟨t + 1, _, _, by omega, by go_num, AO.out, FT.out, FC.out⟩
            case measure => simp [intOf]; omega
          · have f1 : (x1 == kind) = false := by rw [f0] at HO; simpa using HO
            clear hown HO
            go_wp2_with fail
            refine P1.out.mono ?_
            rintro e w4 ⟨rfl, h4, C4⟩
            have X4 := XA.out.chg C4 (fun q => q.2 rfl)
            have C4H := Hid.intro (CA.out.trans C4 (fun q hq _ => hq.1))
            have H4 := Hid.intro (two_more h4 (Nat.le_refl _) (Nat.le_succ t))
            obtain ⟨d0, d1, d2, d3, d4, d5, d6⟩ := X4
            simp only [Nat.zero_add] at d0 d1 d2 d3 d4 d5 d6
            clear P1 h4 C4 CA c0 c1 c2 c3 c4 c5 c6
            go_wp2_with fail
            go_quiet (fail)
            generalize hq : World.drewN _ _ = wq
            have Bq : Below w4.heap.size w4 wq := by rw [← hq]; exact ⟨rfl, rfl, rfl, Nat.le_refl _, fun _ _ => rfl⟩
            have FT := Hid.intro (((H4.out).below (tb_owned _ _ _) (tb_owned _ _ _) Bq).less (G := fun _ => False) (fun _ q => q.elim))
            have FC := Hid.intro ((C4H.out).trans (below_chg Bq) (fun _ f _ => f.elim))
            clear hq Bq
            go_wp2
            go_roundw
            case rel => exact ⟨t + 1, _, _, by omega, by go_num, AO.out, FT.out, FC.out⟩
            case measure => simp [intOf]; omega
      · have n2 : (k == 2) = false := by simpa using hk2
        obtain ⟨d0, d1, d2, d3, d4, d5, d6⟩ := XA.out
        simp only [Nat.zero_add] at d0 d1 d2 d3 d4 d5 d6
        by_cases hk0 : k = 0
        · subst hk0
          have AO := Hid.intro (AH.out.setT ⟨x0, x1, x2, x3, x4⟩)
          have eS := AH.out.setE ⟨x0, x1, x2, x3, x4⟩
          have TD := TG.out.below (tb_owned _ _ _) (tb_owned _ _ _) (w' := (wr.alloc (actV 0 vv x0 x1 x2 x3 x4)).drew) (Below.refl _ _).drew
          have XD := Hid.intro (show ActAt14 (wr.alloc (actV 0 vv x0 x1 x2 x3 x4)).drew wr.heap.size 0 ⟨0, vv, ⟨x0, x1, x2, x3, x4⟩⟩ from XA.out)
          have CD := Hid.intro CA.out.drew
          have P1 := Two.call (P' := TB ta (setT A ⟨x0, x1, x2, x3, x4⟩) t) (tb_owned _ _ _) TD hR0.out hB0.out (fun S hS => lset_any ta ⟨x0, x1, x2, x3, x4⟩ S A t _ hS)
          have P2G := Hid.intro (fun (W : World) (hW : Two (TB ta (setT A ⟨x0, x1, x2, x3, x4⟩) t) (TB tb C t) (fun q => q = wr.heap.size) w1.heap.size W) (hs : (wr.alloc (actV 0 vv x0 x1 x2 x3 x4)).drew.heap.size ≤ W.heap.size) => Two.call2 (P' := TB tb (setT C ⟨x0, x1, x2, x3, x4⟩) t) (tb_owned _ _ _) hW (fun q hq => Nat.lt_of_lt_of_le (hR0.out q hq) hs) (Nat.le_trans hB0.out hs) (fun S hS => lset_any tb ⟨x0, x1, x2, x3, x4⟩ S C t W hS))
          rw [← eS] at P2G
          generalize Bt.setE A ⟨x0, x1, x2, x3, x4⟩ = se at *
          have P1H := Hid.intro P1
          clear P1 eS TD AH TH TG XA CA hR0 hB0 hk2
          have P1 := P1H
          clear P1H
          rcases f0 : (x0 == bed) with _ | _
          · go_wp2_with fail
            clear c0 c1 c2 c3 c4 c5 c6
            go_region_held3 (fun W => W.cell? ⟨wr.heap.size, 0, none⟩ = some (.int .i64 0) ∧ W.cell? ⟨wr.heap.size, 2, none⟩ = some (.int .i64 x0) ∧ W.cell? ⟨wr.heap.size, 3, none⟩ = some (.int .i64 x1) ∧ W.cell? ⟨wr.heap.size, 4, none⟩ = some (.int .i64 x2) ∧ W.cell? ⟨wr.heap.size, 5, none⟩ = some (.int .i64 x3) ∧ W.cell? ⟨wr.heap.size, 6, none⟩ = some (.int .i64 x4))
              (first | exact KK2.out | exact KK.out | go_keep)
              (first
                | (have _ := H4; go_at_call 11; refine P2.out.mono ?_; rintro e w5 ⟨rfl, h5, C5⟩; have H5 := Hid.intro h5; have C5H := Hid.intro (C4H.out.trans C5 (fun q hq _ => hq.1)); have KK2 := Hid.intro (show w5.cell? ⟨wr.heap.size, 0, none⟩ = some (.int .i64 0) ∧ w5.cell? ⟨wr.heap.size, 2, none⟩ = some (.int .i64 x0) ∧ w5.cell? ⟨wr.heap.size, 3, none⟩ = some (.int .i64 x1) ∧ w5.cell? ⟨wr.heap.size, 4, none⟩ = some (.int .i64 x2) ∧ w5.cell? ⟨wr.heap.size, 5, none⟩ = some (.int .i64 x3) ∧ w5.cell? ⟨wr.heap.size, 6, none⟩ = some (.int .i64 x4) from by obtain ⟨g0, g1, g2, g3, g4, g5, g6⟩ := X4H.out.chg C5 (fun q => q.2 rfl); simp only [Nat.zero_add] at g0 g1 g2 g3 g4 g5 g6; exact ⟨g0, g2, g3, g4, g5, g6⟩); clear h5 C5)
                | (go_at_call 11; refine P1.out.mono ?_; rintro e w4 ⟨rfl, h4, C4⟩; have H4 := Hid.intro h4; have X4H := Hid.intro (XD.out.chg C4 (fun q => q.2 rfl)); have C4H := Hid.intro (CD.out.trans C4 (fun q hq _ => hq.1)); have KK := Hid.intro (show w4.cell? ⟨wr.heap.size, 0, none⟩ = some (.int .i64 0) ∧ w4.cell? ⟨wr.heap.size, 2, none⟩ = some (.int .i64 x0) ∧ w4.cell? ⟨wr.heap.size, 3, none⟩ = some (.int .i64 x1) ∧ w4.cell? ⟨wr.heap.size, 4, none⟩ = some (.int .i64 x2) ∧ w4.cell? ⟨wr.heap.size, 5, none⟩ = some (.int .i64 x3) ∧ w4.cell? ⟨wr.heap.size, 6, none⟩ = some (.int .i64 x4) from by obtain ⟨g0, g1, g2, g3, g4, g5, g6⟩ := X4H.out; simp only [Nat.zero_add] at g0 g1 g2 g3 g4 g5 g6; exact ⟨g0, g2, g3, g4, g5, g6⟩); have s4 := C4.size; have P2 := Hid.intro (P2G.out w4 h4 s4); clear h4 C4 s4)
                | fail)
            all_goals
              have FT := Hid.intro ((two_more H5.out (Nat.le_succ t) (Nat.le_succ t)).less (G := fun _ => False) (fun _ q => q.elim))
              clear KK KK2 H4 P2 X4H
              go_wp2
              go_roundw
              case rel => exact ⟨t + 1, _, _, by omega, by go_num, AO.out, FT.out, C5H.out⟩
              case measure => simp [intOf]; omega
          · rcases f1 : (x1 == kind) with _ | _
            · go_wp2_with fail
              clear c0 c1 c2 c3 c4 c5 c6
              go_region_held3 (fun W => W.cell? ⟨wr.heap.size, 0, none⟩ = some (.int .i64 0) ∧ W.cell? ⟨wr.heap.size, 2, none⟩ = some (.int .i64 x0) ∧ W.cell? ⟨wr.heap.size, 3, none⟩ = some (.int .i64 x1) ∧ W.cell? ⟨wr.heap.size, 4, none⟩ = some (.int .i64 x2) ∧ W.cell? ⟨wr.heap.size, 5, none⟩ = some (.int .i64 x3) ∧ W.cell? ⟨wr.heap.size, 6, none⟩ = some (.int .i64 x4))
                (first | exact KK2.out | exact KK.out | go_keep)
                (first
                  | (have _ := H4; go_at_call 11; refine P2.out.mono ?_; rintro e w5 ⟨rfl, h5, C5⟩; have H5 := Hid.intro h5; have C5H := Hid.intro (C4H.out.trans C5 (fun q hq _ => hq.1)); have KK2 := Hid.intro (show w5.cell? ⟨wr.heap.size, 0, none⟩ = some (.int .i64 0) ∧ w5.cell? ⟨wr.heap.size, 2, none⟩ = some (.int .i64 x0) ∧ w5.cell? ⟨wr.heap.size, 3, none⟩ = some (.int .i64 x1) ∧ w5.cell? ⟨wr.heap.size, 4, none⟩ = some (.int .i64 x2) ∧ w5.cell? ⟨wr.heap.size, 5, none⟩ = some (.int .i64 x3) ∧ w5.cell? ⟨wr.heap.size, 6, none⟩ = some (.int .i64 x4) from by obtain ⟨g0, g1, g2, g3, g4, g5, g6⟩ := X4H.out.chg C5 (fun q => q.2 rfl); simp only [Nat.zero_add] at g0 g1 g2 g3 g4 g5 g6; exact ⟨g0, g2, g3, g4, g5, g6⟩); clear h5 C5)
                  | (go_at_call 11; refine P1.out.mono ?_; rintro e w4 ⟨rfl, h4, C4⟩; have H4 := Hid.intro h4; have X4H := Hid.intro (XD.out.chg C4 (fun q => q.2 rfl)); have C4H := Hid.intro (CD.out.trans C4 (fun q hq _ => hq.1)); have KK := Hid.intro (show w4.cell? ⟨wr.heap.size, 0, none⟩ = some (.int .i64 0) ∧ w4.cell? ⟨wr.heap.size, 2, none⟩ = some (.int .i64 x0) ∧ w4.cell? ⟨wr.heap.size, 3, none⟩ = some (.int .i64 x1) ∧ w4.cell? ⟨wr.heap.size, 4, none⟩ = some (.int .i64 x2) ∧ w4.cell? ⟨wr.heap.size, 5, none⟩ = some (.int .i64 x3) ∧ w4.cell? ⟨wr.heap.size, 6, none⟩ = some (.int .i64 x4) from by obtain ⟨g0, g1, g2, g3, g4, g5, g6⟩ := X4H.out; simp only [Nat.zero_add] at g0 g1 g2 g3 g4 g5 g6; exact ⟨g0, g2, g3, g4, g5, g6⟩); have s4 := C4.size; have P2 := Hid.intro (P2G.out w4 h4 s4); clear h4 C4 s4)
                  | fail)
              all_goals
                have FT := Hid.intro ((two_more H5.out (Nat.le_succ t) (Nat.le_succ t)).less (G := fun _ => False) (fun _ q => q.elim))
                clear KK KK2 H4 P2 X4H
                go_wp2
                go_roundw
                case rel => exact ⟨t + 1, _, _, by omega, by go_num, AO.out, FT.out, C5H.out⟩
                case measure => simp [intOf]; omega
            · go_wp2_with fail
              clear c0 c1 c2 c3 c4 c5 c6
              go_region_held3 (fun W => W.cell? ⟨wr.heap.size, 0, none⟩ = some (.int .i64 0) ∧ W.cell? ⟨wr.heap.size, 2, none⟩ = some (.int .i64 x0) ∧ W.cell? ⟨wr.heap.size, 3, none⟩ = some (.int .i64 x1) ∧ W.cell? ⟨wr.heap.size, 4, none⟩ = some (.int .i64 x2) ∧ W.cell? ⟨wr.heap.size, 5, none⟩ = some (.int .i64 x3) ∧ W.cell? ⟨wr.heap.size, 6, none⟩ = some (.int .i64 x4))
                (first | exact KK2.out | exact KK.out | go_keep)
                (first
                  | (have _ := H4; go_at_call 11; refine P2.out.mono ?_; rintro e w5 ⟨rfl, h5, C5⟩; have H5 := Hid.intro h5; have C5H := Hid.intro (C4H.out.trans C5 (fun q hq _ => hq.1)); have KK2 := Hid.intro (show w5.cell? ⟨wr.heap.size, 0, none⟩ = some (.int .i64 0) ∧ w5.cell? ⟨wr.heap.size, 2, none⟩ = some (.int .i64 x0) ∧ w5.cell? ⟨wr.heap.size, 3, none⟩ = some (.int .i64 x1) ∧ w5.cell? ⟨wr.heap.size, 4, none⟩ = some (.int .i64 x2) ∧ w5.cell? ⟨wr.heap.size, 5, none⟩ = some (.int .i64 x3) ∧ w5.cell? ⟨wr.heap.size, 6, none⟩ = some (.int .i64 x4) from by obtain ⟨g0, g1, g2, g3, g4, g5, g6⟩ := X4H.out.chg C5 (fun q => q.2 rfl); simp only [Nat.zero_add] at g0 g1 g2 g3 g4 g5 g6; exact ⟨g0, g2, g3, g4, g5, g6⟩); clear h5 C5)
                  | (go_at_call 11; refine P1.out.mono ?_; rintro e w4 ⟨rfl, h4, C4⟩; have H4 := Hid.intro h4; have X4H := Hid.intro (XD.out.chg C4 (fun q => q.2 rfl)); have C4H := Hid.intro (CD.out.trans C4 (fun q hq _ => hq.1)); have KK := Hid.intro (show w4.cell? ⟨wr.heap.size, 0, none⟩ = some (.int .i64 0) ∧ w4.cell? ⟨wr.heap.size, 2, none⟩ = some (.int .i64 x0) ∧ w4.cell? ⟨wr.heap.size, 3, none⟩ = some (.int .i64 x1) ∧ w4.cell? ⟨wr.heap.size, 4, none⟩ = some (.int .i64 x2) ∧ w4.cell? ⟨wr.heap.size, 5, none⟩ = some (.int .i64 x3) ∧ w4.cell? ⟨wr.heap.size, 6, none⟩ = some (.int .i64 x4) from by obtain ⟨g0, g1, g2, g3, g4, g5, g6⟩ := X4H.out; simp only [Nat.zero_add] at g0 g1 g2 g3 g4 g5 g6; exact ⟨g0, g2, g3, g4, g5, g6⟩); have s4 := C4.size; have P2 := Hid.intro (P2G.out w4 h4 s4); clear h4 C4 s4)
                  | fail)
              all_goals
                have FT := Hid.intro ((two_more H5.out (Nat.le_succ t) (Nat.le_succ t)).less (G := fun _ => False) (fun _ q => q.elim))
                clear KK KK2 H4 P2 X4H
                go_wp2
                go_roundw
                case rel => exact ⟨t + 1, _, _, by omega, by go_num, AO.out, FT.out, C5H.out⟩
                case measure => simp [intOf]; omega
        · have n0 : (k == 0) = false := by simpa using hk0
          clear hk0 hk2
          rcases f0 : (x0 == bed) with _ | _
          · have T4 := Hid.intro (two_more TG.out (Nat.le_succ t) (Nat.le_succ t))
            clear TG TH
            go_wp2_with fail
            go_quiet (fail)
            generalize hq : World.drewN _ _ = wq
            have Bq : Below (wr.alloc (actV k vv x0 x1 x2 x3 x4)).heap.size (wr.alloc (actV k vv x0 x1 x2 x3 x4)) wq := by rw [← hq]; exact ⟨rfl, rfl, rfl, Nat.le_refl _, fun _ _ => rfl⟩
            have FT := Hid.intro (((T4.out).below (tb_owned _ _ _) (tb_owned _ _ _) Bq).less (G := fun _ => False) (fun _ q => q.elim))
            have FC := Hid.intro ((CA.out).trans (below_chg Bq) (fun _ f _ => f.elim))
            clear hq Bq
            go_wp2
            go_roundw
            case rel => exact ⟨t + 1, _, _, by omega, by go_num, AH.out, FT.out, FC.out⟩
            case measure => simp [intOf]; omega
          · rcases f1 : (x1 == kind) with _ | _
            · have T4 := Hid.intro (two_more TG.out (Nat.le_succ t) (Nat.le_succ t))
              clear TG TH
              go_wp2_with fail
              go_quiet (fail)
              generalize hq : World.drewN _ _ = wq
              have Bq : Below (wr.alloc (actV k vv x0 x1 x2 x3 x4)).heap.size (wr.alloc (actV k vv x0 x1 x2 x3 x4)) wq := by rw [← hq]; exact ⟨rfl, rfl, rfl, Nat.le_refl _, fun _ _ => rfl⟩
              have FT := Hid.intro (((T4.out).below (tb_owned _ _ _) (tb_owned _ _ _) Bq).less (G := fun _ => False) (fun _ q => q.elim))
              have FC := Hid.intro ((CA.out).trans (below_chg Bq) (fun _ f _ => f.elim))
              clear hq Bq
              go_wp2
              go_roundw
              case rel => exact ⟨t + 1, _, _, by omega, by go_num, AH.out, FT.out, FC.out⟩
              case measure => simp [intOf]; omega
            · have T4 := Hid.intro (two_more TG.out (Nat.le_succ t) (Nat.le_succ t))
              clear TG TH
              go_wp2_with fail
              go_quiet (fail)
              generalize hq : World.drewN _ _ = wq
              have Bq : Below (wr.alloc (actV k vv x0 x1 x2 x3 x4)).heap.size (wr.alloc (actV k vv x0 x1 x2 x3 x4)) wq := by rw [← hq]; exact ⟨rfl, rfl, rfl, Nat.le_refl _, fun _ _ => rfl⟩
              have FT := Hid.intro (((T4.out).below (tb_owned _ _ _) (tb_owned _ _ _) Bq).less (G := fun _ => False) (fun _ q => q.elim))
              have FC := Hid.intro ((CA.out).trans (below_chg Bq) (fun _ f _ => f.elim))
              clear hq Bq
              go_wp2
              go_roundw
              case rel => exact ⟨t + 1, _, _, by omega, by go_num, AH.out, FT.out, FC.out⟩
              case measure => simp [intOf]; omega
    · obtain rfl : t = len := by omega
      have t1 : ¬ (t : Int) < (t : Int) := by omega
      have eo := AH.out.on
      have eb := AH.out.bey
      have P1 := Two.look (tb_owned _ _ _) (tb_owned _ _ _) TH.out (fun S hS => lon_any ta bed kind ho S A t wr hS)
      rw [eo] at P1
      have P1H := Hid.intro P1
      have EB := Hid.intro eb
      clear P1 eo eb
      go_wp2_with fail
      refine P1H.out.mono ?_
      rintro e w4 ⟨rfl, h4, B4⟩
      have P2 := Hid.intro (Two.look2 (tb_owned _ _ _) (tb_owned _ _ _) h4 (fun S hS => lon_any tb bed kind ho S C t w4 hS))
      have C4 := Hid.intro (CH.out.trans (below_chg B4) (fun _ f _ => f.elim))
      clear P1H h4 B4 CH
      go_wp2_with fail
      refine P2.out.mono ?_
      rintro e w5 ⟨rfl, h5, B5⟩
      have P3 := Two.look (tb_owned _ _ _) (tb_owned _ _ _) h5 (fun S hS => lbey_any ta bed kind ho S A t w5 hS)
      rw [EB.out] at P3
      have P3H := Hid.intro P3
      have C5 := Hid.intro (C4.out.trans (below_chg B5) (fun _ f _ => f.elim))
      clear P2 h5 B5 C4 P3
      go_wp2_with fail
      refine P3H.out.mono ?_
      rintro e w6 ⟨rfl, h6, B6⟩
      have P4 := Hid.intro (Two.look2 (tb_owned _ _ _) (tb_owned _ _ _) h6 (fun S hS => lbey_any tb bed kind ho S C t w6 hS))
      have C6 := Hid.intro (C5.out.trans (below_chg B6) (fun _ f _ => f.elim))
      clear P3H h6 B6 C5
      go_wp2_with fail
      refine P4.out.mono ?_
      rintro e w7 ⟨rfl, h7, B7⟩
      have C7 := C6.out.trans (below_chg B7) (fun _ f _ => f.elim)
      have FI := Hid.intro (BH.out.trans ((C7.below (Nat.le_refl _) (fun _ q => q)).mono BH.out.size))
      clear P4 h7 B7 C6 C7
      go_wp2
      go_ret
      exact ⟨rfl, FI.out⟩

set_option maxRecDepth 100000 in
theorem lifted (os : Os) (started : os.Started) (H : Type) (enc : TypeId × Value → H) :
    ReturnsInHanded {} Try.checked os 5 .any (Rows.limitApartSpec.pre6 enc Try.prog Try.f5 Rows.limitApartRow.domain false) (Rows.limitApartSpec.post enc Try.prog Try.f5 false true false false) := by
  refine returnsInHanded_of_change (C := Try.checked) own started (by kernel_rfl) Try.func5
    (ChangeSpec.witness6 (enc := enc) (C := Try.checked) false ⟨#[], #[.slice none 0 0, .int .i64 0, .int .i64 0], []⟩ 8 (by kernel_rfl) (by kernel_rfl) (by kernel_rfl) (by kernel_rfl)) ?_
  intro W base args ds gs before hval0 hW hcnd _
  have hval : ∀ (j : Nat) t v, Try.f5.params[j]? = some t → args[j]? = some v → Value.okWide Try.prog W .any base t v := hval0
  have hW' := hW
  obtain ⟨p, q, hA0, hV, rfl, hfz, hnd⟩ := hW
  have hA : DataW.TrodAll enc Try.prog W 0 (fun _ => true) true Try.f5.params.toList args.toList ds p := hA0
  rw [Try.params5] at hA hval
  obtain ⟨v0, vs0, d0, ds0, p0, q0, hargs, rfl, rfl, h0, r0⟩ := trodAll_cons hA
  obtain ⟨v1, vs1, d1, ds1, p1, q1, rfl, rfl, rfl, h1, r1⟩ := trodAll_cons r0
  obtain ⟨v2, vs2, d2, ds2, p2, q2, rfl, rfl, rfl, h2, r2⟩ := trodAll_cons r1
  obtain ⟨rfl, rfl, rfl⟩ := trodAll_nil r2
  obtain rfl : args = #[v0, v1, v2] := by cases args; simp_all
  obtain ⟨rfl, rfl⟩ := trodVars_none hV
  have k0 := h0
  have lt0 : ∀ x ∈ p0, x.block < W.heap.size := by obtain ⟨m, hm⟩ := k0; exact DataW.trod_lt m _ _ _ hm
  obtain ⟨a0, len0, cap0, rfl⟩ := okWide_slice Try.underlying22 (hval 0 22 v0 rfl rfl)
  obtain ⟨z0, w0⟩ := open_acts h0
  obtain ⟨a1, rfl, rfl, rfl, w1⟩ := open_int Try.underlying3 (hval 1 3 v1 rfl rfl) h1
  obtain ⟨a2, rfl, rfl, rfl, w2⟩ := open_int Try.underlying3 (hval 2 3 v2 rfl rfl) h2
  clear hA0 hval0
  refine (walk a0 len0 cap0 z0 a1 a2 W w0 w1 w2).mono fun e W' ⟨he, bel⟩ => ?_
  subst he
  exact ⟨_, rfl, _, _, _, [], _, [], hW', trodAll_mk1 (shut_bool Try.underlying4 _), (trodAll_cons_mk (Below.trod laidOut (by kernel_rfl) (of_decide_eq_true (by kernel_rfl)) k0 bel lt0) (trodAll_cons_mk (shut_int Try.underlying3 w1) (trodAll_cons_mk (shut_int Try.underlying3 w2) trodAll_mk0))), rfl, bel.frame _, fun h => by cases h⟩

theorem over : Rows.limitApartRow.holds Try.pinned (OpenSpec.ofChange Rows.limitApartSpec) :=
  OpenClaim.holds_of_wide 5 Try.f5 rfl rfl rfl rfl rfl rfl rfl ⟨rfl, rfl, rfl, rfl, rfl⟩ rfl rfl rfl rfl rfl (by kernel_rfl) Try.func5 (by kernel_rfl)
    (of_decide_eq_true (by kernel_rfl)) (by unfold Func.isWrapper; first | (rw [if_pos (by decide +kernel)]; kernel_rfl) | (rw [if_neg (by decide +kernel)]; exact ⟨rfl, rfl⟩))
    (fun os started H enc _ => lifted os started H enc)

end Go.Proofs.Ytcloneccfbcclaa.LLimitApart

namespace Go.Proofs.Ytcloneccfbcclaa
theorem limitApart_holds : Rows.LimitApartSaid := LLimitApart.over
#print axioms limitApart_holds
end Go.Proofs.Ytcloneccfbcclaa
