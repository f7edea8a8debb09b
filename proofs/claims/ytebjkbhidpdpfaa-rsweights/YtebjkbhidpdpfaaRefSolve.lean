/- The contract of the document's own Solve of layer 5: the polynomial that is at bytes what is told. -/
import Derived.Test.YtebjkbhidpdpfaaRefFourA
import Derived.Test.YtebjkbhidpdpfaaAppB
import Derived.Test.YtebjkbhidpdpfaaRsMat
namespace Go.Proofs.Ytebjkbhidpdpfaa
open Go.RowKit
open Bt

/-- A row's powers. -/
def powL (x t : Nat) : List Nat := (List.range t).map (gpow x)

theorem powL_succ (x t : Nat) : powL x (t + 1) = powL x t ++ [gpow x t] := by simp [powL, List.range_succ]

theorem powL_length (x t : Nat) : (powL x t).length = t := by simp [powL]

theorem vand_row (at_ vals : List Nat) (j : Nat) : rowL (at_.length + 1) (vand at_ vals) j = powL (at_.getD j 0) at_.length ++ [vals.getD j 0] := by
  unfold rowL powL
  rw [List.range_succ, List.map_append]
  congr 1
  · refine List.map_congr_left (fun k hk => ?_)
    unfold vand; rw [if_pos (List.mem_range.1 hk)]
  · simp [vand]

/-- A row divided, so far. -/
def scT (c v t : Nat) (M : Nat → Nat → Nat) : Nat → Nat → Nat := fun r k => if r = c ∧ k < t then gmul (M c k) v else M r k

theorem scT_zero (c v : Nat) (M : Nat → Nat → Nat) : scT c v 0 M = M := by funext r k; simp [scT]

theorem scT_at (c v t : Nat) (M : Nat → Nat → Nat) : scT c v t M c t = M c t := by simp [scT]

theorem scT_succ (c v t : Nat) (M : Nat → Nat → Nat) : setM c t (gmul (M c t) v) (scT c v t M) = scT c v (t + 1) M := by
  funext r k
  unfold setM scT
  by_cases h1 : r = c
  · by_cases h2 : k = t
    · rw [if_pos ⟨h1, h2⟩, if_pos ⟨h1, by omega⟩, h2]
    · rw [if_neg (fun h => h2 h.2)]
      by_cases h3 : k < t
      · rw [if_pos ⟨h1, h3⟩, if_pos ⟨h1, by omega⟩]
      · rw [if_neg (fun h => h3 h.2), if_neg (fun h => by omega)]
  · rw [if_neg (fun h => h1 h.1), if_neg (fun h => h1 h.1), if_neg (fun h => h1 h.1)]

theorem scT_all (c v n r k : Nat) (M : Nat → Nat → Nat) (hk : k < n) : scT c v n M r k = scaleM c v M r k := by
  unfold scT scaleM
  by_cases h1 : r = c
  · rw [if_pos ⟨h1, hk⟩, if_pos h1]
  · rw [if_neg (fun h => h1 h.1), if_neg h1]

/-- Rows that have been turned, so far. -/
def elT (c t s : Nat) (M : Nat → Nat → Nat) : Nat → Nat → Nat := fun r k => if r < t ∨ (r = t ∧ k < s) then elimM c M r k else M r k

theorem elT_zero (c : Nat) (M : Nat → Nat → Nat) : elT c 0 0 M = M := by funext r k; simp [elT]

theorem elT_at (c t s k : Nat) (M : Nat → Nat → Nat) (hk : s ≤ k) : elT c t s M t k = M t k := by
  unfold elT; rw [if_neg (by omega)]

theorem elim_c (c k : Nat) (M : Nat → Nat → Nat) : elimM c M c k = M c k := by simp [elimM]

theorem elT_c (c t s k : Nat) (M : Nat → Nat → Nat) : elT c t s M c k = M c k := by
  unfold elT; split
  · exact elim_c c k M
  · rfl

theorem elT_succ (c t s : Nat) (M : Nat → Nat → Nat) : setM t s (elimM c M t s) (elT c t s M) = elT c t (s + 1) M := by
  funext r k
  unfold setM elT
  by_cases h1 : r = t ∧ k = s
  · rw [if_pos h1, if_pos (by omega), h1.1, h1.2]
  · rw [if_neg h1]
    by_cases h2 : r < t ∨ (r = t ∧ k < s)
    · rw [if_pos h2, if_pos (by omega)]
    · rw [if_neg h2, if_neg (by omega)]

theorem elT_row (c t n r k : Nat) (M : Nat → Nat → Nat) (hk : k < n) : elT c t n M r k = elT c (t + 1) 0 M r k := by
  unfold elT
  by_cases h : r < t + 1
  · rw [if_pos (by omega), if_pos (by omega)]
  · rw [if_neg (by omega), if_neg (by omega)]

theorem elT_skip (c : Nat) (M : Nat → Nat → Nat) : elT c c 0 M = elT c (c + 1) 0 M := by
  funext r k
  by_cases h : r = c
  · subst h; rw [elT_c, elT_c]
  · unfold elT
    by_cases h2 : r < c
    · rw [if_pos (by omega), if_pos (by omega)]
    · rw [if_neg (by omega), if_neg (by omega)]

theorem elT_all (c n r k : Nat) (M : Nat → Nat → Nat) (hr : r < n) : elT c n 0 M r k = elimM c M r k := by
  unfold elT; rw [if_pos (by omega)]

theorem elim_at (c t k : Nat) (M : Nat → Nat → Nat) (h : t ≠ c) : M t k ^^^ gmul (M t c) (M c k) = elimM c M t k := by
  unfold elimM; rw [if_neg h]

theorem refMul_flip (a b : Nat) (ha : a < 256) (hb : b < 256) (w : World) :
    Calls Try.prog 22 #[.int .u8 (a : Int), .int .u8 (b : Int)] w fun e w' => e = .returned (.int .u8 ((gmul a b : Nat) : Int)) ∧ w' = w :=
  (refMul_any a b ha hb w).mono (fun _ _ h => ⟨h.1, h.2.symm⟩)

set_option maxRecDepth 100000 in
set_option maxHeartbeats 4000000 in
theorem refSolve_any (ao bo : Option Addr) (ca cb : Nat) (at_ vals : List Nat) (ha : Byt at_) (hd : at_.Nodup) (hv : Byt vals) (hl : vals.length = at_.length) (hn : at_.length ≤ 300) (w : World) (hr : Reads w ao at_) (hs : Reads w bo vals) :
    Calls Try.prog 24 #[.slice ao at_.length ca, .slice bo at_.length cb] w fun e w' => ∃ v, e = .returned v ∧ w'.ownsRow 0 5 1 v at_.length ((poly at_ vals).map U) ∧ (∀ j, v.ownBlock = some j → w.heap.size ≤ j) ∧ Below w.heap.size w w' := by
  obtain ⟨i8, hi8, hz80, hz81, hz82⟩ := info_parts info_u8
  obtain ⟨iR, hiR, hzR0, hzR1, hzR2⟩ := info_parts info_row
  have HA := Hid.intro ha
  have HD := Hid.intro hd
  have HV := Hid.intro hv
  have HL := Hid.intro hl
  have HR := Hid.intro hr
  have HS := Hid.intro hs
  clear ha hd hv hl hr hs
  obtain ⟨n, hnn⟩ : ∃ n, n = at_.length := ⟨_, rfl⟩
  have HN := Hid.intro hnn
  rw [← hnn] at hn ⊢
  clear hnn
  go_enter Try.func24, Try.ntmps24
  go_wp2_with fail
  go_loopw [6, 7] (fun m i wr => ∃ (j : Nat) (g cp : Nat → Nat), j ≤ n ∧ i = .int .i64 j ∧ Mat w.heap.size wr m j (n + 1) g cp (vand at_ vals) ∧ Below w.heap.size w wr) (fun _ i _ => n - (intOf i).toNat)
  case atStart => exact ⟨0, fun _ => 0, fun _ => 0, by omega, rfl, Mat.start _ _ _ _ _ _, Below.refl _ _⟩
  case round =>
    rename World => wo
    obtain ⟨j, g, cp, hj, rfl, MJ, BJ⟩ := hrel
    have MJH := Hid.intro MJ
    clear MJ
    by_cases hlt : j < n
    · have BJH := Hid.intro BJ
      clear BJ
      have hx := getD_byt HA.out j
      have hy := getD_byt HV.out j
      have ROWH := Hid.intro (vand_row at_ vals j)
      obtain ⟨ab, ao', e, hac⟩ := reads_at HR.out (by rw [← HN.out]; omega)
      subst e
      obtain ⟨bb, bo', e, hbc⟩ := reads_at HS.out (by rw [HL.out, ← HN.out]; omega)
      subst e
      have ca0 : w.cell? ⟨ab, ao' + j, none⟩ = some (U (at_.getD j 0)) := by
        rw [← List.getElem_eq_getD (h := by rw [← HN.out]; exact hlt) 0]; exact hac j (by rw [← HN.out]; exact hlt)
      have cb0 : w.cell? ⟨bb, bo' + j, none⟩ = some (U (vals.getD j 0)) := by
        rw [← List.getElem_eq_getD (h := by rw [HL.out, ← HN.out]; exact hlt) 0]; exact hbc j (by rw [HL.out, ← HN.out]; exact hlt)
      have CA := Hid.intro ca0
      have CB := Hid.intro cb0
      have i0 : (0 : Int) ≤ (j : Int) := by omega
      have i1 : (j : Int) < (n : Int) := by omega
      generalize at_.getD j 0 = x at hx CA ROWH
      generalize vals.getD j 0 = y at hy CB ROWH
      clear hac hbc ca0 cb0
      go_wp2_with fail
      go_loopw [8, 9] (fun v k ws => ∃ t : Nat, t ≤ n ∧ k = .int .i64 t ∧ ws.ownsRow 0 5 1 v t ((powL x t).map U) ∧ (∀ q, v.ownBlock = some q → wo.heap.size ≤ q) ∧ Below wo.heap.size wo ws) (fun _ k _ => n - (intOf k).toNat)
      case atStart => exact ⟨0, by omega, rfl, World.ownsRow_nil _ _ _ _, nil_own _, Below.refl _ _⟩
      case round =>
        obtain ⟨t, ht, rfl, RT, NT, BT⟩ := hrel
        have RTH := Hid.intro RT
        have NTH := Hid.intro NT
        clear RT NT
        by_cases htl : t < n
        · have c1 : wr.cell? ⟨ab, ao' + j, none⟩ = some (U x) := (BT.cell (Nat.lt_of_lt_of_le (cell_lt CA.out) BJH.out.size)).trans ((BJH.out.cell (cell_lt CA.out)).trans CA.out)
          have hp := gpow_lt hx t
          have HP := Hid.intro (fun w => refPow_nat x t hx (by omega) w)
          have TS := Hid.intro (powL_succ x t)
          generalize gpow x t = P at hp HP TS
          have R6H := Hid.intro (RTH.out.alloc (.cells #[U P] 5))
          have i2 : (t : Int) < (n : Int) := by omega
          go_wp2_with fail
          refine (HP.out _).mono ?_
          rintro e1 w1 ⟨rfl, rfl⟩
          clear HP
          go_wp2_with (at_builtin; refine wpList_append_lies _ rfl _ _ 24 rfl 0 5 i8 (.int .u8 0) 1 1 Try.underlying24 hi8 hz80 hz81 hz82 rfl (by decide) u8 _ _ rfl R6H.out ⟨wr.heap.size, 0, none⟩ 1 1 [U P] rfl rfl (World.news_of_block (cs := #[U P]) (t := 5) (fr := (0, 0)) (heap_alloc_new wr _)) (by simp [Value.oneCell', U]) (by decide) (by unfold maxLen; omega) (by omega) (Nat.zero_le _) (wr.heap.size + 1) (by simp) ?_)
          intro g7 cp7 w7 hown hgrow hat hgl
          have C7 : Chg (fun q => u8.ownBlock = some q) wr w7 := ((Chg.refl _ _).alloc _).grown hgrow (fun q hq _ => hq)
          have B7 := BT.trans (C7.below BT.size (fun q hq => NTH.out q hq))
          have N7 : ∀ q, (Value.slice (some ⟨g7, 0, none⟩) (t + 1) cp7).ownBlock = some q → wo.heap.size ≤ q := by
            intro q hq
            have e : g7 = q := by simpa [Value.ownBlock] using hq
            subst e
            rcases hat with hat | hat
            · exact NTH.out g7 hat
            · have := BT.size; omega
          have R7 : w7.ownsRow 0 5 1 (.slice (some ⟨g7, 0, none⟩) (t + 1) cp7) (t + 1) ((powL x (t + 1)).map U) := by
            rw [TS.out, List.map_append]; exact hown
          have R7H := Hid.intro R7
          have N7H := Hid.intro N7
          clear hown hgrow hat R7 N7 C7 BT R6H NTH RTH
          go_wp2
          go_roundw
          case rel => exact ⟨t + 1, by omega, by go_num, R7H.out, N7H.out, B7⟩
          case measure => simp [intOf]; omega
        · have hte : t = n := by omega
          subst hte
          have c1 : wr.cell? ⟨bb, bo' + j, none⟩ = some (U y) := (BT.cell (Nat.lt_of_lt_of_le (cell_lt CB.out) BJH.out.size)).trans ((BJH.out.cell (cell_lt CB.out)).trans CB.out)
          have R6H := Hid.intro (RTH.out.alloc (.cells #[U y] 5))
          have i2 : ¬ (t : Int) < (t : Int) := by omega
          go_wp2_with (at_builtin; refine wpList_append_lies _ rfl _ _ 24 rfl 0 5 i8 (.int .u8 0) 1 1 Try.underlying24 hi8 hz80 hz81 hz82 rfl (by decide) u8 _ _ rfl R6H.out ⟨wr.heap.size, 0, none⟩ 1 1 [U y] rfl rfl (World.news_of_block (cs := #[U y]) (t := 5) (fr := (0, 0)) (heap_alloc_new wr _)) (by simp [Value.oneCell', U]) (by decide) (by unfold maxLen; omega) (by omega) (Nat.zero_le _) (wr.heap.size + 1) (by simp) ?_)
          intro g7 cp7 w7 hown hgrow hat hgl
          have C7 : Chg (fun q => u8.ownBlock = some q) wr w7 := ((Chg.refl _ _).alloc _).grown hgrow (fun q hq _ => hq)
          have B7 := BT.trans (C7.below BT.size (fun q hq => NTH.out q hq))
          have N7 : wo.heap.size ≤ g7 := by
            rcases hat with hat | hat
            · exact NTH.out g7 hat
            · have := BT.size; omega
          have R7 : w7.ownsRow 0 5 1 (.slice (some ⟨g7, 0, none⟩) (t + 1) cp7) (t + 1) ((rowL (t + 1) (vand at_ vals) j).map U) := by
            rw [HN.out, ROWH.out, List.map_append, ← HN.out]; exact hown
          have M7 := MJH.out.kept (below_chg B7) (fun _ _ => id) (fun _ _ => id)
          have AP : ∀ r, r < j → g r ≠ g7 := fun r hr e => by
            have : g r < wo.heap.size := ownsRow_lt (MJH.out.row r hr) rfl
            omega
          have B7w : Below w.heap.size w w7 := BJH.out.trans ((below_chg B7).below BJH.out.size (fun _ f => f.elim))
          have R8H := Hid.intro (M7.top.alloc (.cells #[.slice (some ⟨g7, 0, none⟩) (t + 1) cp7] 24))
          have N7w : w.heap.size ≤ g7 := Nat.le_trans BJH.out.size N7
          have M7H := Hid.intro M7
          have R7H := Hid.intro R7
          have APH := Hid.intro AP
          clear hown hgrow hat R7 M7 AP C7 BT B7 R6H NTH RTH c1 CA CB BJH
          go_wp2_with (at_builtin; refine wpList_append_lies _ rfl _ _ 26 rfl 0 24 iR (.slice none 0 0) 1 24 Try.underlying26 hiR hzR0 hzR1 hzR2 rfl (by decide) u6 j _ rfl R8H.out ⟨w7.heap.size, 0, none⟩ 1 1 [.slice (some ⟨g7, 0, none⟩) (t + 1) cp7] rfl rfl (World.news_of_block (cs := #[.slice (some ⟨g7, 0, none⟩) (t + 1) cp7]) (t := 24) (fr := (0, 0)) (heap_alloc_new w7 _)) (by simp [Value.oneCell']) (by decide) (by unfold maxLen; omega) (by omega) (Nat.zero_le _) (w7.heap.size + 1) (by simp) ?_)
          intro g9 cp9 w9 hown9 hgrow9 hat9 hgl9
          have C9 : Chg (fun q => u6.ownBlock = some q) w7 w9 := ((Chg.refl _ _).alloc _).grown hgrow9 (fun q hq _ => hq)
          have M9 := M7H.out.push R7H.out N7w APH.out hown9 C9 (fun k hk => by
            have e : g9 = k := by simpa [Value.ownBlock] using hk
            subst e
            rcases hat9 with hat9 | hat9
            · exact M7H.out.newTop _ hat9
            · have := B7w.size; omega)
          have B9 := B7w.trans (C9.below B7w.size (fun q hq => M7H.out.newTop q hq))
          have M9H := Hid.intro M9
          clear hown9 hgrow9 hat9 M9 C9 M7H R7H APH R8H MJH
          go_wp2
          go_roundw
          case rel => exact ⟨j + 1, _, _, by omega, by go_num, M9H.out, B9⟩
          case measure => simp [intOf]; omega
    · have hje : n = j := by omega
      subst hje
      have i1 : ¬ (n : Int) < (n : Int) := by omega
      have ESH := Hid.intro (Elim.start HA.out HV.out)
      go_wp2_with fail
      go_loopw [10] (fun c ws => ∃ (k : Nat) (g cp : Nat → Nat) (M : Nat → Nat → Nat), k ≤ n ∧ c = .int .i64 k ∧ Mat w.heap.size ws u6 n (n + 1) g cp M ∧ Elim at_ vals M k ∧ Below w.heap.size w ws) (fun c _ => n - (intOf c).toNat)
      case atStart => exact ⟨0, g, cp, _, by omega, rfl, MJH.out, ESH.out, BJ⟩
      case round =>
        rename World => wc
        clear ESH MJH BJ
        obtain ⟨c, g1, cp1, M, hc, rfl, MC, EC, BC⟩ := hrel
        by_cases hcn : c < n
        · obtain ⟨mb, mc, e⟩ := MC.form (by omega)
          subst e
          have MCH := Hid.intro MC
          have ECH := Hid.intro EC
          have BCH := Hid.intro BC
          clear MC EC BC
          have c0 : (0 : Int) ≤ (c : Int) := by omega
          have c1 : (c : Int) < (n : Int) := by omega
          have c2 : (c : Int) < (n : Int) + 1 := by omega
          go_wp2_with fail
          go_loop [11] (fun p => ∃ q : Nat, c ≤ q ∧ q ≤ n ∧ p = .int .i64 q ∧ ∀ s, c ≤ s → s < q → M s c = 0) (fun p => n - (intOf p).toNat)
          case atStart => exact ⟨c, by omega, by omega, rfl, fun s h1 h2 => absurd h1 (by omega)⟩
          case round =>
            obtain ⟨q, hq1, hq2, rfl, hz⟩ := hrel
            have HZ := Hid.intro hz
            clear hz
            by_cases hqn : q < n
            · have ct := MCH.out.cellTop hqn
              have cr := MCH.out.cellRow hqn (k := c) (by omega)
              have q0 : (0 : Int) ≤ (q : Int) := by omega
              have q1 : (q : Int) < (n : Int) := by omega
              have hb := ECH.out.byt q c
              by_cases h0 : M q c = 0
              · rw [h0] at cr
                have H0 := Hid.intro h0
                clear h0 hb
                go_wp2
                go_round
                case rel => exact ⟨q + 1, by omega, by omega, by go_num, fun s h1 h2 => by
                  by_cases e : s = q
                  · rw [e]; exact H0.out
                  · exact HZ.out s h1 (by omega)⟩
                case measure => simp [intOf]; omega
              · have hz1 : (((M q c : Nat) : Int) == 0) = false := by simp; omega
                have hpc : ((q : Int) == (n : Int)) = false := by simp; omega
                have H0 := Hid.intro h0
                clear h0 HZ
                go_wp2_with fail
                have ctc := MCH.out.cellTop hcn
                have fc := MCH.out.frozenTop c
                have fq := MCH.out.frozenTop q
                obtain ⟨x2, cs2⟩ : ∃ x2, (wc.setCell ⟨mb, c, none⟩ (.slice (some ⟨g1 q, 0, none⟩) (n + 1) (cp1 q))).cell? ⟨mb, q, none⟩ = some x2 := by
                  by_cases e : c = q
                  · subst e; exact ⟨_, World.cell?_setCell_same _ _ _ ctc⟩
                  · exact ⟨_, (World.cell?_setCell_other _ _ _ _ (fun h => e (congrArg Addr.off h))).trans ct⟩
                have MS := (MCH.out.swap hcn hqn).drew
                have BS : Below w.heap.size w ((wc.setCell ⟨mb, c, none⟩ (.slice (some ⟨g1 q, 0, none⟩) (n + 1) (cp1 q))).setCell ⟨mb, q, none⟩ (.slice (some ⟨g1 c, 0, none⟩) (n + 1) (cp1 c))).drew :=
                  ((BCH.out.setCell (p := ⟨mb, c, none⟩) (MCH.out.newTop mb rfl) _).setCell (p := ⟨mb, q, none⟩) (MCH.out.newTop mb rfl) _).drew
                obtain ⟨M1, hM1⟩ : ∃ M1, M1 = swapM c q M := ⟨_, rfl⟩
                have hcc : M1 c c = M q c := by rw [hM1]; simp [swapM]
                have hby : ∀ r k, M1 r k < 256 := fun r k => by rw [hM1]; exact ECH.out.byt.swap c q r k
                have HSTEP := Hid.intro (show stepM c q M = elimM c (scaleM c (ginv (M1 c c)) M1) by rw [hcc, hM1]; rfl)
                have HNEXT := Hid.intro (ECH.out.step hq1 (by rw [← HN.out]; exact hqn) H0.out)
                rw [← hM1] at MS
                have MSH := Hid.intro MS
                have BSH := Hid.intro BS
                have HBY := Hid.intro hby
                clear MS BS hM1 hcc hby
                go_region
                generalize ((wc.setCell ⟨mb, c, none⟩ (.slice (some ⟨g1 q, 0, none⟩) (n + 1) (cp1 q))).setCell ⟨mb, q, none⟩ (.slice (some ⟨g1 c, 0, none⟩) (n + 1) (cp1 c))).drew = w2 at MSH BSH ⊢
                generalize sw c q g1 = g2 at MSH
                generalize sw c q cp1 = cp2 at MSH
                clear ct cr hb hz1 ctc fc fq cs2 MCH ECH BCH H0
                have ct := MSH.out.cellTop hcn
                have cr := MSH.out.cellRow hcn (k := c) (by omega)
                have hb := HBY.out c c
                have HI := Hid.intro (fun w => refInv_any (M1 c c) hb w)
                have hv := ginv_lt (M1 c c)
                generalize ginv (M1 c c) = v at HI hv HSTEP
                go_wp2_with fail
                refine (HI.out _).mono ?_
                rintro e1 w1 ⟨rfl, rfl⟩
                clear HI ct cr hb
                go_wp2_with fail
                go_loopw [13] (fun k ws => ∃ t : Nat, t ≤ n + 1 ∧ k = .int .i64 t ∧ Mat w.heap.size ws (.slice (some ⟨mb, 0, none⟩) n mc) n (n + 1) g2 cp2 (scT c v t M1) ∧ Below w.heap.size w ws) (fun k _ => n + 1 - (intOf k).toNat)
                case atStart => exact ⟨0, by omega, rfl, by rw [scT_zero]; exact MSH.out, BSH.out⟩
                case round =>
                  rename World => wk
                  clear MSH BSH
                  obtain ⟨t, ht, rfl, MK, BK⟩ := hrel
                  by_cases htl : t < n + 1
                  · have ct := MK.cellTop hcn
                    have cr := MK.cellRow hcn htl
                    rw [scT_at] at cr
                    have fr := MK.frozenRow hcn t
                    have hb := HBY.out c t
                    have HM := Hid.intro (fun w => refMul_flip (M1 c t) v hb hv w)
                    have MN := (MK.set (r := c) (k := t) (v := gmul (M1 c t) v) hcn).drew
                    rw [scT_succ] at MN
                    have BN := (BK.setCell (p := ⟨g2 c, t, none⟩) (MK.newRow c hcn) (U (gmul (M1 c t) v))).drew
                    have hG := gmul_lt hb v
                    generalize gmul (M1 c t) v = G at HM MN BN hG
                    generalize M1 c t = b at cr HM hb
                    have MNH := Hid.intro MN
                    have BNH := Hid.intro BN
                    have t0 : (0 : Int) ≤ (t : Int) := by omega
                    have t1 : (t : Int) < (n : Int) + 1 := by omega
                    have t2 : (t : Int) ≤ (n : Int) := by omega
                    have t3 : t ≤ n := by omega
                    clear MK BK MN BN
                    go_wp2_with fail
                    refine wp_region_still_tail 15 (by kernel_rfl) (by kernel_rfl) ?_
                    simp only [List.take_succ_cons, List.take_zero, List.drop_succ_cons, List.drop_zero]
                    change wpStill _ _ wk.drew _ _ _
                    iterate 13 still_step
                    still_call (HM.out _)
                    still_step
                    refine wpStill_nil ?_
                    go_wp2
                    go_roundw
                    case rel => exact ⟨t + 1, by omega, by go_num, MNH.out, BNH.out⟩
                    case measure => simp [intOf]; omega
                  · have hte : t = n + 1 := by omega
                    subst hte
                    have M2 := MK.congr (N := scaleM c v M1) (fun r k _ hk => scT_all c v (n + 1) r k M1 hk)
                    obtain ⟨N, hN⟩ : ∃ N, N = scaleM c v M1 := ⟨_, rfl⟩
                    have hby : ∀ r k, N r k < 256 := fun r k => by rw [hN]; exact Bm.scale (fun r k => HBY.out r k) c v r k
                    rw [← hN] at M2
                    have HSTEP2 := Hid.intro (show stepM c q M = elimM c N by rw [hN]; exact HSTEP.out)
                    have HBN := Hid.intro hby
                    have M2H := Hid.intro M2
                    have BKH := Hid.intro BK
                    have t2 : ¬ ((n + 1 : Nat) : Int) ≤ (n : Int) := by omega
                    have t3 : ¬ n + 1 ≤ n := by omega
                    clear M2 BK MK hN hby HSTEP HBY hv
                    go_wp2_with fail
                    go_loopw [14] (fun r ws => ∃ t : Nat, t ≤ n ∧ r = .int .i64 t ∧ Mat w.heap.size ws (.slice (some ⟨mb, 0, none⟩) n mc) n (n + 1) g2 cp2 (elT c t 0 N) ∧ Below w.heap.size w ws) (fun r _ => n - (intOf r).toNat)
                    case atStart => exact ⟨0, by omega, rfl, by rw [elT_zero]; exact M2H.out, BKH.out⟩
                    case round =>
                      rename World => wx
                      clear M2H BKH
                      obtain ⟨t, ht, rfl, MX, BX⟩ := hrel
                      have MXH := Hid.intro MX
                      have BXH := Hid.intro BX
                      clear MX BX
                      by_cases htl : t < n
                      · have ct := MXH.out.cellTop htl
                        have cr := MXH.out.cellRow htl (k := c) (by omega)
                        rw [elT_at c t 0 c N (by omega)] at cr
                        have hf := HBN.out t c
                        have HF := Hid.intro (show N t c = N t c from rfl)
                        have t0 : (0 : Int) ≤ (t : Int) := by omega
                        have t1 : (t : Int) < (n : Int) := by omega
                        by_cases htc : t = c
                        · subst htc
                          have n0 : (0 : Int) ≤ (n : Int) := by omega
                          have MS := MXH.out
                          rw [elT_skip] at MS
                          have MSH := Hid.intro MS
                          clear MS MXH
                          go_wp2_with fail
                          go_loop [16] (fun k => k = .int .i64 0) (fun _ => 0)
                          case atStart => rfl
                          case round =>
                            subst hrel
                            clear ct cr
                            go_wp2
                            go_roundw
                            case rel => exact ⟨t + 1, by omega, by go_num, MSH.out, BXH.out⟩
                            case measure => simp [intOf]; omega
                        · have HE := Hid.intro (fun s => elim_at c t s N htc)
                          obtain ⟨f, hfe⟩ : ∃ f, f = N t c := ⟨_, rfl⟩
                          rw [← hfe] at HE cr hf
                          have tc1 : ((t : Int) == (c : Int)) = false := by simp; omega
                          have tc2 : ¬ (t : Int) = (c : Int) := by omega
                          have tc3 : ¬ (c : Int) = (t : Int) := by omega
                          have tc4 : ¬ c = t := by omega
                          clear hfe HF
                          go_wp2_with fail
                          go_loopw [16] (fun k ws => ∃ s : Nat, s ≤ n + 1 ∧ k = .int .i64 s ∧ Mat w.heap.size ws (.slice (some ⟨mb, 0, none⟩) n mc) n (n + 1) g2 cp2 (elT c t s N) ∧ Below w.heap.size w ws) (fun k _ => n + 1 - (intOf k).toNat)
                          case atStart => exact ⟨0, by omega, rfl, MXH.out, BXH.out⟩
                          case round =>
                            rename World => wy
                            clear MXH BXH ct cr
                            obtain ⟨s, hs, rfl, MY, BY⟩ := hrel
                            by_cases hsl : s < n + 1
                            · have ct := MY.cellTop htl
                              have cr := MY.cellRow htl hsl
                              rw [elT_at c t s s N (Nat.le_refl _)] at cr
                              have ctc := MY.cellTop hcn
                              have crc := MY.cellRow hcn hsl
                              rw [elT_c] at crc
                              have fr := MY.frozenRow htl s
                              have hb := HBN.out t s
                              have hd := HBN.out c s
                              have HM := Hid.intro (fun w => refMul_flip f (N c s) hf hd w)
                              have MN := (MY.set (r := t) (k := s) (v := elimM c N t s) htl).drew
                              rw [elT_succ] at MN
                              have BN := (BY.setCell (p := ⟨g2 t, s, none⟩) (MY.newRow t htl) (U (elimM c N t s))).drew
                              have hG := gmul_lt hf (N c s)
                              have hx8 := u8_xor_nat (N t s) (gmul f (N c s)) hb hG
                              rw [HE.out s] at hx8
                              generalize elimM c N t s = E at MN BN hx8
                              generalize gmul f (N c s) = G at HM hG hx8
                              generalize N t s = b at cr hb hx8
                              generalize N c s = d at crc hd HM
                              have MNH := Hid.intro MN
                              have BNH := Hid.intro BN
                              have s0 : (0 : Int) ≤ (s : Int) := by omega
                              have s1 : (s : Int) < (n : Int) + 1 := by omega
                              have s2 : (s : Int) ≤ (n : Int) := by omega
                              have s3 : s ≤ n := by omega
                              clear MY BY MN BN
                              go_wp2_with fail
                              refine wp_region_still_tail 23 (by kernel_rfl) (by kernel_rfl) ?_
                              simp only [List.take_succ_cons, List.take_zero, List.drop_succ_cons, List.drop_zero]
                              change wpStill _ _ wy.drew _ _ _
                              iterate 20 still_step
                              still_call (HM.out _)
                              iterate 2 still_step
                              refine wpStill_nil ?_
                              go_wp2
                              go_roundw
                              case rel => exact ⟨s + 1, by omega, by go_num, MNH.out, BNH.out⟩
                              case measure => simp [intOf]; omega
                            · have hse : s = n + 1 := by omega
                              subst hse
                              have MN := MY.congr (N := elT c (t + 1) 0 N) (fun r k _ hk => elT_row c t (n + 1) r k N hk)
                              have MNH := Hid.intro MN
                              have BNH := Hid.intro BY
                              have s2 : ¬ ((n + 1 : Nat) : Int) ≤ (n : Int) := by omega
                              have s3 : ¬ n + 1 ≤ n := by omega
                              clear MY BY MN
                              go_wp2
                              go_roundw
                              case rel => exact ⟨t + 1, by omega, by go_num, MNH.out, BNH.out⟩
                              case measure => simp [intOf]; omega
                      · have hte : n = t := by omega
                        subst hte
                        have MN := MXH.out.congr (N := stepM c q M) (fun r k hr _ => by rw [HSTEP2.out]; exact elT_all c n r k N hr)
                        have MNH := Hid.intro MN
                        clear MN MXH
                        go_wp2
                        go_roundw
                        case rel => exact ⟨c + 1, g2, cp2, _, by omega, by go_num, MNH.out, HNEXT.out, BXH.out⟩
                        case measure => simp [intOf]; omega
            · obtain ⟨p, h1, h2, h3⟩ := ECH.out.pivot HA.out HD.out (by rw [← HN.out]; exact hcn)
              exact absurd (HZ.out p h1 (by rw [← HN.out] at h2; omega)) h3
        · have hce : n = c := by omega
          subst hce
          have EN := EC
          rw [HN.out] at EN
          have DONE := EN.done HA.out HD.out HV.out HL.out
          rw [← HN.out] at DONE
          have DH := Hid.intro DONE
          have HBM := Hid.intro EC.byt
          have MCH := Hid.intro MC
          have BCH := Hid.intro BC
          clear EN EC MC BC DONE
          go_wp2_with fail
          go_loopw [17, 18] (fun v k ws => ∃ t : Nat, t ≤ n ∧ k = .int .i64 t ∧ ws.ownsRow 0 5 1 v t (((List.range t).map (fun r => M r n)).map U) ∧ (∀ q, v.ownBlock = some q → wc.heap.size ≤ q) ∧ Below wc.heap.size wc ws) (fun _ k _ => n - (intOf k).toNat)
          case atStart => exact ⟨0, by omega, rfl, World.ownsRow_nil _ _ _ _, nil_own _, Below.refl _ _⟩
          case round =>
            obtain ⟨t, ht, rfl, RT, NT, BT⟩ := hrel
            have RTH := Hid.intro RT
            have NTH := Hid.intro NT
            clear RT NT
            by_cases htl : t < n
            · have MT := MCH.out.kept (below_chg BT) (fun _ _ => id) (fun _ _ => id)
              obtain ⟨mb, mc, e⟩ := MT.form (by omega)
              subst e
              have ct := MT.cellTop htl
              have cr := MT.cellRow htl (k := n) (by omega)
              have hb := HBM.out t n
              have TS := Hid.intro (show (List.range (t + 1)).map (fun r => M r n) = (List.range t).map (fun r => M r n) ++ [M t n] by simp [List.range_succ])
              generalize M t n = P at cr hb TS
              have R6H := Hid.intro (RTH.out.alloc (.cells #[U P] 5))
              have t0 : (0 : Int) ≤ (t : Int) := by omega
              have t1 : (t : Int) < (n : Int) := by omega
              have t2 : (n : Int) < (n : Int) + 1 := by omega
              have t3 : (0 : Int) ≤ (n : Int) := by omega
              clear MT
              go_wp2_with (at_builtin; refine wpList_append_lies _ rfl _ _ 24 rfl 0 5 i8 (.int .u8 0) 1 1 Try.underlying24 hi8 hz80 hz81 hz82 rfl (by decide) u17 _ _ rfl R6H.out ⟨wr.heap.size, 0, none⟩ 1 1 [U P] rfl rfl (World.news_of_block (cs := #[U P]) (t := 5) (fr := (0, 0)) (heap_alloc_new wr _)) (by simp [Value.oneCell', U]) (by decide) (by unfold maxLen; omega) (by omega) (Nat.zero_le _) (wr.heap.size + 1) (by simp) ?_)
              intro g7 cp7 w7 hown hgrow hat hgl
              have C7 : Chg (fun q => u17.ownBlock = some q) wr w7 := ((Chg.refl _ _).alloc _).grown hgrow (fun q hq _ => hq)
              have B7 := BT.trans (C7.below BT.size (fun q hq => NTH.out q hq))
              have N7 : ∀ q, (Value.slice (some ⟨g7, 0, none⟩) (t + 1) cp7).ownBlock = some q → wc.heap.size ≤ q := by
                intro q hq
                have e : g7 = q := by simpa [Value.ownBlock] using hq
                subst e
                rcases hat with hat | hat
                · exact NTH.out g7 hat
                · have := BT.size; omega
              have R7 : w7.ownsRow 0 5 1 (.slice (some ⟨g7, 0, none⟩) (t + 1) cp7) (t + 1) (((List.range (t + 1)).map (fun r => M r n)).map U) := by
                rw [TS.out, List.map_append, List.map_map]; exact hown
              have R7H := Hid.intro R7
              have N7H := Hid.intro N7
              clear hown hgrow hat R7 N7 C7 BT R6H NTH RTH ct cr
              go_wp2
              go_roundw
              case rel => exact ⟨t + 1, by omega, by go_num, R7H.out, N7H.out, B7⟩
              case measure => simp [intOf]; omega
            · have hte : n = t := by omega
              subst hte
              have RL := RTH.out
              rw [DH.out] at RL
              have RLH := Hid.intro RL
              have BL : Below w.heap.size w wr := BCH.out.trans ((below_chg BT).below BCH.out.size (fun _ f => f.elim))
              clear RL RTH BT
              go_wp2
              go_ret
              exact ⟨_, rfl, RLH.out, fun q hq => Nat.le_trans BCH.out.size (NTH.out q hq), BL⟩

end Go.Proofs.Ytebjkbhidpdpfaa
