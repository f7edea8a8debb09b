/- The contract of the document's own Decode of layer 5: where the code may be, and there are N rows. -/
import Derived.Test.YtebjkbhidpdpfaaRefSolve
import Derived.Test.YtebjkbhidpdpfaaRefValue
import Derived.Test.YtebjkbhidpdpfaaRefMay
import Derived.Test.YtebjkbhidpdpfaaRsLst
import Derived.Test.YtebjkbhidpdpfaaRsDecP
import Derived.Deep.RegionLaw
namespace Go.Proofs.Ytebjkbhidpdpfaa
open Go.RowKit
open Bt

set_option maxRecDepth 100000 in
set_option maxHeartbeats 8000000 in
theorem refDecode_main (K N S : Nat) (hmay : mayC K N S = true) (ao : Option Addr) (cap : Nat) (L : List (List Nat)) (hB : BytL L) (hl : L.length = N) (w : World) (hr : ReadsL w ao L) :
    Calls Try.prog 20 #[Cd K N S, .slice ao L.length cap] w fun e w' => ∃ v, e = .returned (.tuple #[v, .int .i64 (decE K N S L)]) ∧ w'.ownsRow 0 5 1 v (decA K N S L).length ((decA K N S L).map U) ∧ (∀ j, v.ownBlock = some j → w.heap.size ≤ j) ∧ Below w.heap.size w w' := by
  obtain ⟨i8, hi8, hz80, hz81, hz82⟩ := info_parts info_u8
  obtain ⟨h1, h2, h3, h4, h5, h6⟩ := mayC_true hmay
  have HM := Hid.intro (fun w => refMay_any K N S w)
  rw [hmay] at HM
  have HMAY := Hid.intro hmay
  have HLN := Hid.intro (show (L.length : Int) = (N : Int) by rw [hl])
  have hL0 : 0 < L.length := by omega
  obtain ⟨lb, lo, eao, hrow⟩ := hr hL0
  subst eao
  have HROW := Hid.intro hrow
  have HBY := Hid.intro hB
  have HLE := Hid.intro hl
  have hKS : K * S ≤ 144 := by
    calc K * S ≤ 6 * S := Nat.mul_le_mul_right _ (by omega)
      _ ≤ 6 * 24 := Nat.mul_le_mul_left _ (by omega)
  rw [hl]
  obtain ⟨E, hE⟩ : ∃ E, E = decE K N S L := ⟨_, rfl⟩
  obtain ⟨T, hT⟩ : ∃ T, T = decA K N S L := ⟨_, rfl⟩
  rw [← hE, ← hT]
  have HE := Hid.intro hE
  have HT := Hid.intro hT
  clear hr hB hl hL0 hrow hmay hE hT
  go_enter Try.func20, Try.ntmps20
  go_wp2_with fail
  refine (HM.out _).mono ?_
  rintro e1 w1 ⟨rfl, B1⟩
  clear HM
  have b1 : w1.heap[w.heap.size]? = some (.cells #[.int .i64 (K : Int), .int .i64 (N : Int), .int .i64 (S : Int)] 23 (0, 0)) := by
    rw [B1.block _ (by simp)]; exact heap_alloc_new w _
  have BH := Hid.intro b1
  have B1w : Below w.heap.size w w1 := ((Below.refl _ _).alloc (Nat.le_refl _) _).trans ((below_chg B1).below (by simp) (fun _ f => f.elim))
  have hw1 : w.heap.size < w1.heap.size := lt_of_heap b1
  have HW1 := Hid.intro hw1
  have B1H := Hid.intro B1w
  have c1 : w1.cell? ⟨w.heap.size, 1, none⟩ = some (.int .i64 (N : Int)) := by rw [cell_of_row w1 _ 1 _ _ _ b1]; rfl
  have nn : ((N : Int) != (N : Int)) = false := by simp
  clear b1 B1 B1w hw1
  go_wp2_with fail
  go_loopw [6, 7] (fun va i ws => ∃ t : Nat, t ≤ N ∧ i = .int .i64 t ∧ ws.ownsRow 0 5 1 va (thT K L t).length ((thT K L t).map U) ∧ (∀ k, va.ownBlock = some k → w1.heap.size ≤ k) ∧ (∀ r, r < t → (L.getD r []).length = 0 ∨ ((L.getD r []).length : Int) = (S : Int)) ∧ Below w1.heap.size w1 ws) (fun _ i _ => N - (intOf i).toNat)
  case atStart => exact ⟨0, by omega, rfl, by rw [thT_zero]; exact World.ownsRow_nil _ _ _ _, nil_own _, fun r hr => absurd hr (by omega), Below.refl _ _⟩
  case round =>
    clear c1
    obtain ⟨t, ht, rfl, RA, NA, OK, BT⟩ := hrel
    have cb := (BT.block _ HW1.out).trans BH.out
    have c0 : wr.cell? ⟨w.heap.size, 0, none⟩ = some (.int .i64 (K : Int)) := by rw [cell_of_row wr _ 0 _ _ _ cb]; rfl
    have c2 : wr.cell? ⟨w.heap.size, 2, none⟩ = some (.int .i64 (S : Int)) := by rw [cell_of_row wr _ 2 _ _ _ cb]; rfl
    have RAH := Hid.intro RA
    have NAH := Hid.intro NA
    have OKH := Hid.intro OK
    have BTH := Hid.intro BT
    have BW : Below w.heap.size w wr := B1H.out.trans ((below_chg BT).below B1H.out.size (fun _ f => f.elim))
    have BWH := Hid.intro BW
    obtain ⟨av, cv, ev, _⟩ := ownsRow_form RA
    subst ev
    clear RA NA OK BT BW cb
    by_cases htl : t < N
    · have t0 : (0 : Int) ≤ (t : Int) := by omega
      have t1 : (t : Int) < (N : Int) := by omega
      obtain ⟨ra, rc, hcell, _, _⟩ := HROW.out t (by rw [HLE.out]; exact htl)
      have ct : wr.cell? ⟨lb, lo + t, none⟩ = some (.slice ra (L.getD t []).length rc) := (BWH.out.cell (cell_lt hcell)).trans hcell
      obtain ⟨m, hm⟩ : ∃ m, m = (L.getD t []).length := ⟨_, rfl⟩
      rw [← hm] at ct
      have HMM := Hid.intro hm
      clear hcell hm
      by_cases m0 : m = 0
      · subst m0
        have SK := Hid.intro (thT_skip (K := K) HMM.out.symm)
        go_wp2_with fail
        go_quiet (fail)
        go_wp2
        go_roundw
        case rel => exact ⟨t + 1, by omega, by go_num, by rw [SK.out]; exact RAH.out, NAH.out, fun r hr => by
          by_cases e : r = t
          · subst e; exact .inl HMM.out.symm
          · exact OKH.out r (by omega), belowN BTH.out _⟩
        case measure => simp [intOf]; omega
      · have m1 : ((m : Int) != 0) = true := by rw [bne_iff_ne]; omega
        have m2 : decide (0 < m) = true := by simp; omega
        have m3 : decide ((0 : Int) < (m : Int)) = true := by simp; omega
        by_cases ms : m = S
        · have m4 : ((m : Int) != (S : Int)) = false := by rw [ms]; simp
          have OK2 := Hid.intro (show ∀ r, r < t + 1 → (L.getD r []).length = 0 ∨ ((L.getD r []).length : Int) = (S : Int) from fun r hr => by
            by_cases e : r = t
            · subst e; exact .inr (by rw [← HMM.out, ms])
            · exact OKH.out r (by omega))
          have hKle := thT_le K L t
          clear ms
          by_cases hq : (thT K L t).length < K
          · have PU := Hid.intro (thT_push (K := K) (L := L) (t := t) (by rw [← HMM.out]; exact m0) hq)
            have RQ := RAH.out
            clear RAH
            generalize thT K L t = xs at PU RQ hq hKle NAH ⊢
            obtain ⟨q, hq2⟩ : ∃ q, q = xs.length := ⟨_, rfl⟩
            rw [← hq2] at RQ hq hKle NAH ⊢
            have q1 : decide ((q : Int) < (K : Int)) = true := by simp; omega
            have hu8 : (t : Int) % 256 = (t : Int) := by omega
            have HXL := Hid.intro hq2
            have RQH := Hid.intro (show ∀ X : World, X.heap = wr.heap → (X.alloc (.cells #[U t] 5)).ownsRow 0 5 1 (.slice av q cv) q (xs.map U) from fun X hX => (ownsRow_keep RQ (fun k _ => by rw [hX])).alloc _)
            have hkk : (K : Int) ≤ 6 := h2
            clear RQ hq2
            go_wp2_with fail
            go_quiet (fail)
            go_wp2_with (at_builtin; refine wpList_append_lies _ rfl _ _ 24 rfl 0 5 i8 (.int .u8 0) 1 1 Try.underlying24 hi8 hz80 hz81 hz82 rfl (by decide) (.slice av q cv) _ _ rfl (RQH.out _ (by rfl)) ⟨wr.heap.size, 0, none⟩ 1 1 [U t] rfl rfl (World.news_of_block (cs := #[U t]) (t := 5) (fr := (0, 0)) (heap_alloc_new _ _)) (by simp [Value.oneCell', U]) (by decide) (by unfold maxLen; omega) (by omega) (Nat.zero_le _) (wr.heap.size + 1) (by simp) ?_)
            intro g7 cp7 w7 hown hgrow hat hgl
            have C7 : Chg (fun k => (Value.slice av q cv).ownBlock = some k) wr w7 := (((Chg.refl _ wr).drewN nq).alloc _).grown hgrow (fun k hk _ => hk)
            have B7 := BTH.out.trans (C7.below BTH.out.size (fun k hk => NAH.out k hk))
            have N7 : ∀ k, (Value.slice (some ⟨g7, 0, none⟩) (q + 1) cp7).ownBlock = some k → w1.heap.size ≤ k := by
              intro k hk
              have e : g7 = k := by simpa [Value.ownBlock] using hk
              subst e
              rcases hat with hat | hat
              · exact NAH.out g7 hat
              · have := BTH.out.size; omega
            have R7 : w7.ownsRow 0 5 1 (.slice (some ⟨g7, 0, none⟩) (q + 1) cp7) (thT K L (t + 1)).length ((thT K L (t + 1)).map U) := by
              rw [PU.out, List.length_append, List.map_append, ← HXL.out]; exact hown
            have R7H := Hid.intro R7
            have N7H := Hid.intro N7
            have B7H := Hid.intro B7
            clear hown hgrow hat R7 N7 C7 B7 RQH NAH c0 c2 ct
            go_wp2
            go_roundw
            case rel => exact ⟨t + 1, by omega, by go_num, R7H.out, N7H.out, OK2.out, B7H.out⟩
            case measure => simp [intOf]; omega
          · have FU := Hid.intro (thT_full (K := K) (L := L) (t := t) hq)
            have q1 : decide (((thT K L t).length : Int) < (K : Int)) = false := by simp; omega
            go_wp2_with fail
            go_quiet (fail)
            go_wp2
            go_roundw
            case rel => exact ⟨t + 1, by omega, by go_num, by rw [FU.out]; exact RAH.out, NAH.out, OK2.out, belowN BTH.out _⟩
            case measure => simp [intOf]; omega
        · have m4 : ((m : Int) != (S : Int)) = true := by rw [bne_iff_ne]; omega
          have e4 := decE_size HMAY.out HLN.out (t := t) (by rw [HLE.out]; exact htl) (by rw [← HMM.out]; exact m0) (by rw [← HMM.out]; omega)
          rw [← HE.out] at e4
          have eT : T = [] := by rw [HT.out]; unfold decA; rw [← HE.out, e4, if_neg (by decide)]
          subst e4
          subst eT
          go_wp2_with fail
          go_quiet (fail)
          go_wp2
          go_ret2
          exact ⟨_, rfl, World.ownsRow_nil _ _ _ _, nil_own _, belowN BWH.out _⟩
    · have hte : t = N := by omega
      subst hte
      have n1 : ¬ (t : Int) < (t : Int) := by omega
      have eAt : thT K L t = decAt K L := by rw [← HLE.out]; rfl
      have OKL := Hid.intro (show ∀ r, r < L.length → (L.getD r []).length = 0 ∨ ((L.getD r []).length : Int) = (S : Int) from fun r hr => OKH.out r (by rw [← HLE.out]; exact hr))
      by_cases hq : (thT K L t).length < K
      · have q1 : decide (((thT K L t).length : Int) < (K : Int)) = true := by simp; omega
        have e8 := decE_few HMAY.out HLN.out OKL.out (by have := decAt_few (eAt ▸ hq); omega)
        rw [← HE.out] at e8
        have eT : T = [] := by rw [HT.out]; unfold decA; rw [← HE.out, e8, if_neg (by decide)]
        subst e8
        subst eT
        clear eAt
        go_wp2
        go_ret2
        exact ⟨_, rfl, World.ownsRow_nil _ _ _ _, nil_own _, BWH.out⟩
      · have q1 : decide (((thT K L t).length : Int) < (K : Int)) = false := by simp; omega
        have hen := decAt_enough (eAt ▸ hq)
        have hlenK : (thT K L t).length = K := by rw [eAt]; exact decAt_length hen
        have e0 := decE_ok HMAY.out HLN.out OKL.out (by omega)
        rw [← HE.out] at e0
        have eT : T = decT K S L := by rw [HT.out]; unfold decA; rw [← HE.out, e0, if_pos rfl]; rfl
        subst e0
        subst eT
        have RAD : wr.ownsRow 0 5 1 (.slice av K cv) K ((decAt K L).map U) := by
          have := RAH.out
          rw [hlenK, eAt] at this
          exact this
        have NAD : ∀ k, (Value.slice av K cv).ownBlock = some k → w1.heap.size ≤ k := by
          have := NAH.out
          rw [hlenK] at this
          exact this
        rw [hlenK] at q1 ⊢
        have RADH := Hid.intro RAD
        have NADH := Hid.intro NAD
        have HEN := Hid.intro hen
        have hw2 : IntKind.i64.wrap ((K : Int) * (S : Int)) = ((K * S : Nat) : Int) := by rw [← Int.natCast_mul]; exact IntWalk.i64_in _ (by omega)
        obtain ⟨Y, hY⟩ : ∃ Y, Y = K * S := ⟨_, rfl⟩
        rw [← hY] at hw2 hKS
        have HY := Hid.intro hY
        clear RAH NAH OKH RAD NAD hen hlenK eAt hY
        rename World => wA
        obtain ⟨gv, cv', ev, _, _⟩ := RADH.out.form (by omega)
        obtain ⟨rfl, rfl⟩ : av = some ⟨gv, 0, none⟩ ∧ cv = cv' := by simpa using ev
        clear ev
        go_wp2_with (at_make; refine wpList_make_full _ rfl _ _ 24 rfl 0 5 i8 (.int .u8 0) 1 Try.underlying24 hi8 hz80 hz81 _ _ _ _ Y rfl rfl (by omega) (by omega) (by rw [hz82]; omega) (by unfold maxLen; omega) (Nat.zero_le _) ?_)
        intro w2 hown hgrow
        have B2 : Below wA.heap.size wA w2 := (Below.refl _ _).grown hgrow (Nat.le_refl _) (fun k hk => by cases hk)
        have O2 : w2.ownsRow 0 5 1 (.slice (some ⟨wA.heap.size, 0, none⟩) Y Y) Y ((rowD K S L 0 0).map U) := by
          rw [rowD_start, List.map_replicate, ← HY.out]
          rw [toList_madeCells_one] at hown
          exact hown
        have B2H := Hid.intro B2
        have O2H := Hid.intro O2
        have CBA := Hid.intro ((BTH.out.block _ HW1.out).trans BH.out)
        clear hown hgrow B2 O2 c0 c2
        go_wp2_with fail
        go_loopw [9] (fun i ws => ∃ p : Nat, p ≤ S ∧ i = .int .i64 p ∧ ws.ownsRow 0 5 1 (.slice (some ⟨wA.heap.size, 0, none⟩) Y Y) Y ((rowD K S L p 0).map U) ∧ Below wA.heap.size wA ws) (fun i _ => S - (intOf i).toNat)
        case atStart => exact ⟨0, by omega, rfl, O2H.out, B2H.out⟩
        case round =>
          rename World => wo
          clear B2H O2H
          obtain ⟨p, hp, rfl, OP, BP⟩ := hrel
          have cbo := (BP.block _ (lt_of_heap CBA.out)).trans CBA.out
          have c2 : wo.cell? ⟨w.heap.size, 2, none⟩ = some (.int .i64 (S : Int)) := by rw [cell_of_row wo _ 2 _ _ _ cbo]; rfl
          have OPH := Hid.intro OP
          have BPH := Hid.intro BP
          clear OP BP cbo
          by_cases hlt : p < S
          · have p1 : (p : Int) < (S : Int) := by omega
            have VL : (decV L (decAt K L) p).length = K := by simp [decV, decAt_length HEN.out]
            go_wp2_with fail
            go_loopw [10, 11] (fun vv i ws => ∃ t : Nat, t ≤ K ∧ i = .int .i64 t ∧ ws.ownsRow 0 5 1 vv t (((decV L (decAt K L) p).take t).map U) ∧ (∀ k, vv.ownBlock = some k → wo.heap.size ≤ k) ∧ Below wo.heap.size wo ws) (fun _ i _ => K - (intOf i).toNat)
            case atStart => exact ⟨0, by omega, rfl, World.ownsRow_nil _ _ _ _, nil_own _, Below.refl _ _⟩
            case round =>
              clear c2
              obtain ⟨i, hi, rfl, RV, NV, BV⟩ := hrel
              have BAV : Below wA.heap.size wA wr := BPH.out.trans ((below_chg BV).below BPH.out.size (fun _ f => f.elim))
              have BWV : Below w.heap.size w wr := BWH.out.trans ((below_chg BAV).below BWH.out.size (fun _ f => f.elim))
              have BVH := Hid.intro BV
              have BAVH := Hid.intro BAV
              have NVH := Hid.intro NV
              by_cases hil : i < K
              · have i0 : (0 : Int) ≤ (i : Int) := by omega
                have i1 : (i : Int) < (K : Int) := by omega
                have hil' : i < (decAt K L).length := by rw [decAt_length HEN.out]; exact hil
                obtain ⟨j, hj⟩ : ∃ j, j = (decAt K L)[i] := ⟨_, rfl⟩
                have hjm : j ∈ there L := decAt_mem (by rw [hj]; exact List.getElem_mem hil')
                have hjl := there_lt hjm
                have hjs : (L.getD j []).length = S := by
                  have a1 := there_pos hjm
                  rcases OKL.out j hjl with a2 | a2 <;> omega
                have ca : wr.cell? ⟨gv, i, none⟩ = some (U j) := by
                  have a1 := RADH.out.cellAt i (by omega)
                  have a2 : ((decAt K L).map U)[i]? = some (U j) := by rw [List.getElem?_map, List.getElem?_eq_getElem hil', hj]; rfl
                  rw [a2] at a1
                  exact (BAV.cell (cell_lt a1)).trans a1
                obtain ⟨ra, rc, hcell, hrd, _⟩ := HROW.out j hjl
                rw [hjs] at hcell
                obtain ⟨bb, off, e, hc⟩ := reads_at hrd (by omega)
                subst e
                have ct : wr.cell? ⟨lb, lo + j, none⟩ = some (.slice (some ⟨bb, off, none⟩) S rc) := (BWV.cell (cell_lt hcell)).trans hcell
                have cx0 := hc p (by omega)
                have cx : wr.cell? ⟨bb, off + p, none⟩ = some (U ((L.getD j []).getD p 0)) := by
                  rw [← List.getElem_eq_getD (h := by omega) 0]
                  exact (BWV.cell (cell_lt cx0)).trans cx0
                have TS : (decV L (decAt K L) p).take (i + 1) = (decV L (decAt K L) p).take i ++ [(L.getD j []).getD p 0] := by
                  rw [take_snoc _ _ (by rw [VL]; exact hil)]
                  simp [decV, hj]
                have hjN : j < t := by rw [← HLE.out]; exact hjl
                have j0 : (0 : Int) ≤ (j : Int) := by omega
                have j1 : (j : Int) < (t : Int) := by omega
                have p0 : (0 : Int) ≤ (p : Int) := by omega
                generalize (L.getD j []).getD p 0 = y at cx TS
                have TSH := Hid.intro TS
                have R6H := Hid.intro (RV.alloc (.cells #[U y] 5))
                clear TS hc cx0 hcell hrd hjs hjm hjl hj hil' RV NV BV BAV BWV VL
                go_wp2_with (at_builtin; refine wpList_append_lies _ rfl _ _ 24 rfl 0 5 i8 (.int .u8 0) 1 1 Try.underlying24 hi8 hz80 hz81 hz82 rfl (by decide) u10 i _ rfl R6H.out ⟨wr.heap.size, 0, none⟩ 1 1 [U y] rfl rfl (World.news_of_block (cs := #[U y]) (t := 5) (fr := (0, 0)) (heap_alloc_new wr _)) (by simp [Value.oneCell', U]) (by decide) (by unfold maxLen; omega) (by omega) (Nat.zero_le _) (wr.heap.size + 1) (by simp) ?_)
                intro g7 cp7 w7 hown hgrow hat hgl
                have C7 : Chg (fun k => u10.ownBlock = some k) wr w7 := ((Chg.refl _ wr).alloc _).grown hgrow (fun k hk _ => hk)
                have B7 := BVH.out.trans (C7.below BVH.out.size (fun k hk => NVH.out k hk))
                have N7 : ∀ k, (Value.slice (some ⟨g7, 0, none⟩) (i + 1) cp7).ownBlock = some k → wo.heap.size ≤ k := by
                  intro k hk
                  have e : g7 = k := by simpa [Value.ownBlock] using hk
                  subst e
                  rcases hat with hat | hat
                  · exact NVH.out g7 hat
                  · have := BVH.out.size; omega
                have R7 : w7.ownsRow 0 5 1 (.slice (some ⟨g7, 0, none⟩) (i + 1) cp7) (i + 1) (((decV L (decAt K L) p).take (i + 1)).map U) := by
                  rw [TSH.out, List.map_append, List.map_take]; exact hown
                have R7H := Hid.intro R7
                have N7H := Hid.intro N7
                have B7H := Hid.intro B7
                clear hown hgrow hat R7 N7 C7 B7 R6H NVH ca ct cx
                go_wp2
                go_roundw
                case rel => exact ⟨i + 1, by omega, by go_num, R7H.out, N7H.out, B7H.out⟩
                case measure => simp [intOf]; omega
              · have hie : K = i := by omega
                subst hie
                have tk : (decV L (decAt K L) p).take K = decV L (decAt K L) p := List.take_of_length_le (by omega)
                rw [tk] at RV
                have dl : (decAt K L).length = K := decAt_length HEN.out
                have RV' : wr.ownsRow 0 5 1 u10 (decV L (decAt K L) p).length ((decV L (decAt K L) p).map U) := by rw [VL]; exact RV
                obtain ⟨av2, cv2, ev2, rv2, _⟩ := row_of_owns RV'
                rw [VL] at ev2
                subst ev2
                have RA' : wA.ownsRow 0 5 1 (.slice (some ⟨gv, 0, none⟩) K cv) (decAt K L).length ((decAt K L).map U) := by rw [dl]; exact RADH.out
                obtain ⟨aa, ca, ea, ra, _⟩ := row_of_owns RA'
                rw [dl] at ea
                obtain ⟨rfl, rfl⟩ : aa = some ⟨gv, 0, none⟩ ∧ ca = cv := by simpa using ea.symm
                have hL256 : L.length ≤ 256 := by rw [HLE.out]; omega
                have SOL := refSolve_any (some ⟨gv, 0, none⟩) av2 ca cv2 (decAt K L) (decV L (decAt K L) p) (decAt_byt hL256) (decAt_nodup K L) (decV_byt HBY.out _ p) (by rw [VL, dl]) (by rw [dl]; omega) wr (ra.below BAV) rv2
                obtain ⟨pb1, pb2, _⟩ := poly_spec (decAt_byt (K := K) hL256) (decAt_nodup K L) (decV_byt HBY.out (decAt K L) p) (by rw [VL, dl])
                rw [dl] at SOL pb2
                have SB := Hid.intro (fun i => show decB K L i p = pev (poly (decAt K L) (decV L (decAt K L) p)) i from rfl)
                generalize poly (decAt K L) (decV L (decAt K L) p) = F at SOL pb1 pb2 SB
                have SOLH := Hid.intro SOL
                have PB1 := Hid.intro pb1
                have PB2 := Hid.intro pb2
                clear RA' RV' ra rv2 ea SOL pb1 pb2 tk VL dl RV NV BV BAV BWV
                go_wp2_with fail
                refine SOLH.out.mono ?_
                rintro e5 w5 ⟨vf, rfl, RF, NF, B5⟩
                have BO5 : Below wo.heap.size wo w5 := BVH.out.trans ((below_chg B5).below BVH.out.size (fun _ f => f.elim))
                have O5 : w5.ownsRow 0 5 1 (.slice (some ⟨wA.heap.size, 0, none⟩) Y Y) Y ((rowD K S L p 0).map U) := ownsRow_keep OPH.out fun k hk => BO5.block k (ownsRow_lt OPH.out hk)
                have BA5 : Below wA.heap.size wA w5 := BPH.out.trans ((below_chg BO5).below BPH.out.size (fun _ f => f.elim))
                have obl : wA.heap.size < wo.heap.size := ownsRow_lt OPH.out rfl
                have NF5 : ∀ k, vf.ownBlock = some k → k ≠ wA.heap.size := fun k hk e => by
                  have := NF k hk
                  have := BVH.out.size
                  omega
                have RFH := Hid.intro RF
                have NFH := Hid.intro NF5
                have O5H := Hid.intro O5
                have BA5H := Hid.intro BA5
                clear RF NF B5 BO5 O5 BA5 obl NF5 SOLH BVH BAVH NVH OPH BPH
                go_wp2_with fail
                go_loopw [13] (fun i ws => ∃ t : Nat, t ≤ K ∧ i = .int .i64 t ∧ ws.ownsRow 0 5 1 (.slice (some ⟨wA.heap.size, 0, none⟩) Y Y) Y ((rowD K S L p t).map U) ∧ Chg (fun k => k = wA.heap.size) w5 ws) (fun i _ => K - (intOf i).toNat)
                case atStart => exact ⟨0, by omega, rfl, O5H.out, Chg.refl _ _⟩
                case round =>
                  rename World => wx
                  clear O5H
                  obtain ⟨i, hi2, rfl, OX, CX⟩ := hrel
                  have BAX : Below wA.heap.size wA wx := BA5H.out.trans (CX.below BA5H.out.size (fun k e => by omega))
                  have cbx := (BAX.block _ (lt_of_heap CBA.out)).trans CBA.out
                  have c0 : wx.cell? ⟨w.heap.size, 0, none⟩ = some (.int .i64 (K : Int)) := by rw [cell_of_row wx _ 0 _ _ _ cbx]; rfl
                  have c2 : wx.cell? ⟨w.heap.size, 2, none⟩ = some (.int .i64 (S : Int)) := by rw [cell_of_row wx _ 2 _ _ _ cbx]; rfl
                  have OXH := Hid.intro OX
                  have CXH := Hid.intro CX
                  have BAXH := Hid.intro BAX
                  clear OX CX BAX cbx
                  by_cases hik : i < K
                  · have k1 : (i : Int) < (K : Int) := by omega
                    have hin := mul_in hik hlt
                    rw [← HY.out] at hin
                    have SBT := SB.out i
                    have hd := decB_lt (K := K) hL256 HBY.out (i := i) (by omega) p
                    have RFX := ownsRow_keep (w' := wx) RFH.out fun k hk => CXH.out.block k (ownsRow_lt RFH.out hk) (NFH.out k hk)
                    obtain ⟨af, cf, ef, rf, _⟩ := row_of_owns (by rw [PB2.out]; exact RFX : wx.ownsRow 0 5 1 vf F.length (F.map U))
                    rw [PB2.out] at ef
                    subst ef
                    have HVAL := Hid.intro (show ∀ X : World, X.heap = wx.heap → Calls Try.prog 23 #[.slice af K cf, .int .u8 (i : Int)] X fun e w' => e = .returned (U (decB K L i p)) ∧ ∃ q, w' = X.drewN q from fun X hX => by
                      rw [SBT, ← PB2.out]
                      exact refValue_any af cf F PB1.out (by rw [PB2.out]; omega) i (by omega) X (fun h0 => by
                        obtain ⟨ad, ha, hc⟩ := rf h0
                        exact ⟨ad, ha, fun j u hu => (World.cell?_of_block (by rw [hX])).trans (hc j u hu)⟩))
                    have SET := Hid.intro (rowD_set U (K := K) (L := L) (show 0 < S by omega) (p := p) (i := i) hlt)
                    have hST := (OXH.out.stored (i * S + p) (U (decB K L i p))).1
                    rw [SET.out] at hST
                    have cx : ∃ u, wx.cell? ⟨wA.heap.size, i * S + p, none⟩ = some u := by
                      have := OXH.out.cellAt (i * S + p) (by omega)
                      rw [this]
                      exact ⟨_, List.getElem?_eq_getElem (by rw [List.length_map, rowD_length, ← HY.out]; exact hin)⟩
                    obtain ⟨u, cx⟩ := cx
                    have fx : wx.frozen? ⟨wA.heap.size, i * S + p, none⟩ = false := OXH.out.frozenAt (i * S + p)
                    have hi0 : IntKind.i64.wrap ((i : Int) * (S : Int)) = ((i * S : Nat) : Int) := by rw [← Int.natCast_mul]; exact IntWalk.i64_in _ (by omega)
                    have hi1 : IntKind.i64.wrap (((i * S : Nat) : Int) + (p : Int)) = ((i * S + p : Nat) : Int) := by rw [← Int.natCast_add]; exact IntWalk.i64_in _ (by omega)
                    generalize decB K L i p = y at SBT HVAL hST hd SET
                    generalize i * S = I0 at hi0 hi1 cx fx hin hST SET
                    generalize I0 + p = X at hi1 cx fx hin hST SET
                    have x0 : (0 : Int) ≤ (X : Int) := by omega
                    have x1 : (X : Int) < (Y : Int) := by omega
                    have hu8 : (i : Int) % 256 = (i : Int) := by omega
                    have hu8w : IntKind.u8.wrap (i : Int) = (i : Int) := IntWalk.u8_in _ (by omega)
                    have HST := Hid.intro hST
                    clear SBT RFX rf hST SET
                    go_wp2_with fail
                    go_region_law (go_simp; refine (HVAL.out _ (by rfl)).mono ?_; rintro e6 w6 ⟨rfl, q6, rfl⟩)
                    all_goals (
                      go_wp2
                      go_roundw
                      case rel => exact ⟨i + 1, by omega, by go_num, ownsRow_keep HST.out (fun _ _ => rfl), (CXH.out.drewN _).setCell (p := ⟨wA.heap.size, X, none⟩) (fun _ => rfl) _⟩
                      case measure => simp [intOf]; omega)
                  · have hie : K = i := by omega
                    subst hie
                    have n2 : ¬ (K : Int) < (K : Int) := by omega
                    have ON := OXH.out
                    rw [rowD_next] at ON
                    have ONH := Hid.intro ON
                    clear ON OXH
                    go_wp2
                    go_roundw
                    case rel => exact ⟨p + 1, by omega, by go_num, ONH.out, BAXH.out⟩
                    case measure => simp [intOf]; omega
          · have hpe : S = p := by omega
            subst hpe
            have p1 : ¬ (S : Int) < (S : Int) := by omega
            go_wp2
            go_ret2
            have OE := OPH.out
            rw [rowD_end (by omega)] at OE
            exact ⟨_, rfl, by rw [decT_length, ← HY.out]; exact OE, fun k hk => by
              have e : wA.heap.size = k := by simpa [Value.ownBlock] using hk
              rw [← e]; exact BWH.out.size, BWH.out.trans ((below_chg BPH.out).below BWH.out.size (fun _ f => f.elim))⟩

set_option maxRecDepth 100000 in
set_option maxHeartbeats 1000000 in
theorem refDecode_any (k n s : Int) (ao : Option Addr) (cap : Nat) (L : List (List Nat)) (hB : BytL L) (w : World) (hr : ReadsL w ao L) :
    Calls Try.prog 20 #[Cd k n s, .slice ao L.length cap] w fun e w' => ∃ v, e = .returned (.tuple #[v, .int .i64 (decE k n s L)]) ∧ w'.ownsRow 0 5 1 v (decA k n s L).length ((decA k n s L).map U) ∧ (∀ j, v.ownBlock = some j → w.heap.size ≤ j) ∧ Below w.heap.size w w' := by
  rcases hmay : mayC k n s with _ | _
  · have e1 := decE_may (L := L) hmay
    have eA : decA k n s L = [] := by unfold decA; rw [e1, if_neg (by decide)]
    rw [e1, eA]
    have HM := Hid.intro (fun w => refMay_any k n s w)
    rw [hmay] at HM
    clear e1 eA hr hB
    go_enter Try.func20, Try.ntmps20
    go_wp2_with fail
    refine (HM.out _).mono ?_
    rintro e1 w1 ⟨rfl, B1⟩
    go_wp2
    go_ret2
    exact ⟨_, rfl, World.ownsRow_nil _ _ _ _, nil_own _, ((Below.refl _ _).alloc (Nat.le_refl _) _).trans ((below_chg B1).below (by simp) (fun _ f => f.elim))⟩
  · obtain ⟨h1, h2, h3, h4, h5, h6⟩ := mayC_true hmay
    obtain ⟨K, rfl⟩ := Int.eq_ofNat_of_zero_le (show 0 ≤ k by omega)
    obtain ⟨N, rfl⟩ := Int.eq_ofNat_of_zero_le (show 0 ≤ n by omega)
    obtain ⟨S, rfl⟩ := Int.eq_ofNat_of_zero_le (show 0 ≤ s by omega)
    by_cases hl : L.length = N
    · exact refDecode_main K N S hmay ao cap L hB hl w hr
    · have e1 := decE_many (L := L) hmay (by omega)
      have eA : decA K N S L = [] := by unfold decA; rw [e1, if_neg (by decide)]
      rw [e1, eA]
      have HM := Hid.intro (fun w => refMay_any K N S w)
      rw [hmay] at HM
      have nn : ((L.length : Int) != (N : Int)) = true := by rw [bne_iff_ne]; omega
      clear e1 eA hr hB
      go_enter Try.func20, Try.ntmps20
      go_wp2_with fail
      refine (HM.out _).mono ?_
      rintro e1 w1 ⟨rfl, B1⟩
      have b1 : w1.heap[w.heap.size]? = some (.cells #[.int .i64 (K : Int), .int .i64 (N : Int), .int .i64 (S : Int)] 23 (0, 0)) := by
        rw [B1.block _ (by simp)]; exact heap_alloc_new w _
      have c1 : w1.cell? ⟨w.heap.size, 1, none⟩ = some (.int .i64 (N : Int)) := by rw [cell_of_row w1 _ 1 _ _ _ b1]; rfl
      clear b1
      go_wp2
      go_ret2
      exact ⟨_, rfl, World.ownsRow_nil _ _ _ _, nil_own _, ((Below.refl _ _).alloc (Nat.le_refl _) _).trans ((below_chg B1).below (by simp) (fun _ f => f.elim))⟩

end Go.Proofs.Ytebjkbhidpdpfaa
