/- The contract of the document's own Encode of layer 5, where it has shards. -/
import Derived.Test.YtebjkbhidpdpfaaRefSolve
import Derived.Test.YtebjkbhidpdpfaaRefValue
import Derived.Test.YtebjkbhidpdpfaaRefMay
import Derived.Test.YtebjkbhidpdpfaaRsRag
import Derived.Deep.RegionLaw
namespace Go.Proofs.Ytebjkbhidpdpfaa
open Go.RowKit
open Bt

set_option maxRecDepth 100000 in
set_option maxHeartbeats 4000000 in
theorem refEncode_ok (K N S : Nat) (hmay : mayC K N S = true) (ao : Option Addr) (cap : Nat) (text : List Nat) (ht : Byt text) (hl : text.length = K * S) (w : World) (hr : Reads w ao text) :
    Calls Try.prog 11 #[Cd K N S, .slice ao text.length cap] w fun e w' => ∃ mb mc vs, e = .returned (.tuple #[.slice (some ⟨mb, 0, none⟩) N mc, .int .i64 0]) ∧ Rag w.heap.size w' mb N mc vs (shL K S text S) ∧ Below w.heap.size w w' := by
  obtain ⟨i8, hi8, hz80, hz81, hz82⟩ := info_parts info_u8
  obtain ⟨iR, hiR, hzR0, hzR1, hzR2⟩ := info_parts info_row
  obtain ⟨h1, h2, h3, h4, h5, h6⟩ := mayC_true hmay
  have HM := Hid.intro (fun w => refMay_any K N S w)
  rw [hmay] at HM
  have HR := Hid.intro hr
  have HT := Hid.intro ht
  have hKS : K * S ≤ 144 := by
    calc K * S ≤ 6 * S := Nat.mul_le_mul_right _ (by omega)
      _ ≤ 6 * 24 := Nat.mul_le_mul_left _ (by omega)
  have hw : IntKind.i64.wrap ((K : Int) * (S : Int)) = (text.length : Int) := by rw [hl]; simp; exact IntWalk.i64_in _ (by rw [← Int.natCast_mul]; omega)
  have HL := Hid.intro hl
  obtain ⟨L, hL⟩ : ∃ L, L = text.length := ⟨_, rfl⟩
  rw [← hL] at hw hl HL ⊢
  have HLL := Hid.intro hL
  have hLb : L ≤ 144 := by omega
  clear hr ht hl hL hmay hKS
  go_enter Try.func11, Try.ntmps11
  go_wp2_with fail
  refine (HM.out _).mono ?_
  rintro e1 w1 ⟨rfl, B1⟩
  clear HM
  have b1 : w1.heap[w.heap.size]? = some (.cells #[.int .i64 (K : Int), .int .i64 (N : Int), .int .i64 (S : Int)] 23 (0, 0)) := by
    rw [B1.block _ (by simp)]; exact heap_alloc_new w _
  have BH := Hid.intro b1
  have B1w : Below w.heap.size w w1 := ((Below.refl _ _).alloc (Nat.le_refl _) _).trans ((below_chg B1).below (by simp) (fun _ f => f.elim))
  have hw1 : w.heap.size < w1.heap.size := lt_of_heap b1
  have HW1 := Hid.intro hw1
  have B1H := Hid.intro B1w
  have c0 : w1.cell? ⟨w.heap.size, 0, none⟩ = some (.int .i64 (K : Int)) := by rw [cell_of_row w1 _ 0 _ _ _ b1]; rfl
  have c1 : w1.cell? ⟨w.heap.size, 1, none⟩ = some (.int .i64 (N : Int)) := by rw [cell_of_row w1 _ 1 _ _ _ b1]; rfl
  have c2 : w1.cell? ⟨w.heap.size, 2, none⟩ = some (.int .i64 (S : Int)) := by rw [cell_of_row w1 _ 2 _ _ _ b1]; rfl
  clear b1 B1 B1w hw1
  go_wp2_with (at_make; refine wpList_make_full _ rfl _ _ 26 rfl 0 24 iR (.slice none 0 0) 1 Try.underlying26 hiR hzR0 hzR1 _ _ _ _ N rfl rfl (by omega) (by omega) (by rw [hzR2]; omega) (by unfold maxLen; omega) (Nat.zero_le _) ?_)
  intro w2 hown hgrow
  have B2 : Below w.heap.size w w2 := B1H.out.grown hgrow B1H.out.size (fun k hk => by cases hk)
  have b2 : w2.heap[w.heap.size]? = some (.cells #[.int .i64 (K : Int), .int .i64 (N : Int), .int .i64 (S : Int)] 23 (0, 0)) := by
    rw [hgrow.block _ HW1.out (by simp)]; exact BH.out
  have G2 : Rag w.heap.size w2 w1.heap.size N N (fun _ => .slice none 0 0) (shL K S text 0) := by
    refine ⟨?_, (fun r _ => World.ownsRow_nil _ _ _ _), (fun r s k _ _ _ h => by cases h), B1H.out.size, (fun r k _ h => by cases h)⟩
    rw [toList_madeCells_one] at hown
    have e : (List.range N).map (fun _ => Value.slice none 0 0) = List.replicate N (.slice none 0 0) := by
      apply List.ext_getElem
      · simp
      · intro j h3 h4; simp
    rw [e]
    exact hown
  have GH := Hid.intro G2
  have B2H := Hid.intro B2
  have C2H := Hid.intro b2
  generalize w1.heap.size = mb at GH
  clear hown hgrow B2 b2 G2 BH HW1 B1H c0 c1 c2
  go_wp2_with fail
  go_loopw [7] (fun i ws => ∃ (t : Nat) (vs : Nat → Value), t ≤ S ∧ i = .int .i64 t ∧ Rag w.heap.size ws mb N N vs (shL K S text t) ∧ ws.heap[w.heap.size]? = some (.cells #[.int .i64 (K : Int), .int .i64 (N : Int), .int .i64 (S : Int)] 23 (0, 0)) ∧ Below w.heap.size w ws) (fun i _ => S - (intOf i).toNat)
  case atStart => exact ⟨0, _, by omega, rfl, GH.out, C2H.out, B2H.out⟩
  case round =>
    rename World => wo
    clear GH B2H C2H
    obtain ⟨p, vs, hp, rfl, GP, CP, BP⟩ := hrel
    have c2 : wo.cell? ⟨w.heap.size, 2, none⟩ = some (.int .i64 (S : Int)) := by rw [cell_of_row wo _ 2 _ _ _ CP]; rfl
    have GPH := Hid.intro GP
    have CPH := Hid.intro CP
    have BPH := Hid.intro BP
    clear GP CP BP
    by_cases hlt : p < S
    · have p1 : (p : Int) < (S : Int) := by omega
      go_wp2_with fail
      go_loopw [8, 9, 10] (fun va vv i ws => ∃ t : Nat, t ≤ K ∧ i = .int .i64 t ∧ ws.ownsRow 0 5 1 va t ((List.range t).map U) ∧ ws.ownsRow 0 5 1 vv t ((valsP S text p t).map U) ∧ (∀ k, va.ownBlock = some k → vv.ownBlock = some k → False) ∧ (∀ k, va.ownBlock = some k → wo.heap.size ≤ k) ∧ (∀ k, vv.ownBlock = some k → wo.heap.size ≤ k) ∧ Below wo.heap.size wo ws) (fun _ _ i _ => K - (intOf i).toNat)
      case atStart => exact ⟨0, by omega, rfl, World.ownsRow_nil _ _ _ _, World.ownsRow_nil _ _ _ _, (fun _ h => by cases h), nil_own _, nil_own _, Below.refl _ _⟩
      case round =>
        clear c2
        obtain ⟨t, ht, rfl, RA, RV, AP, NA, NV, BT⟩ := hrel
        have cb := (BT.block _ (lt_of_heap CPH.out)).trans CPH.out
        have CBH := Hid.intro cb
        have c0 : wr.cell? ⟨w.heap.size, 0, none⟩ = some (.int .i64 (K : Int)) := by rw [cell_of_row wr _ 0 _ _ _ cb]; rfl
        have RAH := Hid.intro RA
        have RVH := Hid.intro RV
        have APH := Hid.intro AP
        have NAH := Hid.intro NA
        have NVH := Hid.intro NV
        have BTH := Hid.intro BT
        clear cb RA RV AP NA NV BT
        by_cases htl : t < K
        · have t1 : (t : Int) < (K : Int) := by omega
          have hu8 : (t : Int) % 256 = (t : Int) := by omega
          have R6H := Hid.intro (RAH.out.alloc (.cells #[U t] 5))
          go_wp2_with (at_builtin; refine wpList_append_lies _ rfl _ _ 24 rfl 0 5 i8 (.int .u8 0) 1 1 Try.underlying24 hi8 hz80 hz81 hz82 rfl (by decide) u8 _ _ rfl R6H.out ⟨wr.heap.size, 0, none⟩ 1 1 [U t] rfl rfl (World.news_of_block (cs := #[U t]) (t := 5) (fr := (0, 0)) (heap_alloc_new wr _)) (by simp [Value.oneCell', U]) (by decide) (by unfold maxLen; omega) (by omega) (Nat.zero_le _) (wr.heap.size + 1) (by simp) ?_)
          intro g7 cp7 w7 hown hgrow hat hgl
          have C7 : Chg (fun q => u8.ownBlock = some q) wr w7 := ((Chg.refl _ _).alloc _).grown hgrow (fun q hq _ => hq)
          have B7 := BTH.out.trans (C7.below BTH.out.size (fun q hq => NAH.out q hq))
          have N7 : wo.heap.size ≤ g7 := by
            rcases hat with hat | hat
            · exact NAH.out g7 hat
            · have := BTH.out.size; omega
          have A7 : u9.ownBlock ≠ some g7 := fun e => by
            rcases hat with hat | hat
            · exact APH.out g7 hat e
            · have := ownsRow_lt RVH.out e; omega
          have R7 : w7.ownsRow 0 5 1 (.slice (some ⟨g7, 0, none⟩) (t + 1) cp7) (t + 1) ((List.range (t + 1)).map U) := by
            rw [List.range_succ, List.map_append]; exact hown
          have V7 : w7.ownsRow 0 5 1 u9 t ((valsP S text p t).map U) := ownsRow_keep RVH.out fun k hk => C7.block k (ownsRow_lt RVH.out hk) (fun q => APH.out k q hk)
          have cb := (B7.block _ (lt_of_heap CPH.out)).trans CPH.out
          have c2 : w7.cell? ⟨w.heap.size, 2, none⟩ = some (.int .i64 (S : Int)) := by rw [cell_of_row w7 _ 2 _ _ _ cb]; rfl
          have hin := mul_in htl hlt
          rw [← HL.out] at hin
          have hi0 : IntKind.i64.wrap ((t : Int) * (S : Int)) = ((t * S : Nat) : Int) := by rw [← Int.natCast_mul]; exact IntWalk.i64_in _ (by omega)
          have hi1 : IntKind.i64.wrap (((t * S : Nat) : Int) + (p : Int)) = ((t * S + p : Nat) : Int) := by rw [← Int.natCast_add]; exact IntWalk.i64_in _ (by omega)
          have TS := Hid.intro (valsP_succ S text p t)
          obtain ⟨bb, off, e, hc⟩ := reads_at HR.out (by rw [← HLL.out]; omega)
          subst e
          have cx0 : w.cell? ⟨bb, off + (t * S + p), none⟩ = some (U (text.getD (t * S + p) 0)) := by
            rw [← List.getElem_eq_getD (h := by rw [← HLL.out]; exact hin) 0]; exact hc _ (by rw [← HLL.out]; exact hin)
          have hb := getD_byt HT.out (t * S + p)
          have cx : w7.cell? ⟨bb, off + (t * S + p), none⟩ = some (U (text.getD (t * S + p) 0)) :=
            (B7.cell (Nat.lt_of_lt_of_le (cell_lt cx0) BPH.out.size)).trans ((BPH.out.cell (cell_lt cx0)).trans cx0)
          generalize text.getD (t * S + p) 0 = y at hb cx TS
          generalize t * S = Y at hi0 hi1 cx hin
          generalize Y + p = X at hi1 cx hin
          have x0 : (0 : Int) ≤ (X : Int) := by omega
          have x1 : (X : Int) < (L : Int) := by omega
          have R7H := Hid.intro R7
          have V8H := Hid.intro (V7.alloc (.cells #[U y] 5))
          have V7H := Hid.intro V7
          have A7H := Hid.intro A7
          have B7H := Hid.intro B7
          clear hown hgrow hat R7 V7 C7 B7 R6H cb c0 cx0 hc RAH RVH APH NAH BTH CBH A7
          go_wp2_with (at_builtin; refine wpList_append_lies _ rfl _ _ 24 rfl 0 5 i8 (.int .u8 0) 1 1 Try.underlying24 hi8 hz80 hz81 hz82 rfl (by decide) u9 t _ rfl V8H.out ⟨w7.heap.size, 0, none⟩ 1 1 [U y] rfl rfl (World.news_of_block (cs := #[U y]) (t := 5) (fr := (0, 0)) (heap_alloc_new w7 _)) (by simp [Value.oneCell', U]) (by decide) (by unfold maxLen; omega) (by omega) (Nat.zero_le _) (w7.heap.size + 1) (by simp) ?_)
          intro g9 cp9 w9 hown hgrow hat hgl9
          have C9 : Chg (fun q => u9.ownBlock = some q) w7 w9 := ((Chg.refl _ _).alloc _).grown hgrow (fun q hq _ => hq)
          have B9 := B7H.out.trans (C9.below B7H.out.size (fun q hq => NVH.out q hq))
          have N9 : wo.heap.size ≤ g9 := by
            rcases hat with hat | hat
            · exact NVH.out g9 hat
            · have := B7H.out.size; omega
          have A9 : g7 ≠ g9 := fun e => by
            rcases hat with hat | hat
            · exact A7H.out (by rw [hat, e])
            · omega
          have R9 : w9.ownsRow 0 5 1 (.slice (some ⟨g7, 0, none⟩) (t + 1) cp7) (t + 1) ((List.range (t + 1)).map U) := ownsRow_keep R7H.out fun k hk => C9.block k (ownsRow_lt R7H.out hk) (fun q => A7H.out (by
            have e : g7 = k := by simpa [Value.ownBlock] using hk
            rw [e]; exact q))
          have V9 : w9.ownsRow 0 5 1 (.slice (some ⟨g9, 0, none⟩) (t + 1) cp9) (t + 1) ((valsP S text p (t + 1)).map U) := by
            rw [TS.out, List.map_append]; exact hown
          have R9H := Hid.intro R9
          have V9H := Hid.intro V9
          have B9H := Hid.intro B9
          have A9H := Hid.intro A9
          clear hown hgrow hat R9 V9 C9 B9 R7H V7H V8H B7H A7H cx c2 A9
          go_wp2
          go_roundw
          case rel => exact ⟨t + 1, by omega, by go_num, R9H.out, V9H.out, (fun k h1 h2 => A9H.out (by
            have e1 : g7 = k := by simpa [Value.ownBlock] using h1
            have e2 : g9 = k := by simpa [Value.ownBlock] using h2
            rw [e1, e2])), (fun k h => by
            have e1 : g7 = k := by simpa [Value.ownBlock] using h
            rw [← e1]; exact N7), (fun k h => by
            have e1 : g9 = k := by simpa [Value.ownBlock] using h
            rw [← e1]; exact N9), B9H.out⟩
          case measure => simp [intOf]; omega
        · have hte : K = t := by omega
          subst hte
          have RA' : wr.ownsRow 0 5 1 u8 (List.range K).length ((List.range K).map U) := by rw [List.length_range]; exact RAH.out
          have RV' : wr.ownsRow 0 5 1 u9 (valsP S text p K).length ((valsP S text p K).map U) := by rw [valsP_length]; exact RVH.out
          obtain ⟨aa, ca, ea, ra, _⟩ := row_of_owns RA'
          obtain ⟨av, cv, ev, rv, hav⟩ := row_of_owns RV'
          rw [List.length_range] at ea
          rw [valsP_length] at ev
          subst ea
          subst ev
          have SOL := refSolve_any aa av ca cv (List.range K) (valsP S text p K) (range_byt K (by omega)) List.nodup_range (valsP_byt HT.out p K) (by rw [valsP_length, List.length_range]) (by rw [List.length_range]; omega) wr ra rv
          obtain ⟨pb1, pb2, _⟩ := poly_spec (range_byt K (by omega)) List.nodup_range (valsP_byt (S := S) HT.out p K) (by rw [valsP_length, List.length_range])
          rw [List.length_range] at SOL pb2
          have SB := Hid.intro (fun i => show shB K S text i p = if i < K then text.getD (i * S + p) 0 else pev (poly (List.range K) (valsP S text p K)) i from rfl)
          generalize poly (List.range K) (valsP S text p K) = F at SOL pb1 pb2 SB
          have SOLH := Hid.intro SOL
          have PB1 := Hid.intro pb1
          clear RA' RV' ra rv SOL pb1
          go_wp2_with fail
          refine SOLH.out.mono ?_
          rintro e5 w5 ⟨vf, rfl, RF, NF, B5⟩
          have G5 := (GPH.out.below BTH.out).below B5
          have CB5 := (B5.block _ (lt_of_heap CBH.out)).trans CBH.out
          have BW5 : Below w.heap.size w w5 := BPH.out.trans (((below_chg BTH.out).below BPH.out.size (fun _ f => f.elim)).trans ((below_chg B5).below (Nat.le_trans BPH.out.size BTH.out.size) (fun _ f => f.elim)))
          have RV5 := ownsRow_keep RVH.out fun k hk => B5.block k (ownsRow_lt RVH.out hk)
          have NV5 : ∀ k, (Value.slice av K cv).ownBlock = some k → wo.heap.size ≤ k ∧ k < w5.heap.size := fun k hk => ⟨NVH.out k hk, Nat.lt_of_lt_of_le (ownsRow_lt RVH.out hk) B5.size⟩
          have NF5 : ∀ k, vf.ownBlock = some k → wo.heap.size ≤ k ∧ k < w5.heap.size := fun k hk => ⟨Nat.le_trans BTH.out.size (NF k hk), ownsRow_lt RF hk⟩
          have NR5 : ∀ r k, r < N → (vs r).ownBlock = some k → k < wo.heap.size ∨ w5.heap.size ≤ k := fun r k hr hk => .inl (ownsRow_lt (GPH.out.row r hr) hk)
          have mbl : mb < wo.heap.size := ownsRow_lt GPH.out.top rfl
          have cbl : w.heap.size < wo.heap.size := lt_of_heap CPH.out
          have G5H := Hid.intro G5
          have CB5H := Hid.intro CB5
          have BW5H := Hid.intro BW5
          have RV5H := Hid.intro RV5
          have RF5H := Hid.intro RF
          have NV5H := Hid.intro NV5
          have NF5H := Hid.intro NF5
          have NR5H := Hid.intro NR5
          have MBL := Hid.intro mbl
          have CBL := Hid.intro cbl
          have WO5 := Hid.intro (Nat.le_trans BTH.out.size B5.size)
          clear G5 CB5 BW5 RV5 RF NV5 NF5 NR5 mbl cbl B5 NF SOLH RAH RVH APH NAH NVH BTH CBH GPH CPH BPH c0 hav
          go_wp2_with fail
          go_loopw [12] (fun i ws => ∃ (t : Nat) (vs : Nat → Value), t ≤ N ∧ i = .int .i64 t ∧ Rag w.heap.size ws mb N N vs (fun r => if r < t then shL K S text (p + 1) r else shL K S text p r) ∧ ws.heap[w.heap.size]? = some (.cells #[.int .i64 (K : Int), .int .i64 (N : Int), .int .i64 (S : Int)] 23 (0, 0)) ∧ Below w.heap.size w ws ∧ (∀ r k, r < N → (vs r).ownBlock = some k → k < wo.heap.size ∨ w5.heap.size ≤ k) ∧ (∀ k, wo.heap.size ≤ k → k < w5.heap.size → ws.heap[k]? = w5.heap[k]?) ∧ w5.heap.size ≤ ws.heap.size) (fun i _ => N - (intOf i).toNat)
          case atStart => exact ⟨0, vs, by omega, rfl, G5H.out.congr (fun r _ => by rw [if_neg (by omega)]), CB5H.out, BW5H.out, NR5H.out, fun _ _ _ => rfl, Nat.le_refl _⟩
          case round =>
            rename World => wx
            clear G5H CB5H BW5H NR5H
            obtain ⟨t, vs, ht', rfl, GX, CX, BX, NX, KX, SX⟩ := hrel
            have c0 : wx.cell? ⟨w.heap.size, 0, none⟩ = some (.int .i64 (K : Int)) := by rw [cell_of_row wx _ 0 _ _ _ CX]; rfl
            have c1 : wx.cell? ⟨w.heap.size, 1, none⟩ = some (.int .i64 (N : Int)) := by rw [cell_of_row wx _ 1 _ _ _ CX]; rfl
            have GXH := Hid.intro GX
            have CXH := Hid.intro CX
            have BXH := Hid.intro BX
            have NXH := Hid.intro NX
            have KXH := Hid.intro KX
            have SXH := Hid.intro SX
            clear GX CX BX NX KX SX
            by_cases htn : t < N
            · have n1 : (t : Int) < (N : Int) := by omega
              obtain ⟨v0, hv0⟩ : ∃ v0, v0 = vs t := ⟨_, rfl⟩
              have ct := GXH.out.cellTop htn
              have RT := GXH.out.row t htn
              simp only [if_neg (Nat.lt_irrefl t)] at RT
              rw [shL_length] at RT
              rw [← hv0] at ct RT
              have A1 : v0.ownBlock ≠ some mb := by rw [hv0]; exact GXH.out.topApart htn
              have A2 : v0.ownBlock ≠ some w.heap.size := by rw [hv0]; exact row_not_block (GXH.out.row t htn) CXH.out (by decide)
              have A3 : ∀ k, wo.heap.size ≤ k → k < w5.heap.size → v0.ownBlock ≠ some k := fun k h1 h2 e => by
                rw [hv0] at e
                have := NXH.out t k htn e
                omega
              have RTH := Hid.intro RT
              have A3H := Hid.intro A3
              have FIN := Hid.intro (show ∀ (X : World), Chg (fun _ => False) wx X → X.heap.size = wx.heap.size → ∀ (g7 cp7 : Nat) (w7 : World), w7.ownsRow 0 5 1 (.slice (some ⟨g7, 0, none⟩) (p + 1) cp7) (p + 1) ((shL K S text p t).map U ++ [U (shB K S text t p)]) →
                  (X.alloc (.cells #[U (shB K S text t p)] 5)).grownBy w7 v0.ownBlock → (v0.ownBlock = some g7 ∨ g7 = wx.heap.size + 1) →
                  (w7.cell? ⟨mb, t, none⟩ = some v0 ∧ w7.frozen? ⟨mb, t, none⟩ = false) ∧ ∃ vs', Rag w.heap.size (w7.setCell ⟨mb, t, none⟩ (.slice (some ⟨g7, 0, none⟩) (p + 1) cp7)) mb N N vs' (fun r => if r < t + 1 then shL K S text (p + 1) r else shL K S text p r) ∧ (w7.setCell ⟨mb, t, none⟩ (.slice (some ⟨g7, 0, none⟩) (p + 1) cp7)).heap[w.heap.size]? = some (.cells #[.int .i64 (K : Int), .int .i64 (N : Int), .int .i64 (S : Int)] 23 (0, 0)) ∧ Below w.heap.size w (w7.setCell ⟨mb, t, none⟩ (.slice (some ⟨g7, 0, none⟩) (p + 1) cp7)) ∧ (∀ r k, r < N → (vs' r).ownBlock = some k → k < wo.heap.size ∨ w5.heap.size ≤ k) ∧ (∀ k, wo.heap.size ≤ k → k < w5.heap.size → (w7.setCell ⟨mb, t, none⟩ (.slice (some ⟨g7, 0, none⟩) (p + 1) cp7)).heap[k]? = w5.heap[k]?) ∧ w5.heap.size ≤ (w7.setCell ⟨mb, t, none⟩ (.slice (some ⟨g7, 0, none⟩) (p + 1) cp7)).heap.size from by
                intro X hX hXs g7 cp7 w7 hown hg hat
                have C : Chg (fun q => v0.ownBlock = some q) wx w7 := ((hX.mono (fun _ f _ => f.elim)).alloc _).grown hg (fun q hq _ => hq)
                have GT := ownsRow_keep GXH.out.top fun k hk => C.block k (ownsRow_lt GXH.out.top hk) (fun q => A1 (by rw [q]; exact hk.symm))
                have hat' : ∀ k, (Value.slice (some ⟨g7, 0, none⟩) (p + 1) cp7).ownBlock = some k → v0.ownBlock = some k ∨ wx.heap.size ≤ k := fun k hk => by
                  have e : g7 = k := by simpa [Value.ownBlock] using hk
                  subst e
                  rcases hat with h | h
                  · exact .inl h
                  · exact .inr (by omega)
                have own' : w7.ownsRow 0 5 1 (.slice (some ⟨g7, 0, none⟩) (p + 1) cp7) (shL K S text (p + 1) t).length ((shL K S text (p + 1) t).map U) := by
                  rw [shL_length, shL_succ, List.map_append]; exact hown
                have AP := GXH.out.app (v' := .slice (some ⟨g7, 0, none⟩) (p + 1) cp7) (ys := shL K S text (p + 1) t) htn BXH.out.size own' (by rw [← hv0]; exact C) (by rw [← hv0]; exact hat')
                have hmb := MBL.out
                have hcb := CBL.out
                refine ⟨⟨cell_chg C ct A1, GT.frozenAt t⟩, _, AP.congr (fun r hr => ?_), ?_, ?_, ?_, ?_, ?_⟩
                · by_cases e : r = t
                  · rw [if_pos e, if_pos (by omega), e]
                  · rw [if_neg e]
                    by_cases h : r < t
                    · rw [if_pos h, if_pos (by omega)]
                    · rw [if_neg h, if_neg (by omega)]
                · rw [heap_setCell_other _ _ _ _ (fun e => GXH.out.top |> fun h => (row_not_block h CXH.out (by decide)) (by simp [Value.ownBlock, e])), C.block _ (lt_of_heap CXH.out) A2]; exact CXH.out
                · exact (BXH.out.trans (C.below BXH.out.size (fun k hk => GXH.out.newRow t k htn (by rw [← hv0]; exact hk)))).setCell (p := ⟨mb, t, none⟩) GXH.out.newTop _
                · intro r k hr hk
                  replace hk : (if r = t then Value.slice (some ⟨g7, 0, none⟩) (p + 1) cp7 else vs r).ownBlock = some k := hk
                  by_cases e : r = t
                  · rw [if_pos e] at hk
                    rcases hat' k hk with h | h
                    · exact NXH.out t k htn (by rw [← hv0]; exact h)
                    · exact .inr (Nat.le_trans SXH.out h)
                  · rw [if_neg e] at hk
                    exact NXH.out r k hr hk
                · intro k h1 h2
                  rw [heap_setCell_other _ _ _ _ (fun e => by have : k = mb := by simpa using e
                                                              omega), C.block k (Nat.lt_of_lt_of_le h2 SXH.out) (A3 k h1 h2)]
                  exact KXH.out k h1 h2
                · have := SXH.out
                  have := C.size
                  simp
                  omega)
              have ONE := Hid.intro (bytes_one [shB K S text t p])
              have PML := Hid.intro (show p + 1 ≤ maxLen by unfold maxLen; omega)
              have PBY := Hid.intro (show (p + 1) * 1 ≤ 140737488355328 by omega)
              have R6H := Hid.intro (show ∀ X : World, X.heap = wx.heap → (X.alloc (.cells #[U (shB K S text t p)] 5)).ownsRow 0 5 1 v0 p ((shL K S text p t).map U) from fun X hX => (ownsRow_keep RTH.out (fun k _ => by rw [hX])).alloc _)
              have ct2 : (wx.alloc (.cells #[U (shB K S text t p)] 5)).cell? ⟨mb, t, none⟩ = some v0 := cell_chg ((Chg.refl (fun _ => False) wx).alloc _) ct id
              have t0 : (0 : Int) ≤ (t : Int) := by omega
              have SBT := SB.out t
              clear hv0 RT A1 A2 A3
              by_cases htk : t < K
              · rw [if_pos htk] at SBT
                obtain ⟨gv, cv', ev, _, _⟩ := RV5H.out.form (by omega)
                obtain ⟨rfl, rfl⟩ : av = some ⟨gv, 0, none⟩ ∧ cv = cv' := by simpa using ev
                have RVX := ownsRow_keep (w' := wx) RV5H.out fun k hk => KXH.out k (NV5H.out k hk).1 (NV5H.out k hk).2
                have cv0 : wx.cell? ⟨gv, t, none⟩ = some (U (shB K S text t p)) := by
                  rw [RVX.cellAt t (by omega), SBT]
                  simp [valsP, htk]
                generalize shB K S text t p = y at cv0 SBT FIN ONE R6H ct2
                have k1 : (t : Int) < (K : Int) := by omega
                clear RVX ev SBT
                go_wp2_with fail
                go_region_law
                  ((refine step_append_lies _ (by rfl) _ _ _ (by rfl) 0 5 i8 (.int .u8 0) 1 1 Try.underlying24 hi8 hz80 hz81 hz82 (by rfl) (by decide) v0 p _ (by rfl) (R6H.out _ rfl) ⟨wx.heap.size, 0, none⟩ 1 1 [U y] (by rfl) (by rfl) (World.news_of_block (cs := #[U y]) (t := 5) (fr := (0, 0)) (heap_alloc_new wx.drew _)) ONE.out (by decide) PML.out PBY.out (Nat.zero_le _) (wx.heap.size + 1) (by simp) ?_; intro g7 cp7 w7 hown hgrow hat hgl; have FN := FIN.out wx.drew ⟨rfl, rfl, rfl, Nat.le_refl _, fun _ _ _ => rfl⟩ rfl g7 cp7 w7 hown hgrow hat; have k1 := FN.1.1; have k3 := FN.1.2; have F2 := Hid.intro FN.2; clear FN hown hgrow hat))
                all_goals (
                  go_wp2
                  go_roundw
                  case rel =>
                    obtain ⟨vs', f1, f2, f3, f4, f5, f6⟩ := F2.out
                    exact ⟨t + 1, vs', by omega, by go_num, f1, f2, f3, f4, f5, f6⟩
                  case measure => simp [intOf]; omega)
              · rw [if_neg htk] at SBT
                have RFX := ownsRow_keep (w' := wx) RF5H.out fun k hk => KXH.out k (NF5H.out k hk).1 (NF5H.out k hk).2
                obtain ⟨af, cf, ef, rf, _⟩ := row_of_owns (by rw [pb2]; exact RFX : wx.ownsRow 0 5 1 vf F.length (F.map U))
                rw [pb2] at ef
                subst ef
                have HVAL := Hid.intro (show ∀ X : World, X.heap = wx.heap → Calls Try.prog 23 #[.slice af K cf, .int .u8 (t : Int)] X fun e w' => e = .returned (U (shB K S text t p)) ∧ ∃ q, w' = X.drewN q from fun X hX => by
                  rw [SBT, ← pb2]
                  exact refValue_any af cf F PB1.out (by omega) t (by omega) X (fun h0 => by
                    obtain ⟨ad, ha, hc⟩ := rf h0
                    exact ⟨ad, ha, fun j u hu => (World.cell?_of_block (by rw [hX])).trans (hc j u hu)⟩))
                generalize shB K S text t p = y at SBT FIN ONE R6H ct2 HVAL
                have k1 : ¬ (t : Int) < (K : Int) := by omega
                have hu8 : (t : Int) % 256 = (t : Int) := by omega
                have hu8w : IntKind.u8.wrap (t : Int) = (t : Int) := IntWalk.u8_in _ (by omega)
                clear RFX SBT rf
                go_wp2_with fail
                go_region_law
                  (first
                    | (refine step_append_lies _ (by rfl) _ _ _ (by rfl) 0 5 i8 (.int .u8 0) 1 1 Try.underlying24 hi8 hz80 hz81 hz82 (by rfl) (by decide) v0 p _ (by rfl) (R6H.out _ (by rfl)) ⟨wx.heap.size, 0, none⟩ 1 1 [U y] (by rfl) (by rfl) (World.news_of_block (cs := #[U y]) (t := 5) (fr := (0, 0)) (heap_alloc_new _ _)) ONE.out (by decide) PML.out PBY.out (Nat.zero_le _) (wx.heap.size + 1) (by simp) ?_; intro g7 cp7 w7 hown hgrow hat hgl; have FN := FIN.out _ (by exact ⟨rfl, rfl, rfl, Nat.le_refl _, fun _ _ _ => rfl⟩) (by rfl) g7 cp7 w7 hown hgrow hat; have k1 := FN.1.1; have k3 := FN.1.2; have F2 := Hid.intro FN.2; clear FN hown hgrow hat)
                    | (go_simp; refine (HVAL.out _ (by rfl)).mono ?_; rintro e6 w6 ⟨rfl, q6, rfl⟩; have ct5 : ((wx.drewN (1 + q6)).alloc (.cells #[U y] 5)).cell? ⟨mb, t, none⟩ = some v0 := ct2))
                all_goals (
                  go_wp2
                  go_roundw
                  case rel =>
                    obtain ⟨vs', f1, f2, f3, f4, f5, f6⟩ := F2.out
                    exact ⟨t + 1, vs', by omega, by go_num, f1, f2, f3, f4, f5, f6⟩
                  case measure => simp [intOf]; omega)
            · have hte : N = t := by omega
              subst hte
              have GN := GXH.out.congr (R' := shL K S text (p + 1)) (fun r hr => by rw [if_pos hr])
              have GNH := Hid.intro GN
              have n1 : ¬ (N : Int) < (N : Int) := by omega
              clear GN GXH
              go_wp2
              go_roundw
              case rel => exact ⟨p + 1, vs, by omega, by go_num, GNH.out, CXH.out, BXH.out⟩
              case measure => simp [intOf]; omega
    · have hpe : S = p := by omega
      subst hpe
      have p1 : ¬ (S : Int) < (S : Int) := by omega
      go_wp2
      go_ret2
      exact ⟨mb, N, rfl, ⟨vs, GPH.out⟩, BPH.out⟩

end Go.Proofs.Ytebjkbhidpdpfaa
