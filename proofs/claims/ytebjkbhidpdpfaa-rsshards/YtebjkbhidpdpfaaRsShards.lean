/- RsShards: whatever code and bytes come in, it returns true: the first shards of a text of up to 200 bytes are its bytes, and all shards are as long; no condition. -/
import Derived.Test.YtebjkbhidpdpfaaRsArg
import Derived.Test.YtebjkbhidpdpfaaRsAlive
import Derived.Test.YtebjkbhidpdpfaaRsLostP
import Derived.Test.YtebjkbhidpdpfaaRefSame
namespace Go.Proofs.Ytebjkbhidpdpfaa.LRsShards
open Go.ChangeShapes Go.WideShapes Go.ChangeAt Go.RowKit Go.Deep
open Bt

theorem shL_data {K S : Nat} {text : List Nat} (hl : text.length = K * S) {t : Nat} (ht : t < K) : text.take ((t + 1) * S) = text.take (t * S) ++ shL K S text S t := by
  have hle : (t + 1) * S ≤ K * S := Nat.mul_le_mul_right _ ht
  rw [Nat.succ_mul] at hle
  apply List.ext_getElem
  · rw [List.length_append, List.length_take, List.length_take, shL_length, Nat.succ_mul]; omega
  · intro j h1 h2
    rw [List.length_take, Nat.succ_mul] at h1
    rw [List.getElem_take]
    by_cases hj : j < t * S
    · rw [List.getElem_append_left (by rw [List.length_take]; omega), List.getElem_take]
    · rw [List.getElem_append_right (by rw [List.length_take]; omega)]
      simp only [shL, List.getElem_map, List.getElem_range, shB, if_pos ht, List.length_take]
      rw [show t * S + (j - min (t * S) text.length) = j from by omega, ← List.getElem_eq_getD (h := by omega) 0]

theorem walk_far (k n s : Int) (a : Option Addr) (len cap : Nat) (w : World) (hlen : len ≤ maxLen) (h : 200 < len) :
    Calls Try.prog 7 #[Cd k n s, .slice a len cap] w fun e w' => e = .returned (.bool true) ∧ Below w.heap.size w w' := by
  unfold maxLen at hlen
  have j : decide ((200 : Int) < (len : Int)) = true := by simp; omega
  go_enter Try.func7, Try.ntmps7
  go_wp2_with fail
  refine (alive_any _).mono ?_
  rintro e w1 ⟨rfl, B1⟩
  go_wp2
  go_ret
  exact ⟨rfl, ((Below.refl _ _).alloc (Nat.le_refl _) _).trans ((below_chg B1).below (by simp) (fun _ f => f.elim))⟩

set_option maxRecDepth 100000 in
set_option maxHeartbeats 2000000 in
theorem walk_near (k n s : Int) (a : Option Addr) (cap : Nat) (bs : List Nat) (w : World) (h2 : bs.length ≤ 200) (hn : Room a cap bs.length) (hY : Byt bs) (hr : Reads w a bs) :
    Calls Try.prog 7 #[Cd k n s, .slice a bs.length cap] w fun e w' => e = .returned (.bool true) ∧ Below w.heap.size w w' := by
  have HR := Hid.intro hr
  have HY := Hid.intro hY
  have HN := Hid.intro hn
  clear hr hY hn
  have hdec : decide ((200 : Int) < (bs.length : Int)) = false := by simp; omega
  go_enter Try.func7, Try.ntmps7
  go_wp2_with fail
  refine (alive_any _).mono ?_
  rintro e w1 ⟨rfl, B1⟩
  have b1 : w1.heap[w.heap.size]? = some (.cells #[.int .i64 k, .int .i64 n, .int .i64 s] 23 (0, 0)) := by
    rw [B1.block _ (by simp)]; exact heap_alloc_new w _
  have B1w : Below w.heap.size w w1 := ((Below.refl _ _).alloc (Nat.le_refl _) _).trans ((below_chg B1).below (by simp) (fun _ f => f.elim))
  have r1 := HR.out.below B1w
  have c0 : w1.cell? ⟨w.heap.size, 0, none⟩ = some (.int .i64 k) := by rw [cell_of_row _ _ 0 _ _ _ b1]; rfl
  have c1 : w1.cell? ⟨w.heap.size, 1, none⟩ = some (.int .i64 n) := by rw [cell_of_row _ _ 1 _ _ _ b1]; rfl
  have c2 : w1.cell? ⟨w.heap.size, 2, none⟩ = some (.int .i64 s) := by rw [cell_of_row _ _ 2 _ _ _ b1]; rfl
  have b1H := Hid.intro b1
  have B1H := Hid.intro B1w
  have r1H := Hid.intro r1
  clear b1 B1w r1 B1 HR
  go_wp2_with fail
  refine (rencode_any k n s a cap bs HY.out (by omega) w1 r1H.out HN.out).mono ?_
  rintro e w2 ⟨v2, rfl, S2, B2⟩
  clear c0 c1 c2
  have b2 := (B2.block _ (lt_of_heap b1H.out)).trans b1H.out
  have B2w := B1H.out.trans (B2.mono B1H.out.size)
  have r2 := r1H.out.below B2
  by_cases hE : encE k n s bs.length = 0
  · rw [hE]
    have eA : encA k n s bs = encL k.toNat n.toNat s.toNat bs := by unfold encA; rw [if_pos hE]
    rw [eA] at S2
    obtain ⟨hm, hl⟩ := encE_ok hE
    clear hE eA
    obtain ⟨h1, h2', h3, h4, h5, h6⟩ := mayC_true hm
    obtain ⟨K, rfl⟩ := Int.eq_ofNat_of_zero_le (show 0 ≤ k by omega)
    obtain ⟨N, rfl⟩ := Int.eq_ofNat_of_zero_le (show 0 ≤ n by omega)
    obtain ⟨S, rfl⟩ := Int.eq_ofNat_of_zero_le (show 0 ≤ s by omega)
    simp only [Int.toNat_natCast] at S2
    have hl' : bs.length = K * S := by rw [← Int.natCast_mul] at hl; omega
    rcases S2 with ⟨h0, _⟩ | ⟨mb, off, mc, A, C, rfl, S2⟩
    · have := congrArg List.length h0
      rw [encL_length] at this
      exact absurd this (by simp; omega)
    rw [encL_length]
    have hne : w.heap.size ≠ mb := by
      have := S2.newTop
      have := lt_of_heap b1H.out
      omega
    have hwm : w.heap.size ≤ mb := by
      have := S2.newTop
      have := lt_of_heap b1H.out
      omega
    have HL := Hid.intro hl'
    have S2H := Hid.intro S2
    have b2H := Hid.intro b2
    have B2H := Hid.intro B2w
    have r2H := Hid.intro r2
    clear S2 b2 B2w r2 B2 b1H B1H r1H hl hl' hm hdec hne hwm
    go_wp2_with fail
    go_loopw [7, 8] (fun bv iv ws => ∃ (t : Nat), t ≤ N ∧ iv = .int .i64 t ∧ ws.ownsRow 0 5 1 bv (bs.take (min t K * S)).length ((bs.take (min t K * S)).map U) ∧ (∀ k, bv.ownBlock = some k → w2.heap.size ≤ k) ∧ Below w2.heap.size w2 ws) (fun _ iv _ => N - (intOf iv).toNat)
    case atStart => exact ⟨0, by omega, rfl, by rw [Nat.zero_min, Nat.zero_mul]; exact World.ownsRow_nil _ _ _ _, nil_own _, Below.refl _ _⟩
    case round =>
      obtain ⟨t, ht, rfl, RB, NB, BX⟩ := hrel
      have bX := (BX.block _ (lt_of_heap b2H.out)).trans b2H.out
      have c0 : wr.cell? ⟨w.heap.size, 0, none⟩ = some (.int .i64 (K : Int)) := by rw [cell_of_row _ _ 0 _ _ _ bX]; rfl
      have c1 : wr.cell? ⟨w.heap.size, 1, none⟩ = some (.int .i64 (N : Int)) := by rw [cell_of_row _ _ 1 _ _ _ bX]; rfl
      have c2 : wr.cell? ⟨w.heap.size, 2, none⟩ = some (.int .i64 (S : Int)) := by rw [cell_of_row _ _ 2 _ _ _ bX]; rfl
      have RBH := Hid.intro RB
      have NBH := Hid.intro NB
      have BXH := Hid.intro BX
      by_cases htl : t < N
      · have t0 : (0 : Int) ≤ (t : Int) := by omega
        have t1 : (t : Int) < (N : Int) := by omega
        have SX := S2H.out.below BX
        have hlen : t < (encL K N S bs).length := by rw [encL_length]; exact htl
        have f0 := SX.cell t hlen
        rw [encL_row htl] at f0
        have rw0 := SX.row t hlen
        rw [encL_getD htl] at rw0
        have rcap := SX.cap t hlen
        have ss : ((S : Int) != (S : Int)) = false := by simp
        generalize A t = at0 at f0 rw0 rcap
        generalize C t = ct0 at f0 rcap
        have RWH := Hid.intro rw0
        have RCH := Hid.intro rcap
        clear RB NB BX bX SX hlen rw0 rcap
        by_cases htk : t < K
        · have k1 : (t : Int) < (K : Int) := by omega
          have em : min t K = t := by omega
          have em1 : min (t + 1) K = t + 1 := by omega
          rw [em] at RBH
          have TS := Hid.intro (shL_data HL.out htk)
          have hts : (bs.take (t * S)).length + (shL K S bs S t).length ≤ 1000000 := by rw [List.length_take, shL_length]; omega
          have SL := Hid.intro (shL_length K S bs S t)
          generalize shL K S bs S t = ys at RWH TS hts SL
          generalize bs.take (t * S) = xs at RBH TS hts
          have AOWN := Hid.intro (show ∀ X : World, X.heap = wr.heap → X.ownsRow 0 5 1 u7 xs.length (xs.map U) from fun X hX => ownsRow_keep RBH.out (fun k _ => by rw [hX]))
          have ARD := Hid.intro (show ∀ X : World, X.heap = wr.heap → Reads X at0 ys from fun X hX h0 => by
            obtain ⟨ad, ha, hc⟩ := RWH.out h0
            exact ⟨ad, ha, fun j u hu => (World.cell?_of_block (by rw [hX])).trans (hc j u hu)⟩)
          clear em
          go_wp2_with fail
          go_quiet (fail)
          go_wp2_with (at_builtin; refine append_bytes rfl _ _ rfl u7 xs rfl (AOWN.out _ (by rfl)) at0 S ct0 ys SL.out.symm rfl (ARD.out _ (by rfl)) RCH.out hts ?_)
          intro v3 w3 hown hgrow hat
          have C3 : Chg (fun k => u7.ownBlock = some k) wr w3 := ((Chg.refl _ wr).drewN nq).grown hgrow (fun k hk _ => hk)
          have B3 := BXH.out.trans (C3.below BXH.out.size (fun k hk => NBH.out k hk))
          have N3 : ∀ k, v3.ownBlock = some k → w2.heap.size ≤ k := by
            intro k hk
            rcases hat with h | h
            · exact NBH.out k (by rw [← h]; exact hk)
            · rw [hk] at h
              have e : k = wr.heap.size := by simpa using h
              have := BXH.out.size
              omega
          have R3 : w3.ownsRow 0 5 1 v3 (bs.take (min (t + 1) K * S)).length ((bs.take (min (t + 1) K * S)).map U) := by
            rw [em1, TS.out]; simpa using hown
          have R3H := Hid.intro R3
          have N3H := Hid.intro N3
          have B3H := Hid.intro B3
          clear hown hgrow hat C3 B3 N3 R3 AOWN ARD RBH NBH RWH RCH c0 c1 c2 f0
          go_wp2
          go_roundw
          case rel => exact ⟨t + 1, by omega, by go_num, R3H.out, N3H.out, B3H.out⟩
          case measure => simp [intOf]; omega
        · have k1 : ¬ (t : Int) < (K : Int) := by omega
          have em : min (t + 1) K = min t K := by omega
          have EMH := Hid.intro em
          clear em
          go_wp2_with fail
          go_quiet (fail)
          go_wp2
          go_roundw
          case rel => exact ⟨t + 1, by omega, by go_num, by rw [EMH.out]; exact RBH.out, NBH.out, belowN BXH.out _⟩
          case measure => simp [intOf]; omega
      · have hte : t = N := by omega
        subst hte
        have n1 : ¬ (t : Int) < (t : Int) := by omega
        have nn : ((t : Int) == (t : Int)) = true := by simp
        have eT : bs.take (min t K * S) = bs := by
          rw [show min t K = K from by omega, ← HL.out]; exact List.take_length
        rw [eT] at RB
        obtain ⟨a3, p3, rfl, R3, _⟩ := row_of_owns RB
        have r3 := r2H.out.below BX
        have S4 := Hid.intro (same_true a3 a p3 cap bs (by omega) wr R3 r3)
        have BW := B2H.out.trans (BX.mono B2H.out.size)
        have BWH := Hid.intro BW
        clear RB NB BX bX R3 r3 BW RBH NBH BXH eT
        go_wp2_with fail
        refine S4.out.mono ?_
        rintro e w5 ⟨rfl, q5, rfl⟩
        go_wp2
        go_ret
        exact ⟨rfl, belowN BWH.out q5⟩
  · have hj : (encE k n s bs.length != 0) = true := by rw [bne_iff_ne]; exact hE
    have eA : encA k n s bs = [] := by unfold encA; rw [if_neg hE]
    rw [eA] at S2
    obtain ⟨a2, p2, rfl⟩ : ∃ a2 p2, v2 = .slice a2 0 p2 := by
      rcases S2 with ⟨_, ao, cp, e, _⟩ | ⟨mb, off, mc, A', C', e, h⟩
      · exact ⟨ao, cp, e⟩
      · exact ⟨_, _, e⟩
    generalize encE k n s bs.length = E at hj ⊢
    clear S2 eA hE b2 r2
    go_wp2
    go_ret
    exact ⟨rfl, B2w⟩

theorem walk (k n s : Int) (a : Option Addr) (len cap : Nat) (zs : List Int) (w : World) (_ : (Lit.int .i64 k).wf = true ∧ (Lit.int .i64 n).wf = true ∧ (Lit.int .i64 s).wf = true) (hz : IsRow .u8 w a len cap zs) :
    Calls Try.prog 7 #[.agg #[.int .i64 k, .int .i64 n, .int .i64 s], .slice a len cap] w fun e w' => e = .returned (.bool true) ∧ Below w.heap.size w w' := by
  by_cases h : 200 < len
  · exact walk_far k n s a len cap w hz.len h
  · obtain ⟨bs, rfl, h1, h2⟩ := hz.bytes
    exact walk_near k n s a cap bs w (by omega) hz.room h1 h2

set_option maxRecDepth 100000 in
theorem lifted (os : Os) (started : os.Started) (H : Type) (enc : TypeId × Value → H) :
    ReturnsInHanded {} Try.checked os 7 .any (Rows.rsShardsSpec.pre6 enc Try.prog Try.f7 Rows.rsShardsRow.domain false) (Rows.rsShardsSpec.post enc Try.prog Try.f7 false true false false) := by
  refine returnsInHanded_of_change (C := Try.checked) own started (by kernel_rfl) Try.func7
    (ChangeSpec.witness6 (enc := enc) (C := Try.checked) false ⟨#[], #[.agg #[.int .i64 0, .int .i64 0, .int .i64 0], .slice none 0 0], []⟩ 8 (by kernel_rfl) (by kernel_rfl) (by kernel_rfl) (by kernel_rfl)) ?_
  intro W base args ds gs before hval0 hW hcnd _
  have hval : ∀ (j : Nat) t v, Try.f7.params[j]? = some t → args[j]? = some v → Value.okWide Try.prog W .any base t v := hval0
  have hW' := hW
  obtain ⟨p, q, hA0, hV, rfl, hfz, hnd⟩ := hW
  have hA : DataW.TrodAll enc Try.prog W 0 (fun _ => true) true Try.f7.params.toList args.toList ds p := hA0
  rw [Try.params7] at hA hval
  obtain ⟨v0, vs0, d0, ds0, p0, q0, hargs, rfl, rfl, h0, r0⟩ := trodAll_cons hA
  obtain ⟨v1, vs1, d1, ds1, p1, q1, rfl, rfl, rfl, h1, r1⟩ := trodAll_cons r0
  obtain ⟨rfl, rfl, rfl⟩ := trodAll_nil r1
  obtain rfl : args = #[v0, v1] := by cases args; simp_all
  obtain ⟨rfl, rfl⟩ := trodVars_none hV
  have k0 := h0
  have lt0 : ∀ x ∈ p0, x.block < W.heap.size := by obtain ⟨m, hm⟩ := k0; exact DataW.trod_lt m _ _ _ hm
  obtain ⟨kc0, nc0, sc0, rfl, w0⟩ := open_code (hval 0 23 v0 rfl rfl) h0
  obtain ⟨a1, len1, cap1, rfl⟩ := okWide_slice Try.underlying24 (hval 1 24 v1 rfl rfl)
  have k1 := h1
  have lt1 : ∀ x ∈ p1, x.block < W.heap.size := by obtain ⟨m, hm⟩ := k1; exact DataW.trod_lt m _ _ _ hm
  obtain ⟨z1, w1⟩ : ∃ zs, IsRow .u8 W a1 len1 cap1 zs := by
    obtain ⟨fuel, hf⟩ := h1
    rcases open_ints Try.underlying24 Try.underlying5 (by kernel_rfl) hf with ⟨hcs, _⟩ | ⟨x, l, c, zs, hcs, _, hl, hm, hz, _, hcell, hwz⟩
    · simp [Value.cells] at hcs
      obtain ⟨rfl, rfl, rfl⟩ := hcs
      exact ⟨[], .inl ⟨rfl, rfl, rfl, rfl⟩⟩
    · simp [Value.cells] at hcs
      obtain ⟨rfl, rfl, rfl⟩ := hcs
      exact ⟨zs, .inr ⟨_, rfl, hl, hm, by simpa using hz, hcell, hwz⟩⟩
  clear hA0 hval0
  refine (walk kc0 nc0 sc0 a1 len1 cap1 z1 W w0 w1).mono fun e W' ⟨he, bel⟩ => ?_
  subst he
  exact ⟨_, rfl, _, _, _, [], _, [], hW', trodAll_mk1 (shut_bool Try.underlying4 _), (trodAll_cons_mk (Below.trod laidOut (by kernel_rfl) (of_decide_eq_true (by kernel_rfl)) k0 bel lt0) (trodAll_cons_mk (Below.trod laidOut (by kernel_rfl) (of_decide_eq_true (by kernel_rfl)) k1 bel lt1) trodAll_mk0)), rfl, bel.frame _, fun h => by cases h⟩

theorem over : Rows.rsShardsRow.holds Try.pinned (OpenSpec.ofChange Rows.rsShardsSpec) :=
  OpenClaim.holds_of_wide 7 Try.f7 rfl rfl rfl rfl rfl rfl rfl ⟨rfl, rfl, rfl, rfl, rfl⟩ rfl rfl rfl rfl rfl (by kernel_rfl) Try.func7 (by kernel_rfl)
    (of_decide_eq_true (by kernel_rfl)) (by unfold Func.isWrapper; first | (rw [if_pos (by decide +kernel)]; kernel_rfl) | (rw [if_neg (by decide +kernel)]; exact ⟨rfl, rfl⟩))
    (fun os started H enc _ => lifted os started H enc)

end Go.Proofs.Ytebjkbhidpdpfaa.LRsShards

namespace Go.Proofs.Ytebjkbhidpdpfaa
theorem rsShards_holds : Rows.RsShardsSaid := LRsShards.over
#print axioms rsShards_holds
end Go.Proofs.Ytebjkbhidpdpfaa
