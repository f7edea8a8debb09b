/- RsAgain: whatever code, bytes and number come in, it returns true: what is decoded of a text's shards (of up to 200 bytes), of which some are lost, is encoded as all shards again; no condition. -/
import Derived.Test.YtebjkbhidpdpfabRsArg
import Derived.Test.YtebjkbhidpdpfabRsAlive
import Derived.Test.YtebjkbhidpdpfabRsLostP
namespace Go.Proofs.Ytebjkbhidpdpfab.LRsAgain
open Go.ChangeShapes Go.WideShapes Go.ChangeAt Go.RowKit Go.Deep
open Bt

theorem info_rowA : (Try.prog.info? 24).map (fun i => (i.zero, i.size, i.bytes)) = some (some (.slice none 0 0), 1, 24) := by kernel_rfl

/-- The row of '[][]byte{}'. -/
theorem empty_rows (w : World) : (w.alloc (.cells #[] 24)).ownsRow 0 24 1 (.slice (some ⟨w.heap.size, 0, none⟩) 0 0) 0 [] :=
  ⟨rfl, .inr ⟨w.heap.size, 0, #[], rfl, Nat.zero_le _, heap_alloc_new _ _, Nat.le_refl _, Nat.zero_le _, rfl, rfl⟩⟩

/-- A list's rows as values. -/
def vals (A : Nat → Option Addr) (C : Nat → Nat) (L : List (List Nat)) : List Value := (List.range L.length).map (fun r => .slice (A r) (L.getD r []).length (C r))

theorem vals_news {B : Nat} {w : World} {mb off : Nat} {A : Nat → Option Addr} {C : Nat → Nat} {L : List (List Nat)} (h : ShsAt B w mb off A C L) : ∀ j u, (vals A C L)[j]? = some u → w.cell? ((⟨mb, off, none⟩ : Addr).add j) = some u := by
  intro j u hu
  obtain ⟨hj, hu⟩ := List.getElem?_eq_some_iff.1 hu
  have hj' : j < L.length := by simpa [vals] using hj
  have e : (⟨mb, off, none⟩ : Addr).add j = ⟨mb, off + j, none⟩ := by unfold Addr.add; split <;> simp_all
  rw [e, h.cell j hj', ← hu]
  simp [vals]

/-- A copy of a list: its rows are shared, its places are not. -/
theorem copy_shs {B B' : Nat} {w w' : World} {mb off g cp : Nat} {A : Nat → Option Addr} {C : Nat → Nat} {L : List (List Nat)} (h : ShsAt B w mb off A C L) (hb : Below w.heap.size w w')
    (ho : w'.ownsRow 0 24 1 (.slice (some ⟨g, 0, none⟩) L.length cp) L.length (vals A C L)) (hg : w.heap.size ≤ g) (hB : B' ≤ g) (hBB : B' ≤ B) (hr : ∀ r ad, r < L.length → A r = some ad → ad.block < w.heap.size) : ShsAt B' w' g 0 A C L := by
  refine ⟨fun r hl => ?_, fun r hl => ?_, fun r hl => (h.row r hl).below hb, h.cap, h.lenCap, hB, ownsRow_lt ho rfl, fun r ad hl ha => ?_⟩
  · rw [Nat.zero_add, ho.cellAt r (by omega)]
    simp [vals, hl]
  · rw [Nat.zero_add]; exact ho.frozenAt r
  · have h1 := h.newRow r ad hl ha
    have h2 := hr r ad hl ha
    exact ⟨by omega, by omega⟩

theorem row_lt {w : World} {a : Option Addr} {bs : List Nat} (h : Reads w a bs) (h0 : 0 < bs.length) {ad : Addr} (ha : a = some ad) : ad.block < w.heap.size := by
  obtain ⟨ad', e, hc⟩ := h h0
  rw [ha] at e
  cases e
  have h1 := hc 0 (U bs[0]) (by simp [h0])
  have := cell_lt h1
  rwa [add_block] at this

theorem walk_far (k n s : Int) (a : Option Addr) (len cap : Nat) (q : Int) (w : World) (hlen : len ≤ maxLen) (h : 200 < len) :
    Calls Try.prog 3 #[Cd k n s, .slice a len cap, .int .u16 q] w fun e w' => e = .returned (.bool true) ∧ Below w.heap.size w w' := by
  unfold maxLen at hlen
  have j : decide ((200 : Int) < (len : Int)) = true := by simp; omega
  go_enter Try.func3, Try.ntmps3
  go_wp2_with fail
  refine (alive_any _).mono ?_
  rintro e w1 ⟨rfl, B1⟩
  go_wp2
  go_ret
  exact ⟨rfl, ((Below.refl _ _).alloc (Nat.le_refl _) _).trans ((below_chg B1).below (by simp) (fun _ f => f.elim))⟩

set_option maxRecDepth 100000 in
set_option maxHeartbeats 2000000 in
theorem walk_near (k n s : Int) (a : Option Addr) (cap : Nat) (bs : List Nat) (q : Nat) (hq : q < 65536) (w : World) (h2 : bs.length ≤ 200) (hn : Room a cap bs.length) (hY : Byt bs) (hr : Reads w a bs) :
    Calls Try.prog 3 #[Cd k n s, .slice a bs.length cap, .int .u16 (q : Int)] w fun e w' => e = .returned (.bool true) ∧ Below w.heap.size w w' := by
  have HR := Hid.intro hr
  have HY := Hid.intro hY
  have HN := Hid.intro hn
  clear hr hY hn
  have hdec : decide ((200 : Int) < (bs.length : Int)) = false := by simp; omega
  go_enter Try.func3, Try.ntmps3
  go_wp2_with fail
  refine (alive_any _).mono ?_
  rintro e w1 ⟨rfl, B1⟩
  have b1 : w1.heap[w.heap.size]? = some (.cells #[.int .i64 k, .int .i64 n, .int .i64 s] 23 (0, 0)) := by
    rw [B1.block _ (by simp)]; exact heap_alloc_new w _
  have B1w : Below w.heap.size w w1 := ((Below.refl _ _).alloc (Nat.le_refl _) _).trans ((below_chg B1).below (by simp) (fun _ f => f.elim))
  have r1 := HR.out.below B1w
  have c0 : w1.cell? ⟨w.heap.size, 0, none⟩ = some (.int .i64 k) := by rw [cell_of_row _ _ 0 _ _ _ b1]; rfl
  have c1 : w1.cell? ⟨w.heap.size, 1, none⟩ = some (.int .i64 n) := by rw [cell_of_row _ _ 1 _ _ _ b1]; rfl
  have c2 : w1.cell? ⟨w.heap.size, 2, none⟩ = some (.int .i64 s) := by rw [cell_of_row _ _ 2 _ _ _ b1]; rfl
  have b1H := Hid.intro b1
  have B1H := Hid.intro B1w
  have r1H := Hid.intro r1
  clear b1 B1w r1 B1 HR
  go_wp2_with fail
  refine (rencode_any k n s a cap bs HY.out (by omega) w1 r1H.out HN.out).mono ?_
  rintro e w2 ⟨v2, rfl, S2, B2⟩
  clear c0 c1 c2
  have b2 := (B2.block _ (lt_of_heap b1H.out)).trans b1H.out
  have B2w := B1H.out.trans (B2.mono B1H.out.size)
  have r2 := r1H.out.below B2
  by_cases hE : encE k n s bs.length = 0
  · rw [hE]
    have eA : encA k n s bs = encL k.toNat n.toNat s.toNat bs := by unfold encA; rw [if_pos hE]
    rw [eA] at S2
    obtain ⟨hm, hl⟩ := encE_ok hE
    clear hE eA
    obtain ⟨h1, h2', h3, h4, h5, h6⟩ := mayC_true hm
    obtain ⟨K, rfl⟩ := Int.eq_ofNat_of_zero_le (show 0 ≤ k by omega)
    obtain ⟨N, rfl⟩ := Int.eq_ofNat_of_zero_le (show 0 ≤ n by omega)
    obtain ⟨S, rfl⟩ := Int.eq_ofNat_of_zero_le (show 0 ≤ s by omega)
    simp only [Int.toNat_natCast] at S2
    have hl' : bs.length = K * S := by rw [← Int.natCast_mul] at hl; omega
    rcases S2 with ⟨h0, _⟩ | ⟨mb, off, mc, A, C, rfl, S2⟩
    · have := congrArg List.length h0
      rw [encL_length] at this
      exact absurd this (by simp; omega)
    rw [encL_length]
    have hne : w.heap.size ≠ mb := by
      have := S2.newTop
      have := lt_of_heap b1H.out
      omega
    have hwm : w.heap.size ≤ mb := by
      have := S2.newTop
      have := lt_of_heap b1H.out
      omega
    obtain ⟨iR, hiR, hzR0, hzR1, hzR2⟩ := info_parts info_rowA
    have HL := Hid.intro hl'
    have HMAY := Hid.intro hm
    have S2H := Hid.intro S2
    have b2H := Hid.intro b2
    have B2H := Hid.intro B2w
    have E2 := Hid.intro (empty_rows w2)
    have A2 : Below w2.heap.size w2 (w2.alloc (.cells #[] 24)) := (Below.refl _ _).alloc (Nat.le_refl _) _
    have NW := Hid.intro (vals_news (S2.below A2))
    have VL := Hid.intro (show (vals A C (encL K N S bs)).length = N * 1 by simp [vals, encL_length])
    have V1 := Hid.intro (show ∀ u ∈ vals A C (encL K N S bs), u.oneCell' = true from fun u hu => by
      obtain ⟨r, _, rfl⟩ := List.mem_map.1 hu
      rfl)
    have N0 : 0 < N := by omega
    have N1 : N ≤ 10 := by omega
    clear S2 b2 B2w r2 B2 b1H B1H r1H hl hl' hm hdec A2
    go_wp2_with (at_builtin; refine wpList_append_lies _ rfl _ _ 27 rfl 0 24 iR (.slice none 0 0) 1 24 Try.underlying27 hiR hzR0 hzR1 hzR2 rfl (by decide) _ 0 [] rfl E2.out ⟨mb, off, none⟩ N mc (vals A C (encL K N S bs)) rfl VL.out NW.out V1.out N0 (by unfold maxLen; omega) (by omega) (Nat.zero_le _) (w2.heap.size + 1) (by simp) ?_)
    intro g cp w3 hown hgrow hat hgl
    have B3 : Below w2.heap.size w2 w3 := (((Chg.refl (fun _ => False) w2).alloc _).grown hgrow (fun q hq hlt => by
      have e : w2.heap.size = q := by simpa [Value.ownBlock] using hq
      omega)).below (Nat.le_refl _) (fun _ f => f.elim)
    have hg : w2.heap.size ≤ g := by
      rcases hat with h | h
      · have e : w2.heap.size = g := by simpa [Value.ownBlock] using h
        omega
      · omega
    have M3 : ShsAt w1.heap.size w3 g 0 A C (encL K N S bs) := by
      refine copy_shs S2H.out B3 (by rw [encL_length]; exact hown) hg (Nat.le_trans S2H.out.newTop (by have := S2H.out.ltTop; omega)) (Nat.le_refl _) (fun r ad hr ha => ?_)
      refine row_lt (S2H.out.row r hr) ?_ ha
      rw [encL_length] at hr
      rw [encL_row hr]; omega
    have L3 := S2H.out.below B3
    have b3 := (B3.block _ (lt_of_heap b2H.out)).trans b2H.out
    have B3w := B2H.out.trans (B3.mono B2H.out.size)
    have hne2 : w.heap.size ≠ g := by
      have := lt_of_heap b2H.out
      omega
    have hwg : w.heap.size ≤ g := Nat.le_trans B2H.out.size hg
    have hmg : mb ≠ g := by
      have := S2H.out.ltTop
      omega
    have rowg : ∀ r ad, r < (encL K N S bs).length → A r = some ad → ad.block ≠ g := fun r ad hr ha => (M3.newRow r ad hr ha).2
    have M3H := Hid.intro M3
    have L3H := Hid.intro L3
    have b3H := Hid.intro b3
    have B3H := Hid.intro B3w
    have RG := Hid.intro rowg
    clear M3 L3 b3 B3w B3 rowg hown hgrow hat S2H b2H B2H E2 NW VL V1 hg hne hwm
    go_wp2_with fail
    go_loopw [10] (fun iv ws => ∃ (t : Nat) (A' : Nat → Option Addr) (C' : Nat → Nat), t ≤ N ∧ iv = .int .i64 t ∧ ShsAt w1.heap.size ws g 0 A' C' (lostT q (encL K N S bs) t) ∧ Chg (fun k => k = g) w3 ws) (fun iv _ => N - (intOf iv).toNat)
    case atStart => exact ⟨0, A, C, by omega, rfl, M3H.out, Chg.refl _ _⟩
    case round =>
      clear M3H
      obtain ⟨t, A', C', ht, rfl, SX, CX⟩ := hrel
      by_cases htl : t < N
      · have t0 : (0 : Int) ≤ (t : Int) := by omega
        have t1 : (t : Int) < (N : Int) := by omega
        have hlen : t < (lostT q (encL K N S bs) t).length := by rw [lostT_length, encL_length]; exact htl
        have f0 := SX.cell t hlen
        have f1 := SX.frozen t hlen
        rw [Nat.zero_add] at f0 f1
        have hbit := u16_bit q t hq
        by_cases hb : q / 2 ^ t % 2 = 1
        · rw [decide_eq_true hb] at hbit
          have SN := SX.lost hlen
          have eL : lostT q (encL K N S bs) (t + 1) = (lostT q (encL K N S bs) t).set t [] := by rw [lostT, if_pos hb]
          rw [← eL, Nat.zero_add] at SN
          have CN : Chg (fun k => k = g) w3 (wr.setCell ⟨g, t, none⟩ (.slice none 0 0)) := CX.setCell (p := ⟨g, t, none⟩) (fun _ => rfl) _
          have SNH := Hid.intro SN
          have CNH := Hid.intro CN
          clear SX CX SN CN eL hlen
          generalize ((lostT q (encL K N S bs) t).getD t []).length = m at f0
          go_wp2
          go_roundw
          case rel => exact ⟨t + 1, _, _, by omega, by go_num, SNH.out, CNH.out⟩
          case measure => simp [intOf]; omega
        · rw [decide_eq_false hb] at hbit
          have eL : lostT q (encL K N S bs) (t + 1) = lostT q (encL K N S bs) t := by rw [lostT, if_neg hb]
          rw [← eL] at SX
          have SNH := Hid.intro SX
          have CNH := Hid.intro CX
          clear SX CX eL hlen f0 f1
          go_wp2
          go_roundw
          case rel => exact ⟨t + 1, _, _, by omega, by go_num, SNH.out, CNH.out⟩
          case measure => simp [intOf]; omega
      · have hte : t = N := by omega
        subst hte
        have n1 : ¬ (t : Int) < (t : Int) := by omega
        have bX := (CX.block _ (lt_of_heap b3H.out) hne2).trans b3H.out
        have BX := B3H.out.trans (CX.below B3H.out.size (fun k e => by rw [e]; exact hwg))
        have LX : ShsAt w1.heap.size wr mb off A C (encL K t S bs) := L3H.out.kept CX (fun r hl => frozen_block (CX.block _ (cell_lt (L3H.out.cell r hl)) hmg)) hmg (fun r ad hr ha => RG.out r ad hr ha)
        have c0 : wr.cell? ⟨w.heap.size, 0, none⟩ = some (.int .i64 (K : Int)) := by rw [cell_of_row _ _ 0 _ _ _ bX]; rfl
        have c1 : wr.cell? ⟨w.heap.size, 1, none⟩ = some (.int .i64 (t : Int)) := by rw [cell_of_row _ _ 1 _ _ _ bX]; rfl
        have c2 : wr.cell? ⟨w.heap.size, 2, none⟩ = some (.int .i64 (S : Int)) := by rw [cell_of_row _ _ 2 _ _ _ bX]; rfl
        have hM : ∀ r, ((lostT q (encL K t S bs) t).getD r []).length ≤ 300 := fun r => by
          rw [lostT_getD]
          split
          · exact Nat.zero_le _
          · by_cases hr : r < t
            · rw [encL_row hr]; omega
            · rw [List.getD_eq_getElem?_getD, List.getElem?_eq_none (by rw [encL_length]; omega)]; exact Nat.zero_le _
        have hLL : (lostT q (encL K t S bs) t).length = t := by rw [lostT_length, encL_length]
        have D := rdecode_any K t S (some ⟨g, 0, none⟩) cp (lostT q (encL K t S bs) t) (lost_bytL (encL_bytL (by omega) (by omega) HY.out) t) (by rw [hLL]; omega) hM wr SX.reads
        rw [hLL, lost_E HMAY.out q] at D
        have hT := lost_T HMAY.out HY.out HL.out q
        have bXH := Hid.intro bX
        have BXH := Hid.intro BX
        have LXH := Hid.intro LX
        have DH := Hid.intro D
        have HT := Hid.intro hT
        clear bX BX LX D hT hM hLL SX CX b3H B3H L3H RG
        generalize cntT q t = ct at DH HT
        go_wp2_with fail
        refine DH.out.mono ?_
        rintro e w4 ⟨v4, rfl, R4, B4⟩
        have b4 := (B4.block _ (lt_of_heap bXH.out)).trans bXH.out
        have B4w := BXH.out.trans (B4.mono BXH.out.size)
        have L4 := LXH.out.below B4
        clear c0 c1 c2 DH bXH BXH LXH B4
        by_cases hck : K ≤ ct
        · rw [if_pos hck]
          rw [HT.out hck] at R4
          obtain ⟨a4, p4, rfl, R4, N4, _⟩ := R4
          have c0 : w4.cell? ⟨w.heap.size, 0, none⟩ = some (.int .i64 (K : Int)) := by rw [cell_of_row _ _ 0 _ _ _ b4]; rfl
          have c1 : w4.cell? ⟨w.heap.size, 1, none⟩ = some (.int .i64 (t : Int)) := by rw [cell_of_row _ _ 1 _ _ _ b4]; rfl
          have c2 : w4.cell? ⟨w.heap.size, 2, none⟩ = some (.int .i64 (S : Int)) := by rw [cell_of_row _ _ 2 _ _ _ b4]; rfl
          have EN := rencode_any K t S a4 p4 bs HY.out (by omega) w4 R4 N4
          have e0 : encE K t S bs.length = 0 := by unfold encE; rw [if_pos HMAY.out, HL.out, if_pos (by rw [Int.natCast_mul])]
          have eA : encA K t S bs = encL K t S bs := by unfold encA; rw [e0, if_pos rfl]; rfl
          rw [eA] at EN
          have ENH := Hid.intro EN
          have B4H := Hid.intro B4w
          have L4H := Hid.intro L4
          clear b4 B4w L4 R4 EN e0 eA N4
          go_wp2_with fail
          refine ENH.out.mono ?_
          rintro e w5 ⟨v5, rfl, S5, B5⟩
          have B5w := B4H.out.trans (B5.mono B4H.out.size)
          obtain ⟨a5, p5, rfl, R5⟩ : ∃ a5 p5, v5 = .slice a5 t p5 ∧ ReadsL w5 a5 (encL K t S bs) := by
            rcases S5 with ⟨h0, _⟩ | ⟨mb', off', mc', A5, C5, rfl, h⟩
            · have := congrArg List.length h0
              rw [encL_length] at this
              exact absurd this (by simp; omega)
            · exact ⟨_, _, by rw [encL_length], h.reads⟩
          have LS := refLists_true (some ⟨mb, off, none⟩) a5 mc p5 (encL K t S bs) (by rw [encL_length]; omega) w5 (L4H.out.below B5).reads R5
          rw [encL_length] at LS
          have LSH := Hid.intro LS
          have B5H := Hid.intro B5w
          clear S5 B5 B5w R5 LS ENH B4H L4H c0 c1 c2
          go_wp2_with fail
          refine LSH.out.mono ?_
          rintro e w6 ⟨rfl, B6⟩
          have B6w := B5H.out.trans (B6.mono B5H.out.size)
          clear B6 LSH B5H
          go_wp2
          go_ret
          exact ⟨rfl, B6w⟩
        · rw [if_neg hck]
          obtain ⟨a4, p4, rfl, _⟩ := R4
          clear b4 L4
          go_wp2
          go_ret
          exact ⟨rfl, B4w⟩
  · have hj : (encE k n s bs.length != 0) = true := by rw [bne_iff_ne]; exact hE
    have eA : encA k n s bs = [] := by unfold encA; rw [if_neg hE]
    rw [eA] at S2
    obtain ⟨a2, p2, rfl⟩ : ∃ a2 p2, v2 = .slice a2 0 p2 := by
      rcases S2 with ⟨_, ao, cp, e, _⟩ | ⟨mb, off, mc, A', C', e, h⟩
      · exact ⟨ao, cp, e⟩
      · exact ⟨_, _, e⟩
    generalize encE k n s bs.length = E at hj ⊢
    clear S2 eA hE b2 r2
    go_wp2
    go_ret
    exact ⟨rfl, B2w⟩

theorem walk (k n s : Int) (a : Option Addr) (len cap : Nat) (zs : List Int) (q : Int) (w : World) (_ : (Lit.int .i64 k).wf = true ∧ (Lit.int .i64 n).wf = true ∧ (Lit.int .i64 s).wf = true) (hz : IsRow .u8 w a len cap zs) (hq : (Lit.int .u16 q).wf = true) :
    Calls Try.prog 3 #[.agg #[.int .i64 k, .int .i64 n, .int .i64 s], .slice a len cap, .int .u16 q] w fun e w' => e = .returned (.bool true) ∧ Below w.heap.size w w' := by
  by_cases h : 200 < len
  · exact walk_far k n s a len cap q w hz.len h
  · obtain ⟨bs, rfl, h1, h2⟩ := hz.bytes
    have hb := bounds_u16 hq
    obtain ⟨Q, rfl⟩ := Int.eq_ofNat_of_zero_le hb.1
    exact walk_near k n s a cap bs Q (by omega) w (by omega) hz.room h1 h2

set_option maxRecDepth 100000 in
theorem lifted (os : Os) (started : os.Started) (H : Type) (enc : TypeId × Value → H) :
    ReturnsInHanded {} Try.checked os 3 .any (Rows.rsAgainSpec.pre6 enc Try.prog Try.f3 Rows.rsAgainRow.domain false) (Rows.rsAgainSpec.post enc Try.prog Try.f3 false true false false) := by
  refine returnsInHanded_of_change (C := Try.checked) own started (by kernel_rfl) Try.func3
    (ChangeSpec.witness6 (enc := enc) (C := Try.checked) false ⟨#[], #[.agg #[.int .i64 0, .int .i64 0, .int .i64 0], .slice none 0 0, .int .u16 0], []⟩ 8 (by kernel_rfl) (by kernel_rfl) (by kernel_rfl) (by kernel_rfl)) ?_
  intro W base args ds gs before hval0 hW hcnd _
  have hval : ∀ (j : Nat) t v, Try.f3.params[j]? = some t → args[j]? = some v → Value.okWide Try.prog W .any base t v := hval0
  have hW' := hW
  obtain ⟨p, q, hA0, hV, rfl, hfz, hnd⟩ := hW
  have hA : DataW.TrodAll enc Try.prog W 0 (fun _ => true) true Try.f3.params.toList args.toList ds p := hA0
  rw [Try.params3] at hA hval
  obtain ⟨v0, vs0, d0, ds0, p0, q0, hargs, rfl, rfl, h0, r0⟩ := trodAll_cons hA
  obtain ⟨v1, vs1, d1, ds1, p1, q1, rfl, rfl, rfl, h1, r1⟩ := trodAll_cons r0
  obtain ⟨v2, vs2, d2, ds2, p2, q2, rfl, rfl, rfl, h2, r2⟩ := trodAll_cons r1
  obtain ⟨rfl, rfl, rfl⟩ := trodAll_nil r2
  obtain rfl : args = #[v0, v1, v2] := by cases args; simp_all
  obtain ⟨rfl, rfl⟩ := trodVars_none hV
  have k0 := h0
  have lt0 : ∀ x ∈ p0, x.block < W.heap.size := by obtain ⟨m, hm⟩ := k0; exact DataW.trod_lt m _ _ _ hm
  obtain ⟨kc0, nc0, sc0, rfl, w0⟩ := open_code (hval 0 23 v0 rfl rfl) h0
  obtain ⟨a1, len1, cap1, rfl⟩ := okWide_slice Try.underlying24 (hval 1 24 v1 rfl rfl)
  have k1 := h1
  have lt1 : ∀ x ∈ p1, x.block < W.heap.size := by obtain ⟨m, hm⟩ := k1; exact DataW.trod_lt m _ _ _ hm
  obtain ⟨z1, w1⟩ : ∃ zs, IsRow .u8 W a1 len1 cap1 zs := by
    obtain ⟨fuel, hf⟩ := h1
    rcases open_ints Try.underlying24 Try.underlying5 (by kernel_rfl) hf with ⟨hcs, _⟩ | ⟨x, l, c, zs, hcs, _, hl, hm, hz, _, hcell, hwz⟩
    · simp [Value.cells] at hcs
      obtain ⟨rfl, rfl, rfl⟩ := hcs
      exact ⟨[], .inl ⟨rfl, rfl, rfl, rfl⟩⟩
    · simp [Value.cells] at hcs
      obtain ⟨rfl, rfl, rfl⟩ := hcs
      exact ⟨zs, .inr ⟨_, rfl, hl, hm, by simpa using hz, hcell, hwz⟩⟩
  obtain ⟨a2, rfl, rfl, rfl, w2⟩ := open_int Try.underlying25 (hval 2 25 v2 rfl rfl) h2
  clear hA0 hval0
  refine (walk kc0 nc0 sc0 a1 len1 cap1 z1 a2 W w0 w1 w2).mono fun e W' ⟨he, bel⟩ => ?_
  subst he
  exact ⟨_, rfl, _, _, _, [], _, [], hW', trodAll_mk1 (shut_bool Try.underlying4 _), (trodAll_cons_mk (Below.trod laidOut (by kernel_rfl) (of_decide_eq_true (by kernel_rfl)) k0 bel lt0) (trodAll_cons_mk (Below.trod laidOut (by kernel_rfl) (of_decide_eq_true (by kernel_rfl)) k1 bel lt1) (trodAll_cons_mk (shut_int Try.underlying25 w2) trodAll_mk0))), rfl, bel.frame _, fun h => by cases h⟩

theorem over : Rows.rsAgainRow.holds Try.pinned (OpenSpec.ofChange Rows.rsAgainSpec) :=
  OpenClaim.holds_of_wide 3 Try.f3 rfl rfl rfl rfl rfl rfl rfl ⟨rfl, rfl, rfl, rfl, rfl⟩ rfl rfl rfl rfl rfl (by kernel_rfl) Try.func3 (by kernel_rfl)
    (of_decide_eq_true (by kernel_rfl)) (by unfold Func.isWrapper; first | (rw [if_pos (by decide +kernel)]; kernel_rfl) | (rw [if_neg (by decide +kernel)]; exact ⟨rfl, rfl⟩))
    (fun os started H enc _ => lifted os started H enc)

end Go.Proofs.Ytebjkbhidpdpfab.LRsAgain

namespace Go.Proofs.Ytebjkbhidpdpfab
theorem rsAgain_holds : Rows.RsAgainSaid := LRsAgain.over
#print axioms rsAgain_holds
end Go.Proofs.Ytebjkbhidpdpfab
