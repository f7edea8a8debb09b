/- Contracts of the document's own CRC-16, CRC-32, Number and Read. -/
import Derived.Test.YtaieohnppeapfaaDoorRefTwo
namespace Go.Proofs.YtaieohnppeapfaaDoor
open Go.RowKit
open Bt

/-- Bits of whatever bytes. -/
theorem bits_read (a : Option Addr) (cap : Nat) (bs : List Nat) (h2 : bs.length ≤ 300) (h256 : ∀ b ∈ bs, b < 256) (w : World) (hr : Reads w a bs) :
    Calls Tryd.prog 40 #[.slice a bs.length cap] w fun e w' => ∃ ao ca, e = .returned (.slice ao (unpack bs).length ca) ∧ ReadsI w' ao (unpack bs) ∧ Below w.heap.size w w' := by
  by_cases h0 : bs.length = 0
  · obtain rfl : bs = [] := List.eq_nil_of_length_eq_zero h0
    refine (bits_zero a cap w).mono ?_
    rintro e w' ⟨rfl, rfl⟩
    exact ⟨none, 0, rfl, fun h => absurd h (by simp [unpack]), Below.refl _ _⟩
  · obtain ⟨bb, off, rfl, hc⟩ := reads_at hr (by omega)
    refine (bits_pos bb off cap bs (by omega) (by omega) h256 w hc).mono ?_
    rintro e w' ⟨v, rfl, R, _, B⟩
    obtain ⟨ao, ca, rfl, hr'⟩ := owns_readsI R
    exact ⟨ao, ca, rfl, hr', B⟩

set_option maxHeartbeats 1000000 in
theorem refShort_any (a : Option Addr) (cap : Nat) (bs : List Nat) (h2 : bs.length ≤ 300) (h256 : ∀ b ∈ bs, b < 256) (w : World) (hr : Reads w a bs) :
    Calls Tryd.prog 26 #[.slice a bs.length cap] w fun e w' => e = .returned (.int .i64 ((crc16 bs : Nat) : Int)) ∧ Below w.heap.size w w' := by
  have HR := Hid.intro hr
  have H256 := Hid.intro h256
  clear hr h256
  go_enter Tryd.func26, Tryd.ntmps26
  go_wp2_with fail
  refine (field_t 4129 16 (by decide) w).mono ?_
  rintro e w1 ⟨gp, rfl, hgp, Rp, B1⟩
  rw [show putB 4129 16 = fld 16 4129 from rfl, fld_length] at Rp ⊢
  go_wp2_with fail
  refine (bits_read a cap bs h2 H256.out w1 (HR.out.below B1)).mono ?_
  rintro e w2 ⟨ao, ca, rfl, Rl, B2⟩
  have Rp2 := ownsRow_keep (w' := w2) Rp (fun j hj => B2.block j (World.ownsRow.lt Rp j hj).2)
  have B2w := B1.trans (B2.mono B1.size)
  clear Rp B1 B2 hgp
  have hs := sum_any ao ca gp 16 (unpack bs) (fld 16 4129) (by rw [unpack_length]; omega) (by rw [fld_length]; omega) (by rw [fld_length]; omega) (unpack_bits bs) (fld_bits _ _) w2 Rl (by rw [fld_length]; exact Rp2)
  rw [fld_length] at hs
  have L := lrun_num 15 (fld 16 4129) (List.replicate 16 1) (unpack bs) (rep_bits 16) (fld_bits _ _) (unpack_bits bs) (by simp) (by rw [fld_length])
  rw [num_ones16, show num (fld 16 4129) = 4129 from by decide] at L
  have HSUM := Hid.intro hs
  clear hs Rl Rp2
  generalize (unpack bs).foldl (lstep (fld 16 4129)) (List.replicate 16 1) = S at HSUM L
  have LH := Hid.intro L
  clear L
  go_wp2_with fail
  refine HSUM.out.mono ?_
  rintro e w3 ⟨g3, c3, rfl, hg3, R3, B3⟩
  have B3w := B2w.trans (B3.mono B2w.size)
  have hn := num_any g3 0 c3 S (by rw [LH.out.2.1]; omega) LH.out.2.2 w3 (fun j hj => by rw [Nat.zero_add, R3.cellAt j (by have := LH.out.2.1; omega)]; simp [hj])
  rw [LH.out.2.1, LH.out.1] at hn
  have HN := Hid.intro hn
  clear hn R3 B3 B2w hg3 HSUM
  go_wp2_with fail
  refine HN.out.mono ?_
  rintro e w4 ⟨rfl, rfl⟩
  go_wp2
  go_ret
  exact ⟨rfl, B3w⟩

/-- A list whose bits are turned as far as so many places. -/
def turnedTo (l : List Nat) (k : Nat) : List Nat := (List.range l.length).map fun i => if i < k then 1 - l.getD i 0 else l.getD i 0
theorem turnedTo_length (l : List Nat) (k : Nat) : (turnedTo l k).length = l.length := by simp [turnedTo]
theorem turnedTo_zero (l : List Nat) : turnedTo l 0 = l := by
  apply List.ext_getElem
  · simp [turnedTo]
  · intro i h1 h2; simp [turnedTo, List.getD_eq_getElem?_getD, h2]
theorem turnedTo_all (l : List Nat) : turnedTo l l.length = l.map fun x => 1 - x := by
  apply List.ext_getElem
  · simp [turnedTo]
  · intro i h1 h2
    rw [turnedTo_length] at h1
    simp [turnedTo, List.getD_eq_getElem?_getD, h1]
theorem turnedTo_at (l : List Nat) (k : Nat) (h : k < l.length) : (turnedTo l k).getD k 0 = l.getD k 0 := by
  simp [turnedTo, List.getD_eq_getElem?_getD, h]
theorem turnedTo_step (l : List Nat) (k : Nat) : (turnedTo l k).set k (1 - l.getD k 0) = turnedTo l (k + 1) := by
  apply List.ext_getElem
  · simp [turnedTo]
  · intro i h1 h2
    rw [List.getElem_set]
    simp only [turnedTo, List.getElem_map, List.getElem_range]
    by_cases hi : k = i
    · subst hi; rw [if_pos rfl, if_pos (by omega)]
    · rw [if_neg hi]
      by_cases h3 : i < k
      · rw [if_pos h3, if_pos (by omega)]
      · rw [if_neg h3, if_neg (by omega)]

theorem num_poly32 : num (fld 32 79764919) = 79764919 := by
  rw [num_fld]

set_option maxRecDepth 100000 in
set_option maxHeartbeats 2000000 in
theorem refLong_any (a : Option Addr) (cap : Nat) (bs : List Nat) (h2 : bs.length ≤ 300) (hcap : bs.length ≤ cap) (hcm : cap ≤ 9223372036854775807) (h256 : ∀ b ∈ bs, b < 256) (w : World) (hr : Reads w a bs) :
    Calls Tryd.prog 27 #[.slice a bs.length cap] w fun e w' => e = .returned (.int .i64 ((crc32 bs : Nat) : Int)) ∧ Below w.heap.size w w' := by
  obtain ⟨i, hi, hz0, hz1, hz2⟩ := info_parts info_int
  have HR := Hid.intro hr
  have H256 := Hid.intro h256
  clear hr h256
  obtain ⟨R, hR⟩ : ∃ R, R = crc32 bs := ⟨_, rfl⟩
  rw [← hR]
  have HRR := Hid.intro hR
  clear hR
  go_enter Tryd.func27, Tryd.ntmps27
  go_wp2_with fail
  go_loopw [3, 4] (fun v c wr => ∃ k : Nat, k ≤ bs.length ∧ c = .int .i64 k ∧ wr.ownsRow 0 3 1 v (lows (bs.take k)).length ((lows (bs.take k)).map I) ∧ (∀ j, v.ownBlock = some j → w.heap.size ≤ j) ∧ Below w.heap.size w wr)
    (fun _ c _ => bs.length - (intOf c).toNat)
  case atStart => exact ⟨0, by omega, rfl, World.ownsRow_nil _ _ _ _, nil_own _, Below.refl _ _⟩
  case round =>
    obtain ⟨k, hk, rfl, RK, NK, BK⟩ := hrel
    have NKH := Hid.intro NK
    have RKH := Hid.intro RK
    clear NK RK
    by_cases hlt : k < bs.length
    · obtain ⟨bb, off, rfl, hc⟩ := reads_at HR.out (by omega)
      have cl := hc k hlt
      clear hc
      have c1 : wr.cell? ⟨bb, off + k, none⟩ = some (U bs[k]) := (BK.cell (cell_lt cl)).trans cl
      have hb := H256.out bs[k] (List.getElem_mem hlt)
      have ts : lows (bs.take (k + 1)) = lows (bs.take k) ++ (fld 8 bs[k]).reverse := by rw [take_snoc bs k hlt, lows_snoc]
      have ll := lows_length (bs.take k)
      simp only [List.length_take] at ll
      have hNl : (lows (bs.take k)).length ≤ 2400 := by omega
      generalize bs[k] = b at cl c1 hb ts
      have TS := Hid.intro ts
      have hck : ¬ cap = k := by omega
      have C1 := Hid.intro c1
      clear ts cl ll c1
      go_wp2_with fail
      refine (bits_pos bb (off + k) (cap - k) [b] (by simp) (by simp) (by simpa using hb) wr (fun j hj => by
        match j, hj with
        | 0, _ => simpa using C1.out)).mono ?_
      rintro e w2 ⟨v2, rfl, R2, N2, B2⟩
      rw [show unpack [b] = fld 8 b from by simp [unpack], fld_length] at R2
      obtain ⟨g2, c2, hv2, _, _⟩ := R2.form (by omega)
      subst hv2
      have hbk := back_pos g2 0 c2 (fld 8 b) (by rw [fld_length]; omega) (by rw [fld_length]; omega) (fld_bits _ _) w2 (fun j hj => by
        rw [fld_length] at hj
        rw [Nat.zero_add, R2.cellAt j (by omega)]; simp [fld_length, hj])
      rw [fld_length] at hbk
      have HBK := Hid.intro hbk
      have RK2 := ownsRow_keep (w' := w2) RKH.out (fun j hj => B2.block j (World.ownsRow.lt RKH.out j hj).2)
      have B2w := BK.trans (B2.mono BK.size)
      have RK2H := Hid.intro RK2
      clear hbk RK2 RKH BK B2 R2 N2 C1
      go_wp2_with fail
      refine HBK.out.mono ?_
      rintro e w3 ⟨v3, rfl, R3, N3, B3⟩
      obtain ⟨g3, c3, hv3, _, _⟩ := R3.form (by omega)
      subst hv3
      have RK3 := ownsRow_keep (w' := w3) RK2H.out (fun j hj => B3.block j (World.ownsRow.lt RK2H.out j hj).2)
      have B3w := B2w.trans (B3.mono B2w.size)
      have news : ∀ j u, ((fld 8 b).reverse.map I)[j]? = some u → w3.cell? ((⟨g3, 0, none⟩ : Addr).add j) = some u := by
        intro j u hu
        have hj := (List.getElem?_eq_some_iff.1 hu).1
        simp only [List.length_map, List.length_reverse, fld_length] at hj
        rw [WideShapes.add_plain, Nat.zero_add, R3.cellAt j (by omega)]; exact hu
      have one : ∀ u ∈ (fld 8 b).reverse.map I, u.oneCell' = true := by
        intro u hu
        obtain ⟨q, _, rfl⟩ := List.mem_map.1 hu
        rfl
      have NEWS := Hid.intro news
      have ONE := Hid.intro one
      have R6H := Hid.intro RK3
      clear RK3 RK2H B2w B3 news one R3 N3 HBK
      go_wp2_with (at_builtin; refine wpList_append_lies _ rfl _ _ 57 rfl 0 3 i (.int .i64 0) 1 8 Tryd.underlying57 hi hz0 hz1 hz2 rfl (by decide) u3 _ _ rfl R6H.out ⟨g3, 0, none⟩ 8 c3 ((fld 8 b).reverse.map I) rfl (by simp [fld_length]) NEWS.out ONE.out (by decide) (by unfold maxLen; omega) (by omega) (Nat.zero_le _) w3.heap.size rfl ?_)
      intro g7 cp w7 hown hgrow hat hgl
      have C7 : Chg (fun j => u3.ownBlock = some j) w3 w7 := (Chg.refl _ _).grown hgrow (fun j hj _ => hj)
      have B7 := B3w.trans (C7.below B3w.size (fun j hj => NKH.out j hj))
      have N7 : ∀ q, (Value.slice (some ⟨g7, 0, none⟩) ((lows (bs.take k)).length + 8) cp).ownBlock = some q → w.heap.size ≤ q := by
        intro q hq
        have e : g7 = q := by simpa [Value.ownBlock] using hq
        subst e
        rcases hat with hat | hat
        · exact NKH.out g7 hat
        · have := B3w.size; omega
      have R7 : w7.ownsRow 0 3 1 (.slice (some ⟨g7, 0, none⟩) ((lows (bs.take k)).length + 8) cp) (lows (bs.take (k + 1))).length ((lows (bs.take (k + 1))).map I) := by
        rw [TS.out, List.map_append, List.length_append, List.length_reverse, fld_length]; exact hown
      have R7H := Hid.intro R7
      have N7H := Hid.intro N7
      clear hown hgrow hat R7 N7 C7 B3w R6H NEWS ONE NKH
      go_wp2
      go_roundw
      case rel => exact ⟨k + 1, by omega, by go_num, R7H.out, N7H.out, B7⟩
      case measure => simp [intOf]; omega
    · have hke : k = bs.length := by omega
      subst hke
      rw [List.take_length] at RKH
      obtain ⟨al, cl, hv, Rl⟩ := owns_readsI RKH.out
      subst hv
      have RlH := Hid.intro Rl
      clear Rl RKH NKH
      go_wp2_with fail
      refine (field_t 79764919 32 (by decide) wr).mono ?_
      rintro e w1 ⟨gp, rfl, hgp, Rp, B1⟩
      rw [show putB 79764919 32 = fld 32 79764919 from rfl, fld_length] at Rp ⊢
      have B1w := BK.trans (B1.mono BK.size)
      have ll := lows_length bs
      have hs := sum_any al cl gp 32 (lows bs) (fld 32 79764919) (by omega) (by rw [fld_length]; omega) (by rw [fld_length]; omega) (lows_bits bs) (fld_bits _ _) w1 (RlH.out.below B1) (by rw [fld_length]; exact Rp)
      rw [fld_length] at hs
      have L := lrun_num 31 (fld 32 79764919) (List.replicate 32 1) (lows bs) (rep_bits 32) (fld_bits _ _) (lows_bits bs) (by simp) (by rw [fld_length])
      rw [num_ones32, num_poly32] at L
      have HSUM := Hid.intro hs
      clear hs RlH Rp B1 BK hgp ll
      have hcr : crc32 bs = turned (run 31 79764919 4294967295 (lows bs)) := rfl
      generalize (lows bs).foldl (lstep (fld 32 79764919)) (List.replicate 32 1) = S at HSUM L
      have hcr2 : R = num (S.reverse.map fun x => 1 - x) := by
        rw [HRR.out, hcr, ← L.1]
        unfold turned
        rw [fld_num 32 S L.2.2 L.2.1]
      have LH := Hid.intro L.2
      have HCR := Hid.intro hcr2
      clear L hcr hcr2 HRR
      generalize (lows bs).length = nl at HSUM ⊢
      go_wp2_with fail
      refine HSUM.out.mono ?_
      rintro e w2 ⟨g2, c2, rfl, hg2, R2, B2⟩
      have B2w := B1w.trans (B2.mono B1w.size)
      have hbk := back_pos g2 0 c2 S (by rw [LH.out.1]; omega) (by rw [LH.out.1]; omega) LH.out.2 w2 (fun j hj => by
        rw [Nat.zero_add, R2.cellAt j (by have := LH.out.1; omega)]; simp [hj])
      rw [LH.out.1] at hbk
      have HBK := Hid.intro hbk
      clear hbk R2 B2 B1w hg2 HSUM
      go_wp2_with fail
      refine HBK.out.mono ?_
      rintro e w3 ⟨v3, rfl, R3, N3, B3⟩
      obtain ⟨g3, c3, hv3, _, _⟩ := R3.form (by omega)
      subst hv3
      have hg3 : w.heap.size ≤ g3 := by have := N3 g3 rfl; have := B2w.size; omega
      have B3w := B2w.trans (B3.mono B2w.size)
      have rl : S.reverse.length = 32 := by rw [List.length_reverse]; exact LH.out.1
      have rb := bits_reverse LH.out.2
      generalize S.reverse = T at R3 rl rb HCR
      have RLH := Hid.intro rl
      have RBH := Hid.intro rb
      have R3H := Hid.intro R3
      clear R3 N3 B3 B2w HBK rl rb
      go_wp2_with fail
      go_loopw [8] (fun c wz => ∃ j : Nat, j ≤ 32 ∧ c = .int .i64 j ∧ wz.ownsRow 0 3 1 (.slice (some ⟨g3, 0, none⟩) 32 c3) 32 ((turnedTo T j).map I) ∧ Below w.heap.size w wz)
        (fun c _ => 32 - (intOf c).toNat)
      case atStart => exact ⟨0, by omega, rfl, by rw [turnedTo_zero]; exact R3H.out, B3w⟩
      case round =>
        obtain ⟨j, hj, rfl, RJ, BJ⟩ := hrel
        clear R3H B3w
        by_cases hjl : j < 32
        · have fl := turnedTo_length T j
          have cj : wr.cell? ⟨g3, j, none⟩ = some (I (T.getD j 0)) := by
            rw [RJ.cellAt _ (by omega), List.getElem?_map, ← turnedTo_at T j (by rw [RLH.out]; exact hjl), List.getD_eq_getElem?_getD, List.getElem?_eq_getElem (by rw [fl, RLH.out]; exact hjl)]
            rfl
          have fj : wr.frozen? ⟨g3, j, none⟩ = false := RJ.frozenAt _
          have bT := getD_bit T RBH.out j
          have ms := turnedTo_step T j
          have jj1 : (0 : Int) ≤ (j : Int) := by omega
          have jj2 : (j : Int) < 32 := by omega
          generalize T.getD j 0 = x at cj bT ms
          have RS : (wr.setCell ⟨g3, j, none⟩ (I (1 - x))).ownsRow 0 3 1 (.slice (some ⟨g3, 0, none⟩) 32 c3) 32 ((turnedTo T (j + 1)).map I) := by
            rw [← ms, List.map_set]; exact (RJ.stored _ _).1
          have BS : Below w.heap.size w (wr.setCell ⟨g3, j, none⟩ (I (1 - x))) := BJ.setCell hg3 _
          have RSH := Hid.intro RS
          have BSH := Hid.intro BS
          have hxy : ((1 - x : Nat) : Int) = 1 - (x : Int) := by omega
          rw [show I (1 - x) = .int .i64 (1 - (x : Int)) from by unfold I; rw [hxy]] at RSH BSH
          clear RS BS RJ BJ fl ms hxy
          go_wp2
          go_roundw
          case rel => exact ⟨j + 1, by omega, by go_num, RSH.out, BSH.out⟩
          case measure => simp [intOf]; omega
        · have hje : j = 32 := by omega
          rw [hje] at RJ
          have e := turnedTo_all T
          rw [RLH.out] at e
          rw [e] at RJ
          have hn := num_any g3 0 c3 (T.map fun x => 1 - x) (by rw [List.length_map, RLH.out]; omega) (bits_turn T) wr (fun q hq => by
            have hq' : q < 32 := by rw [List.length_map, RLH.out] at hq; exact hq
            rw [Nat.zero_add, RJ.cellAt q (by omega)]; simp at hq; simp [hq])
          rw [List.length_map, RLH.out, ← HCR.out] at hn
          have HN := Hid.intro hn
          clear hn e RJ hje
          go_wp2_with fail
          refine HN.out.mono ?_
          rintro e w4 ⟨rfl, rfl⟩
          go_wp2
          go_ret
          exact ⟨rfl, BJ⟩

theorem refNumber_no (n m : Int) (w : World) (h : m < 0 ∨ 4 < m) :
    Calls Tryd.prog 25 #[.int .i64 n, .int .i64 m] w fun e w' => e = .returned (.slice none 0 0) ∧ w = w' := by
  rcases h with h | h
  · go_enter Tryd.func25, Tryd.ntmps25
    go_wp2
    go_ret
    exact ⟨rfl, rfl⟩
  · have h' : ¬ m < 0 := by omega
    go_enter Tryd.func25, Tryd.ntmps25
    go_wp2
    go_ret
    exact ⟨rfl, rfl⟩

/-- A number as 64 bits. -/
def low64 (n : Int) : Nat := (IntKind.u64.wrap n).toNat
theorem low64_eq (n : Int) : IntKind.u64.wrap n = (low64 n : Int) := by
  unfold low64
  have : 0 ≤ IntKind.u64.wrap n := by rw [IntKind.wrap_u64]; omega
  omega
theorem low64_lt (n : Int) : low64 n < 2 ^ 64 := by
  have := low64_eq n
  rw [IntKind.wrap_u64] at this
  omega

set_option maxHeartbeats 1000000 in
theorem refNumber_yes (n : Int) (M : Nat) (h4 : M ≤ 4) (w : World) :
    Calls Tryd.prog 25 #[.int .i64 n, .int .i64 M] w fun e w' => ∃ g, e = .returned (.slice (some ⟨g, 0, none⟩) M M) ∧ w.heap.size ≤ g ∧
      w'.ownsRow 0 5 1 (.slice (some ⟨g, 0, none⟩) M M) M ((numB (low64 n) M).map U) ∧ Below w.heap.size w w' := by
  obtain ⟨i, hi, hz0, hz1, hz2⟩ := info_parts info_u8
  have hu := low64_eq n
  have hul := low64_lt n
  generalize low64 n = u at hu hul ⊢
  go_enter Tryd.func25, Tryd.ntmps25
  go_wp2_with (at_make; refine wpList_make_full _ rfl _ _ 22 rfl 0 5 i (.int .u8 0) 1 Tryd.underlying22 hi hz0 hz1 _ _ _ _ M rfl rfl (by omega) (by omega) (by rw [hz2]; omega) (by unfold maxLen; omega) (Nat.zero_le _) ?_)
  intro w1 hown hgrow
  have hB : Below w.heap.size w w1 := (Below.refl _ w).grown hgrow (Nat.le_refl _) (fun k hk => by cases hk)
  have hR : w1.ownsRow 0 5 1 (.slice (some ⟨w.heap.size, 0, none⟩) M M) M ((laidB u M 0).map U) := by
    rw [laidB_zero, List.map_replicate]
    rw [toList_madeCells_one] at hown
    exact hown
  clear hown hgrow
  go_wp2_with fail
  clear hu
  go_loopw [6, 7] (fun n c wr => ∃ j : Nat, j ≤ M ∧ n = .int .u64 ((u / 256 ^ j : Nat) : Int) ∧ c = .int .i64 ((M : Int) - 1 - j) ∧
      wr.ownsRow 0 5 1 (.slice (some ⟨w.heap.size, 0, none⟩) M M) M ((laidB u M j).map U) ∧ Below w.heap.size w wr)
    (fun _ c _ => (intOf c + 1).toNat)
  case atStart => exact ⟨0, by omega, by simp, by simp, hR, hB⟩
  case round =>
    obtain ⟨j, hj, rfl, rfl, RJ, BJ⟩ := hrel
    clear hR hB
    by_cases hlt : j < M
    · have hq : u / 256 ^ j < 2 ^ 64 := Nat.lt_of_le_of_lt (Nat.div_le_self _ _) hul
      have hst := laidB_step u M j hlt
      have hdiv : u / 256 ^ (j + 1) = u / 256 ^ j / 256 := by rw [Nat.pow_succ, Nat.div_div_eq_div_mul]
      generalize u / 256 ^ j = q at hq hst hdiv ⊢
      have HST := Hid.intro hst
      have HD := Hid.intro hdiv
      clear hst hdiv
      have fl := laidB_length u M j
      have c1 : ∃ x, wr.cell? ⟨w.heap.size, M - 1 - j, none⟩ = some x := by
        rw [RJ.cellAt _ (by omega)]
        exact ⟨_, List.getElem?_eq_getElem (by simp [fl]; omega)⟩
      obtain ⟨x, c1⟩ := c1
      have f1 : wr.frozen? ⟨w.heap.size, M - 1 - j, none⟩ = false := RJ.frozenAt _
      have RS : (wr.setCell ⟨w.heap.size, M - 1 - j, none⟩ (U (q % 256))).ownsRow 0 5 1 (.slice (some ⟨w.heap.size, 0, none⟩) M M) M ((laidB u M (j + 1)).map U) := by
        rw [← HST.out, List.map_set]; exact (RJ.stored _ _).1
      have BS : Below w.heap.size w (wr.setCell ⟨w.heap.size, M - 1 - j, none⟩ (U (q % 256))) := BJ.setCell (Nat.le_refl _) _
      have RSH := Hid.intro RS
      have BSH := Hid.intro BS
      clear RS BS RJ BJ fl
      go_wp2
      go_roundw
      case rel => exact ⟨j + 1, by omega, by rw [HD.out]; go_num, by go_num, RSH.out, BSH.out⟩
      case measure => simp [intOf]; omega
    · have hjm : j = M := by omega
      rw [hjm, laidB_all] at RJ
      clear hjm
      go_wp2
      go_ret
      exact ⟨w.heap.size, rfl, Nat.le_refl _, RJ, BJ⟩

set_option maxHeartbeats 1000000 in
theorem refRead_any (a : Option Addr) (cap : Nat) (bs : List Nat) (hl : bs.length < 2 ^ 62) (h256 : ∀ b ∈ bs, b < 256) (w : World) (hr : Reads w a bs) :
    Calls Tryd.prog 33 #[.slice a bs.length cap] w fun e w' => e = .returned (.int .i64 (((if 4 < bs.length then 0 else readB bs) : Nat) : Int)) ∧ w = w' := by
  by_cases h4 : 4 < bs.length
  · rw [if_pos h4]
    go_enter Tryd.func33, Tryd.ntmps33
    go_wp2
    go_ret
    exact ⟨rfl, rfl⟩
  · rw [if_neg h4]
    have HR := Hid.intro hr
    have H256 := Hid.intro h256
    clear hr h256
    go_enter Tryd.func33, Tryd.ntmps33
    go_wp2_with fail
    go_loop [3, 4] (fun n c => ∃ k : Nat, k ≤ bs.length ∧ c = .int .i64 k ∧ n = .int .i64 ((readB (bs.take k) : Nat) : Int)) (fun _ c => bs.length - (intOf c).toNat)
    case atStart => exact ⟨0, by omega, rfl, rfl⟩
    case round =>
      obtain ⟨k, hk, rfl, rfl⟩ := hrel
      by_cases hlt : k < bs.length
      · obtain ⟨bb, off, rfl, hc⟩ := reads_at HR.out (by omega)
        have c := hc k hlt
        have hb := H256.out bs[k] (List.getElem_mem hlt)
        have hs := readB_snoc (bs.take k) bs[k]
        rw [← take_snoc bs k hlt] at hs
        have hn := readB_lt (bs.take k) (fun b hb => H256.out b (List.mem_of_mem_take hb))
        have hn2 : readB (bs.take k) < 16777216 := by
          refine Nat.lt_of_lt_of_le hn ?_
          have : (256 : Nat) ^ (bs.take k).length ≤ 256 ^ 3 := Nat.pow_le_pow_right (by decide) (by simp; omega)
          exact this
        generalize bs[k] = b at c hb hs
        generalize readB (bs.take k) = N at hs hn2 ⊢
        have HS := Hid.intro hs
        clear hs hn hc
        have j1 : (0 : Int) ≤ (k : Int) := by omega
        have j2 : (k : Int) < (bs.length : Int) := by omega
        go_wp2
        go_round
        case rel => exact ⟨k + 1, by omega, by go_num, by rw [HS.out]; go_num⟩
        case measure => simp [intOf]; omega
      · have hke : k = bs.length := by omega
        subst hke
        rw [List.take_length]
        go_wp2
        go_ret
        exact ⟨rfl, rfl⟩

end Go.Proofs.YtaieohnppeapfaaDoor
