/- Contracts of the document's own answer for layer 1: Field, Num, Bits. -/
import Derived.Test.YtaieohnppeapfaaDoorBase
namespace Go.Proofs.YtaieohnppeapfaaDoor
open Go.RowKit
open Bt

theorem field_no (n m : Int) (w : World) (h : isW m = false ∨ n < 0) :
    Calls Tryd.prog 37 #[.int .i64 n, .int .i64 m] w fun e w' => e = .returned (.tuple #[.slice none 0 0, .bool false]) ∧ w = w' := by
  by_cases h1 : m < 1
  · go_enter Tryd.func37, Tryd.ntmps37
    go_wp2
    go_ret2
    exact ⟨rfl, rfl⟩
  · by_cases h2 : 32 < m
    · go_enter Tryd.func37, Tryd.ntmps37
      go_wp2
      go_ret2
      exact ⟨rfl, rfl⟩
    · have h3 : n < 0 := by
        rcases h with h | h
        · have := isW_false h; omega
        · exact h
      go_enter Tryd.func37, Tryd.ntmps37
      go_wp2
      go_ret2
      exact ⟨rfl, rfl⟩

/-- The list as far as it is filled: so many bits from its end on. -/
def filled (W N j : Nat) : List Nat := (List.range W).map fun i => if i < W - j then 0 else N / 2 ^ (W - 1 - i) % 2

theorem filled_length (W N j : Nat) : (filled W N j).length = W := by simp [filled]

theorem filled_zero (W N : Nat) : filled W N 0 = List.replicate W 0 := by
  apply List.ext_getElem
  · simp [filled]
  · intro i h1 h2
    simp only [List.length_replicate] at h2
    simp only [filled, List.getElem_map, List.getElem_range, List.getElem_replicate]
    rw [if_pos (by omega)]

theorem filled_all (W N : Nat) : filled W N W = fld W N := by
  apply List.ext_getElem
  · simp [filled, fld_length]
  · intro i h1 h2
    rw [fld_length] at h2
    have g := fld_getD W N i h2
    rw [List.getD_eq_getElem?_getD, List.getElem?_eq_getElem (by rw [fld_length]; exact h2)] at g
    simp only [Option.getD_some] at g
    simp only [filled, List.getElem_map, List.getElem_range]
    rw [if_neg (by omega), ← g]

theorem filled_step (W N j : Nat) (h : j < W) : (filled W N j).set (W - 1 - j) (N / 2 ^ j % 2) = filled W N (j + 1) := by
  apply List.ext_getElem
  · simp [filled]
  · intro i h1 h2
    rw [filled_length] at h2
    rw [List.getElem_set]
    simp only [filled, List.getElem_map, List.getElem_range]
    by_cases hi : W - 1 - j = i
    · have e : W - 1 - i = j := by omega
      rw [if_pos hi, if_neg (by omega), e]
    · rw [if_neg hi]
      by_cases hlt : i < W - (j + 1)
      · rw [if_pos (by omega), if_pos (by omega)]
      · rw [if_neg (by omega), if_neg (by omega)]

set_option maxHeartbeats 400000 in
theorem field_yes (N W : Nat) (hN : N < 2 ^ 63) (h1 : 1 ≤ W) (h2 : W ≤ 32) (w : World) :
    Calls Tryd.prog 37 #[.int .i64 N, .int .i64 W] w fun e w' => ∃ g, e = .returned (.tuple #[.slice (some ⟨g, 0, none⟩) W W, .bool (isF N W)]) ∧ w.heap.size ≤ g ∧
      w'.ownsRow 0 3 1 (.slice (some ⟨g, 0, none⟩) W W) W ((fld W N).map I) ∧ Below w.heap.size w w' := by
  obtain ⟨i, hi, hz0, hz1, hz2⟩ := info_parts info_int
  go_enter Tryd.func37, Tryd.ntmps37
  go_wp2_with (at_make; refine wpList_make_full _ rfl _ _ 57 rfl 0 3 i (.int .i64 0) 1 Tryd.underlying57 hi hz0 hz1 _ _ _ _ W rfl rfl (by omega) (by omega) (by rw [hz2]; omega) (by unfold maxLen; omega) (Nat.zero_le _) ?_)
  intro w1 hown hgrow
  have hB : Below w.heap.size w w1 := (Below.refl _ w).grown hgrow (Nat.le_refl _) (fun k hk => by cases hk)
  have hR : w1.ownsRow 0 3 1 (.slice (some ⟨w.heap.size, 0, none⟩) W W) W ((filled W N 0).map I) := by
    rw [filled_zero, List.map_replicate]
    rw [toList_madeCells_one] at hown
    exact hown
  clear hown hgrow
  go_wp2_with fail
  go_loopw [0, 7] (fun n c wr => ∃ j : Nat, j ≤ W ∧ n = .int .i64 ((N / 2 ^ j : Nat) : Int) ∧ c = .int .i64 ((W : Int) - 1 - j) ∧
      wr.ownsRow 0 3 1 (.slice (some ⟨w.heap.size, 0, none⟩) W W) W ((filled W N j).map I) ∧ Below w.heap.size w wr)
    (fun _ c _ => (intOf c + 1).toNat)
  case atStart => exact ⟨0, by omega, by simp, by simp, hR, hB⟩
  case round =>
    obtain ⟨j, hj, rfl, rfl, RJ, BJ⟩ := hrel
    clear hR hB
    by_cases hlt : j < W
    · have hq : N / 2 ^ j < 2 ^ 63 := Nat.lt_of_le_of_lt (Nat.div_le_self _ _) hN
      have hst := filled_step W N j hlt
      have hdiv : N / 2 ^ (j + 1) = N / 2 ^ j / 2 := by rw [Nat.pow_succ, Nat.div_div_eq_div_mul]
      generalize N / 2 ^ j = q at hq hst hdiv ⊢
      have HST := Hid.intro hst
      have HD := Hid.intro hdiv
      clear hst hdiv
      have fl := filled_length W N j
      have c1 : ∃ u, wr.cell? ⟨w.heap.size, W - 1 - j, none⟩ = some u := by
        rw [RJ.cellAt _ (by omega)]
        exact ⟨_, List.getElem?_eq_getElem (by simp [fl]; omega)⟩
      obtain ⟨u, c1⟩ := c1
      have f1 : wr.frozen? ⟨w.heap.size, W - 1 - j, none⟩ = false := RJ.frozenAt _
      have FL := Hid.intro fl
      clear fl
      have RS : (wr.setCell ⟨w.heap.size, W - 1 - j, none⟩ (I (q % 2))).ownsRow 0 3 1 (.slice (some ⟨w.heap.size, 0, none⟩) W W) W ((filled W N (j + 1)).map I) := by
        rw [← HST.out, List.map_set]; exact (RJ.stored _ _).1
      have BS : Below w.heap.size w (wr.setCell ⟨w.heap.size, W - 1 - j, none⟩ (I (q % 2))) := BJ.setCell (Nat.le_refl _) _
      have RSH := Hid.intro RS
      have BSH := Hid.intro BS
      clear RS BS RJ BJ
      go_wp2
      go_roundw
      case rel => exact ⟨j + 1, by omega, by rw [HD.out]; go_num, by go_num, RSH.out, BSH.out⟩
      case measure => simp [intOf]; omega
    · have hjw : j = W := by omega
      subst hjw
      rw [filled_all] at RJ
      go_wp2
      go_ret2
      have e : isF (N : Int) (j : Int) = ((N : Int) / 2 ^ j == 0) := by
        have h := isF_eq (n := (N : Int)) (m := (j : Int)) (by simp [isW]; omega) (by omega)
        rw [Int.toNat_natCast] at h
        exact h
      rw [e]
      exact ⟨w.heap.size, rfl, Nat.le_refl _, RJ, BJ⟩

/-- Field of a field. -/
theorem field_t (n m : Int) (h : isF n m = true) (w : World) :
    Calls Tryd.prog 37 #[.int .i64 n, .int .i64 m] w fun e w' => ∃ g, e = .returned (.tuple #[.slice (some ⟨g, 0, none⟩) (putB n m).length (putB n m).length, .bool true]) ∧ w.heap.size ≤ g ∧
      w'.ownsRow 0 3 1 (.slice (some ⟨g, 0, none⟩) (putB n m).length (putB n m).length) (putB n m).length ((putB n m).map I) ∧ Below w.heap.size w w' := by
  obtain ⟨h1, h2, h3, h4⟩ := isF_bounds h
  obtain ⟨N, rfl⟩ := Int.eq_ofNat_of_zero_le h3
  obtain ⟨M, rfl⟩ := Int.eq_ofNat_of_zero_le (show 0 ≤ m by omega)
  have hN : N < 2 ^ 63 := by
    rw [Int.toNat_natCast] at h4
    have h5 : N < 2 ^ M := by exact_mod_cast h4
    exact Nat.lt_of_lt_of_le h5 (Nat.pow_le_pow_right (by decide) (by omega))
  have e : putB N M = fld M N := by simp [putB, h]
  have r := field_yes N M hN (by omega) (by omega) w
  rw [h] at r
  rw [e, fld_length]
  exact r

/-- Field of what is none. -/
theorem field_f (n m : Int) (hn : n ≤ 9223372036854775807) (h : isF n m = false) (w : World) :
    Calls Tryd.prog 37 #[.int .i64 n, .int .i64 m] w fun e w' => ∃ v, e = .returned (.tuple #[v, .bool false]) ∧ Below w.heap.size w w' := by
  by_cases h1 : isW m = false ∨ n < 0
  · refine (field_no n m w h1).mono ?_
    rintro e w' ⟨rfl, rfl⟩
    exact ⟨_, rfl, Below.refl _ _⟩
  · have hw : isW m = true := by
      cases hw : isW m with
      | true => rfl
      | false => exact absurd (.inl hw) h1
    have h0 : 0 ≤ n := by
      rcases Int.lt_or_le n 0 with h2 | h2
      · exact absurd (.inr h2) h1
      · exact h2
    have hb := isW_true hw
    obtain ⟨N, rfl⟩ := Int.eq_ofNat_of_zero_le h0
    obtain ⟨M, rfl⟩ := Int.eq_ofNat_of_zero_le (show 0 ≤ m by omega)
    refine (field_yes N M (by omega) (by omega) (by omega) w).mono ?_
    rintro e w' ⟨g, rfl, _, _, B⟩
    rw [h]
    exact ⟨_, rfl, B⟩

set_option maxHeartbeats 400000 in
/-- The number of bits. -/
theorem num_any (b off cap : Nat) (l : List Nat) (hl : l.length ≤ 32) (hb : Bits l) (w : World) (hc : ∀ j, (hj : j < l.length) → w.cell? ⟨b, off + j, none⟩ = some (I l[j])) :
    Calls Tryd.prog 38 #[.slice (some ⟨b, off, none⟩) l.length cap] w fun e w' => e = .returned (.int .i64 ((num l : Nat) : Int)) ∧ w = w' := by
  have HC := Hid.intro hc
  have HB := Hid.intro hb
  clear hc hb
  go_enter Tryd.func38, Tryd.ntmps38
  go_wp2
  go_loop [3, 4] (fun n i => ∃ k : Nat, k ≤ l.length ∧ i = .int .i64 k ∧ n = .int .i64 ((num (l.take k) : Nat) : Int)) (fun _ i => l.length - (intOf i).toNat)
  case atStart => exact ⟨0, by omega, rfl, rfl⟩
  case round =>
    obtain ⟨k, hk, rfl, rfl⟩ := hrel
    by_cases hlt : k < l.length
    · have hs := num_snoc (l.take k) l[k]
      rw [← take_snoc l k hlt] at hs
      have hn := num_take_lt l HB.out 0 k (by omega)
      rw [List.drop_zero] at hn
      have c := HC.out k hlt
      have hbk := HB.out l[k] (List.getElem_mem hlt)
      generalize l[k] = q at hs c hbk
      generalize num (l.take k) = N at hs hn ⊢
      have HS := Hid.intro hs
      clear hs
      go_wp2
      go_round
      case rel => exact ⟨k + 1, by omega, by go_num, by rw [HS.out]; go_num⟩
      case measure => simp [intOf]; omega
    · have hke : k = l.length := by omega
      subst hke
      rw [List.take_length]
      go_wp2
      go_ret
      exact ⟨rfl, rfl⟩

set_option maxHeartbeats 1000000 in
/-- The bits of bytes. -/
theorem bits_pos (bb off cap : Nat) (bs : List Nat) (h1 : 0 < bs.length) (h2 : bs.length ≤ 400) (h256 : ∀ b ∈ bs, b < 256) (w : World) (hc : ∀ j, (hj : j < bs.length) → w.cell? ⟨bb, off + j, none⟩ = some (U bs[j])) :
    Calls Tryd.prog 40 #[.slice (some ⟨bb, off, none⟩) bs.length cap] w fun e w' => ∃ v, e = .returned v ∧ w'.ownsRow 0 3 1 v (unpack bs).length ((unpack bs).map I) ∧ (∀ j, v.ownBlock = some j → w.heap.size ≤ j) ∧ Below w.heap.size w w' := by
  obtain ⟨i, hi, hz0, hz1, hz2⟩ := info_parts info_int
  have HC := Hid.intro hc
  have H256 := Hid.intro h256
  clear hc h256
  go_enter Tryd.func40, Tryd.ntmps40
  go_wp2
  go_loopw [3, 4] (fun v i wr => ∃ k : Nat, k ≤ bs.length ∧ i = .int .i64 k ∧ wr.ownsRow 0 3 1 v (unpack (bs.take k)).length ((unpack (bs.take k)).map I) ∧ (∀ j, v.ownBlock = some j → w.heap.size ≤ j) ∧ Below w.heap.size w wr)
    (fun _ i _ => bs.length - (intOf i).toNat)
  case atStart => exact ⟨0, by omega, rfl, World.ownsRow_nil _ _ _ _, nil_own _, Below.refl _ _⟩
  case round =>
    obtain ⟨k, hk, rfl, RK, NK, BK⟩ := hrel
    have NKH := Hid.intro NK
    have RKH := Hid.intro RK
    clear NK RK
    by_cases hlt : k < bs.length
    · have c := HC.out k hlt
      have c1 : wr.cell? ⟨bb, off + k, none⟩ = some (U bs[k]) := (BK.cell (cell_lt c)).trans c
      have hb := H256.out bs[k] (List.getElem_mem hlt)
      have TS := Hid.intro (unpack_take_succ bs k hlt)
      have UL := unpack_length (bs.take k)
      simp only [List.length_take] at UL
      generalize bs[k] = b at c c1 hb TS
      have F : isF (b : Int) 8 = true ∧ putB (b : Int) 8 = fld 8 b := by
        have h1 : isF (b : Int) 8 = true := isF_nat (N := b) (M := 8) (by decide) (by decide) hb
        exact ⟨h1, by simp [putB, h1]⟩
      have FH := Hid.intro F
      have ULH := Hid.intro UL
      clear F UL c
      go_wp2_with fail
      refine (field_t b 8 FH.out.1 wr).mono ?_
      rintro e w5 ⟨g5, rfl, hg5, R5, B5⟩
      rw [FH.out.2, fld_length] at R5 ⊢
      have R6 := ownsRow_keep (w' := w5) RKH.out (fun j hj => B5.block j (World.ownsRow.lt RKH.out j hj).2)
      have B6 := BK.trans (B5.mono BK.size)
      have news : ∀ j u, ((fld 8 b).map I)[j]? = some u → w5.cell? ((⟨g5, 0, none⟩ : Addr).add j) = some u := by
        intro j u hu
        have hj := (List.getElem?_eq_some_iff.1 hu).1
        simp only [List.length_map, fld_length] at hj
        rw [WideShapes.add_plain, Nat.zero_add, R5.cellAt j (by omega)]; exact hu
      have one : ∀ u ∈ (fld 8 b).map I, u.oneCell' = true := by
        intro u hu
        obtain ⟨q, _, rfl⟩ := List.mem_map.1 hu
        rfl
      have hNl : (unpack (bs.take k)).length ≤ 3200 := by have := ULH.out; omega
      have NEWS := Hid.intro news
      have R6H := Hid.intro R6
      clear RKH BK B5 R6 news R5 hg5
      go_wp2_with (at_builtin; refine wpList_append_lies _ rfl _ _ 57 rfl 0 3 i (.int .i64 0) 1 8 Tryd.underlying57 hi hz0 hz1 hz2 rfl (by decide) u3 _ _ rfl R6H.out ⟨g5, 0, none⟩ 8 8 ((fld 8 b).map I) rfl (by simp [fld_length]) NEWS.out one (by decide) (by unfold maxLen; omega) (by omega) (Nat.zero_le _) w5.heap.size rfl ?_)
      intro g cp w7 hown hgrow hat hgl
      have C7 : Chg (fun j => u3.ownBlock = some j) w5 w7 := (Chg.refl _ _).grown hgrow (fun j hj _ => hj)
      have B7 := B6.trans (C7.below B6.size (fun j hj => NKH.out j hj))
      have N7 : ∀ j, (Value.slice (some ⟨g, 0, none⟩) ((unpack (bs.take k)).length + 8) cp).ownBlock = some j → w.heap.size ≤ j := by
        intro j hj
        have e : g = j := by simpa [Value.ownBlock] using hj
        subst e
        rcases hat with hat | hat
        · exact NKH.out g hat
        · have := B6.size; omega
      have R7 : w7.ownsRow 0 3 1 (.slice (some ⟨g, 0, none⟩) ((unpack (bs.take k)).length + 8) cp) (unpack (bs.take (k + 1))).length ((unpack (bs.take (k + 1))).map I) := by
        rw [TS.out, List.map_append, List.length_append, fld_length]; exact hown
      have R7H := Hid.intro R7
      have N7H := Hid.intro N7
      clear hown hgrow hat R7 N7 C7 B6 R6H NEWS NKH one
      go_wp2
      go_roundw
      case rel => exact ⟨k + 1, by omega, by go_num, R7H.out, N7H.out, B7⟩
      case measure => simp [intOf]; omega
    · have hke : k = bs.length := by omega
      subst hke
      rw [List.take_length] at RKH
      go_wp2
      go_ret
      exact ⟨_, rfl, RKH.out, NKH.out, BK⟩

theorem bits_zero (a : Option Addr) (cap : Nat) (w : World) :
    Calls Tryd.prog 40 #[.slice a 0 cap] w fun e w' => e = .returned (.slice none 0 0) ∧ w = w' := by
  go_enter Tryd.func40, Tryd.ntmps40
  go_wp2
  refine wp_loop_rounds 1 ?_
  rw [rounds_succ]
  go_wp2
  go_ret
  exact ⟨rfl, rfl⟩

end Go.Proofs.YtaieohnppeapfaaDoor
