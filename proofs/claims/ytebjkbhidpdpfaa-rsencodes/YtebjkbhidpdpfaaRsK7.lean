/- Package rs: Decode. -/
import Derived.Test.YtebjkbhidpdpfaaRsK6
import Derived.Test.YtebjkbhidpdpfaaAppB
namespace Go.Proofs.Ytebjkbhidpdpfaa
open Go.RowKit
open Bt

/-- A shard of data, reckoned from the first shards that are there. -/
theorem shardD_any (K S : Nat) (hS : 1 ≤ S) (hS2 : S ≤ 1000) (L : List (List Nat)) (hL : L.length ≤ 256) (hB : BytL L) (hs : ∀ r, r < L.length → (L.getD r []).length = 0 ∨ (L.getD r []).length = S) (i : Nat) (hi : i < 256) (bk bw : Nat) (w : World) (hT : Thr w bk bw (firstL K L) (wts (decAt K L) i)) :
    Calls Try.prog 28 #[.int .i64 (S : Int), thrF bk bw] w fun e w' => ∃ g cap, e = .returned (.slice (some ⟨g, 0, none⟩) S cap) ∧ (∀ j u, ((decRow K S L i).map U)[j]? = some u → w'.cell? ((⟨g, 0, none⟩ : Addr).add j) = some u) ∧ Below w.heap.size w w' := by
  have hws := wts_byt (decAt_byt (K := K) hL) hi
  have hwl : (wts (decAt K L) i).length = (firstL K L).length := by rw [wts_length, firstL_length]
  have hrow : ∀ r, r < (firstL K L).length → ((firstL K L).getD r []).length = S := fun r hr => by
    have hr' : r < (decAt K L).length := by rw [← firstL_length]; exact hr
    have hm := decAt_mem (List.getElem_mem hr')
    have e : (firstL K L).getD r [] = L.getD (decAt K L)[r] [] := by
      rw [← List.getElem_eq_getD (h := hr) []]
      simp [firstL]
    rw [e]
    have := there_pos hm
    rcases hs _ (there_lt hm) with h | h <;> omega
  have hFB : BytL (firstL K L) := fun x hx => by
    obtain ⟨j, _, rfl⟩ := List.mem_map.1 hx
    exact getD_bytL hB j
  have hFl : (firstL K L).length ≤ 1000 := by
    rw [firstL_length]
    have : (decAt K L).length ≤ (there L).length := by unfold decAt; rw [List.length_take]; omega
    have : (there L).length ≤ L.length := by
      unfold there
      exact Nat.le_trans (List.length_filter_le _ _) (by simp)
    omega
  have h := shardOf_any S bk bw hS2 (decB K L i) w (fun W hW p hp => by
    have := through1_any bk bw p (firstL K L) (wts (decAt K L) i) hFB hws hwl hFl (by omega) (fun r hr => by rw [hrow r hr]; exact hp) W (hT.below hW)
    rw [firstL_length] at this
    have e : fs (decAt K L).length (fun r => gmul ((wts (decAt K L) i).getD r 0) (((firstL K L).getD r []).getD p 0)) = decB K L i p := dot_dec hL hB hi
    rw [e] at this
    exact this)
  refine h.mono ?_
  rintro e w' ⟨v, rfl, hO, _, hB'⟩
  obtain ⟨g, cap, rfl, _, _⟩ := hO.form (by omega)
  refine ⟨g, cap, rfl, fun j u hu => ?_, hB'⟩
  have hj : j < S := by
    have := (List.getElem?_eq_some_iff.1 hu).1
    simpa [decRow] using this
  rw [WideShapes.add_plain, Nat.zero_add, hO.cellAt j (by omega)]
  exact hu

set_option maxRecDepth 100000 in
set_option maxHeartbeats 1000000 in
theorem decode_ok (K N S : Nat) (hmay : mayC K N S = true) (ao : Option Addr) (cap : Nat) (L : List (List Nat)) (hB : BytL L) (hl : L.length = N) (hs : ∀ r, r < L.length → (L.getD r []).length = 0 ∨ (L.getD r []).length = S) (hm : ∀ r, (L.getD r []).length ≤ 300) (w : World) (hr : ReadsL w ao L) :
    Calls Try.prog 19 #[Cd K N S, .slice ao L.length cap] w fun e w' => ∃ v, e = .returned (.tuple #[v, .int .i64 (decE K N S L)]) ∧ Rd w.heap.size w' v (decA K N S L) ∧ Below w.heap.size w w' := by
  obtain ⟨i8, hi8, hz80, hz81, hz82⟩ := info_parts info_u8
  have hKS := may_prod hmay
  obtain ⟨h1, h2, h3, h4, h5, h6⟩ := mayC_true hmay
  have HM := Hid.intro (fun w => rmay_any K N S w)
  rw [hmay] at HM
  obtain ⟨X, hX⟩ : ∃ X, X = K * S := ⟨_, rfl⟩
  have HT := Hid.intro (fun w => textBytes_any K S N X hX (by omega) w)
  have HA := Hid.intro (fun (W : World) (h : ReadsL W ao L) => areSized_any K N S (by omega) (by omega) (by omega) ao cap L (by omega) (fun r => by have := hm r; omega) W h)
  have hsz : sizedB N S L = true := sizedB_iff.2 ⟨hl, hs⟩
  rw [hsz] at HA
  have HF := Hid.intro (fun (W : World) (h : ReadsL W ao L) => firstThere_any K (by omega) ao cap L (by omega) (fun r => by have := hm r; omega) W h)
  have HTH := Hid.intro (fun (i : Nat) (hi : i < 256) (W : World) aa ca ak ck (h1 : Reads W aa (decAt K L)) (h2 : ReadsL W ak (firstL K L)) => through_any i hi aa ca (decAt K L) (decAt_byt (by omega)) (decAt_nodup K L) (by have := thT_le K L L.length; rw [thT_all] at this; omega) ak ck (firstL K L) W h1 h2)
  have HSH := Hid.intro (fun (i : Nat) (hi : i < 256) bk bw (W : World) (h : Thr W bk bw (firstL K L) (wts (decAt K L) i)) => shardD_any K S (by omega) (by omega) L (by omega) hB hs i hi bk bw W h)
  have HR := Hid.intro hr
  have E8 : Hid ((decAt K L).length < K → decE K N S L = 8 ∧ decA K N S L = []) := fun h => by
    have e := decE_few hmay (by omega) (fun r hr => (hs r hr).imp id (fun q => by omega)) (by have := decAt_few h; omega)
    exact ⟨e, by unfold decA; rw [e, if_neg (by decide)]⟩
  have E0 : Hid (¬ (decAt K L).length < K → (decE K N S L = 0 ∧ decA K N S L = decT K S L) ∧ (decAt K L).length = K) := fun h => by
    have q := decAt_enough h
    have e := decE_ok hmay (by omega) (fun r hr => (hs r hr).imp id (fun q => by omega)) (by omega : (K : Int) ≤ ((there L).length : Int))
    exact ⟨⟨e, by unfold decA; rw [e, if_pos rfl]; rfl⟩, decAt_length q⟩
  have b0 := Hid.intro (heap_alloc_new w (.cells #[.int .i64 (K : Int), .int .i64 (N : Int), .int .i64 (S : Int)] 23))
  have B0 := Hid.intro ((Below.refl _ w).alloc (Nat.le_refl _) (.cells #[.int .i64 (K : Int), .int .i64 (N : Int), .int .i64 (S : Int)] 23))
  have hXb : X ≤ 144 := by omega
  have DL := Hid.intro (decT_length K S L)
  have DTK : Hid (∀ i, i < K → (decT K S L).take ((i + 1) * S) = (decT K S L).take (i * S) ++ decRow K S L i) := fun i hi => decT_take (by omega) L hi
  have HX := Hid.intro hX
  have hAl : (decAt K L).length ≤ K := by have := thT_le K L L.length; rw [thT_all] at this; exact this
  generalize decE K N S L = E at E8 E0 ⊢
  generalize decA K N S L = A at E8 E0 ⊢
  rw [hl] at HA HF ⊢
  clear hr hB hs hm hmay hKS hX hsz hl
  go_enter Try.func19, Try.ntmps19
  go_wp2_with fail
  refine (HM.out _).mono ?_
  rintro e1 w1 ⟨rfl, B1⟩
  have b1 := (B1.block _ (lt_of_heap b0.out)).trans b0.out
  have B1w := B0.out.trans (B1.mono B0.out.size)
  obtain ⟨c0, c1, c2⟩ := cdK_cells b1
  have b1H := Hid.intro b1
  have B1H := Hid.intro B1w
  clear b1 B1w B1 b0 B0 HM
  go_wp2_with fail
  refine (HA.out _ (HR.out.below B1H.out)).mono ?_
  rintro e1 w2 ⟨rfl, B2⟩
  have b2 := (B2.block _ (lt_of_heap b1H.out)).trans b1H.out
  have B2w := B1H.out.trans (B2.mono B1H.out.size)
  clear c0 c1 c2
  obtain ⟨c0, c1, c2⟩ := cdK_cells b2
  have b2H := Hid.intro b2
  have B2H := Hid.intro B2w
  clear b2 B2w B2 b1H B1H HA
  go_wp2_with fail
  refine (HF.out _ (HR.out.below B2H.out)).mono ?_
  rintro e1 w3 ⟨va, vk, rfl, O3, ⟨ak, ck, rfl, K3⟩, B3⟩
  obtain ⟨aa, ca, rfl, RA3, _⟩ := row_of_owns O3
  have b3 := (B3.block _ (lt_of_heap b2H.out)).trans b2H.out
  have B3w := B2H.out.trans (B3.mono B2H.out.size)
  clear c0 c1 c2
  obtain ⟨c0, c1, c2⟩ := cdK_cells b3
  have b3H := Hid.intro b3
  have B3H := Hid.intro B3w
  have RAH := Hid.intro RA3
  have RKH := Hid.intro K3
  clear b3 B3w B3 b2H B2H HF O3 RA3 K3 HR
  by_cases hfew : (decAt K L).length < K
  · obtain ⟨rfl, rfl⟩ := E8.out hfew
    have f1 : ((decAt K L).length : Int) < (K : Int) := by omega
    clear E8 E0
    generalize (decAt K L).length = nA at hfew f1 hAl ⊢
    go_wp2
    go_ret2
    exact ⟨_, rfl, rd_nil _ _, B3H.out⟩
  · obtain ⟨⟨rfl, rfl⟩, hAK⟩ := E0.out hfew
    have f1 : ¬ ((decAt K L).length : Int) < (K : Int) := by omega
    have hFK : (firstL K L).length = K := by rw [firstL_length]; exact hAK
    rw [hAK] at f1 HTH ⊢
    rw [hFK] at HTH ⊢
    clear E8 E0 hfew hAK hFK hAl
    go_wp2_with fail
    refine (HT.out _).mono ?_
    rintro e1 w4 ⟨rfl, B4⟩
    have b4 := (B4.block _ (lt_of_heap b3H.out)).trans b3H.out
    have B4w := B3H.out.trans (B4.mono B3H.out.size)
    have RA4 := Hid.intro (RAH.out.below B4)
    have RK4 := Hid.intro (RKH.out.below B4)
    have b4H := Hid.intro b4
    have B4H := Hid.intro B4w
    clear c0 c1 c2 b4 B4w B4 b3H B3H RAH RKH HT
    go_wp2_with (at_make; refine wpList_make_own _ rfl _ _ 24 rfl 0 5 i8 (.int .u8 0) 1 Try.underlying24 hi8 hz80 hz81 _ _ _ X rfl rfl (by omega) (by rw [hz82]; omega) (by unfold maxLen; omega) (Nat.zero_le _) ?_)
    intro w5 hown hgrow
    have B5 : Below w4.heap.size w4 w5 := (Below.refl _ w4).grown hgrow (Nat.le_refl _) (fun k hk => by cases hk)
    have NE := Hid.intro (lt_of_heap b4H.out)
    have OH := Hid.intro hown
    have B5H := Hid.intro B5
    have b5 := (B5.block _ NE.out).trans b4H.out
    obtain ⟨c0, c1, c2⟩ := cdK_cells b5
    clear hown hgrow B5 b5
    go_wp2_with fail
    clear c0 c1 c2
    go_loopw [8, 34] (fun v i wr => ∃ t : Nat, t ≤ K ∧ i = .int .i64 t ∧ wr.ownsRow 0 5 1 v (t * S) (((decT K S L).take (t * S)).map U) ∧ (∀ k, v.ownBlock = some k → w4.heap.size ≤ k) ∧ Below w4.heap.size w4 wr) (fun _ i _ => K - (intOf i).toNat)
    case atStart => exact ⟨0, by omega, rfl, by simpa using OH.out, (fun k hk => by
      have e : w4.heap.size = k := by simpa [Value.ownBlock] using hk
      omega), B5H.out⟩
    case round =>
      clear OH B5H
      obtain ⟨t, ht, rfl, OT, NT, BT⟩ := hrel
      have OTH := Hid.intro OT
      have NTH := Hid.intro NT
      have BTH := Hid.intro BT
      clear OT NT BT
      have bt := (BTH.out.block _ NE.out).trans b4H.out
      obtain ⟨c0, c1, c2⟩ := cdK_cells bt
      by_cases hlt : t < K
      · have t256 : t < 256 := by omega
        have hu8 : (t : Int) % 256 = (t : Int) := by omega
        have hu8w : IntKind.u8.wrap (t : Int) = (t : Int) := IntWalk.u8_in _ (by omega)
        have t0 : (0 : Int) ≤ (t : Int) := by omega
        have t1 : (t : Int) < (K : Int) := by omega
        have hA := Hid.intro (HTH.out t t256 wr.drew aa ca ak ck (show Reads wr.drew aa _ from RA4.out.below BTH.out.drew) (show ReadsL wr.drew ak _ from RK4.out.below BTH.out.drew))
        have HS := Hid.intro (HSH.out t t256)
        have TK := DTK.out t hlt
        have h7 : t * S + S ≤ X := by rw [HX.out, ← Nat.succ_mul]; exact Nat.mul_le_mul_right _ hlt
        have h8 : (t + 1) * S = t * S + S := Nat.succ_mul t S
        rw [h8] at TK
        obtain ⟨Y, hY⟩ : ∃ Y, Y = t * S := ⟨_, rfl⟩
        rw [← hY] at OTH TK h7 h8
        have H8 := Hid.intro h8
        have TKH := Hid.intro TK
        have DR : Hid (((decRow K S L t).map U).length = S * 1) := by show _ = _; simp [decRow]
        have D1 : Hid (∀ u ∈ (decRow K S L t).map U, u.oneCell' = true) := bytes_one _
        have S0 : Hid (0 < S) := by show _ < _; omega
        clear bt h8 TK hY
        go_wp2_with fail
        go_region_held3 (fun w' => w'.cell? ⟨w.heap.size, 2, none⟩ = some (.int .i64 (S : Int)))
          (first | exact cellK E7 c2 | exact cellK E6 c2 | go_keep | exact (hgrow.cell_far _ (Nat.lt_of_lt_of_le NE.out (Nat.le_trans BTH.out.size E7.size)) (fun q => Nat.lt_irrefl _ (Nat.lt_of_lt_of_le NE.out (NTH.out _ q.symm)))).trans (cellK E7 c2))
          ((first
            | (go_at_call 29; refine hA.out.mono ?_; rintro e w6 ⟨bk, bw, rfl, T6, B6⟩; have E6 : Below wr.heap.size wr w6 := undrewK B6 rfl)
            | (go_at_call 28; refine (HS.out bk bw w6 T6).mono ?_; rintro e w7 ⟨g7, p7, rfl, N7, B7⟩; have E7 := E6.trans (B7.mono E6.size); have O7 := ownsRow_keep (w' := w7) OTH.out fun k hk => E7.block k (ownsRow_lt OTH.out hk))
            | (refine step_append_lies _ rfl _ _ 24 rfl 0 5 i8 (.int .u8 0) 1 1 Try.underlying24 hi8 hz80 hz81 hz82 rfl (by decide) u8 Y _ rfl O7 ⟨g7, 0, none⟩ S p7 ((decRow K S L t).map U) rfl DR.out N7 D1.out S0.out (by unfold maxLen; omega) (by omega) (Nat.zero_le _) w7.heap.size rfl ?_; intro g9 c9 w9 hown hgrow hat hgl)))
        all_goals
          have C9 : Chg (fun k => u8.ownBlock = some k) w7 w9 := (Chg.refl _ w7).grown hgrow (fun k hk _ => hk)
          have B7w := BTH.out.trans (E7.mono BTH.out.size)
          have B9 := B7w.trans (C9.below B7w.size (fun k hk => NTH.out k hk))
          have N9 : ∀ k, (Value.slice (some ⟨g9, 0, none⟩) (Y + S) c9).ownBlock = some k → w4.heap.size ≤ k := by
            intro k hk
            have e : g9 = k := by simpa [Value.ownBlock] using hk
            subst e
            rcases hat with hat | hat
            · exact NTH.out g9 hat
            · have := B7w.size; omega
          have O9 : w9.ownsRow 0 5 1 (.slice (some ⟨g9, 0, none⟩) (Y + S) c9) ((t + 1) * S) (((decT K S L).take ((t + 1) * S)).map U) := by
            rw [H8.out, TKH.out, List.map_append]
            exact hown
          have O9H := Hid.intro O9
          have N9H := Hid.intro N9
          have B9H := Hid.intro B9
          clear hown hgrow hat hgl O9 N9 B9 C9 B7w E6 E7 B6 B7 T6 O7 N7 c0 c1 c2 OTH NTH BTH
          go_wp2
          go_roundw
          case rel => exact ⟨t + 1, by omega, by go_num, O9H.out, N9H.out, B9H.out⟩
          case measure => simp [intOf]; omega
      · have hte : K = t := by omega
        have t1 : ¬ (t : Int) < (K : Int) := by omega
        have OE := OTH.out
        rw [← hte, List.take_of_length_le (by rw [DL.out]; exact Nat.le_refl _), ← DL.out] at OE
        have R := rd_of_owns OE NTH.out
        have RH := Hid.intro R
        have BW := Hid.intro (B4H.out.trans (BTH.out.mono B4H.out.size))
        have MW : Hid (∀ v bs, Rd w4.heap.size wr v bs → Rd w.heap.size wr v bs) := fun v bs h => by
          obtain ⟨a, c, e, q1, q2, q3⟩ := h
          exact ⟨a, c, e, q1, q2, fun ad ha => Nat.le_trans (Nat.le_of_lt NE.out) (q3 ad ha)⟩
        clear hlt ht hte OE R OTH
        go_wp2
        go_ret2
        exact ⟨_, rfl, MW.out _ _ RH.out, BW.out⟩

set_option maxRecDepth 100000 in
set_option maxHeartbeats 1000000 in
theorem rdecode_any (k n s : Int) (ao : Option Addr) (cap : Nat) (L : List (List Nat)) (hB : BytL L) (hl : L.length ≤ 300) (hm : ∀ r, (L.getD r []).length ≤ 300) (w : World) (hr : ReadsL w ao L) :
    Calls Try.prog 19 #[Cd k n s, .slice ao L.length cap] w fun e w' => ∃ v, e = .returned (.tuple #[v, .int .i64 (decE k n s L)]) ∧ Rd w.heap.size w' v (decA k n s L) ∧ Below w.heap.size w w' := by
  have HM := Hid.intro (fun w => rmay_any k n s w)
  have b0 := Hid.intro (heap_alloc_new w (.cells #[.int .i64 k, .int .i64 n, .int .i64 s] 23))
  have B0 := Hid.intro ((Below.refl _ w).alloc (Nat.le_refl _) (.cells #[.int .i64 k, .int .i64 n, .int .i64 s] 23))
  rcases hmay : mayC k n s with _ | _
  · have e1 := decE_may (L := L) hmay
    have eA : decA k n s L = [] := by unfold decA; rw [e1, if_neg (by decide)]
    rw [e1, eA]
    rw [hmay] at HM
    clear e1 eA hr hB hm
    go_enter Try.func19, Try.ntmps19
    go_wp2_with fail
    refine (HM.out _).mono ?_
    rintro e1 w1 ⟨rfl, B1⟩
    have B1w := B0.out.trans (B1.mono B0.out.size)
    clear B1
    go_wp2
    go_ret2
    exact ⟨_, rfl, rd_nil _ _, B1w⟩
  · obtain ⟨h1, h2, h3, h4, h5, h6⟩ := mayC_true hmay
    obtain ⟨K, rfl⟩ := Int.eq_ofNat_of_zero_le (show 0 ≤ k by omega)
    obtain ⟨N, rfl⟩ := Int.eq_ofNat_of_zero_le (show 0 ≤ n by omega)
    obtain ⟨S, rfl⟩ := Int.eq_ofNat_of_zero_le (show 0 ≤ s by omega)
    rcases hsz : sizedB N S L with _ | _
    · have hno : ¬ (L.length = N ∧ ∀ r, r < L.length → (L.getD r []).length = 0 ∨ (L.getD r []).length = S) := fun q => by
        rw [sizedB_iff.2 q] at hsz; cases hsz
      have e1 : decE K N S L = 4 := by
        by_cases hq : L.length = N
        · have : ∃ t, t < L.length ∧ ¬ ((L.getD t []).length = 0 ∨ (L.getD t []).length = S) := Classical.byContradiction fun q => hno ⟨hq, fun r hr => Classical.byContradiction fun q2 => q ⟨r, hr, q2⟩⟩
          obtain ⟨t, ht, hq2⟩ := this
          exact decE_size hmay (by omega) ht (by omega) (by omega)
        · exact decE_many hmay (by omega)
      have eA : decA K N S L = [] := by unfold decA; rw [e1, if_neg (by decide)]
      rw [e1, eA]
      rw [hmay] at HM
      have HA := Hid.intro (fun (W : World) (h : ReadsL W ao L) => areSized_any K N S (by omega) (by omega) (by omega) ao cap L (by omega) (fun r => by have := hm r; omega) W h)
      rw [hsz] at HA
      have HR := Hid.intro hr
      clear e1 eA hr hB hm hno hsz
      go_enter Try.func19, Try.ntmps19
      go_wp2_with fail
      refine (HM.out _).mono ?_
      rintro e1 w1 ⟨rfl, B1⟩
      have b1 := (B1.block _ (lt_of_heap b0.out)).trans b0.out
      have B1H := Hid.intro (B0.out.trans (B1.mono B0.out.size))
      obtain ⟨c0, c1, c2⟩ := cdK_cells b1
      clear b1 B1
      go_wp2_with fail
      refine (HA.out _ (HR.out.below B1H.out)).mono ?_
      rintro e1 w2 ⟨rfl, B2⟩
      have B2w := B1H.out.trans (B2.mono B1H.out.size)
      clear B2 c0 c1 c2
      go_wp2
      go_ret2
      exact ⟨_, rfl, rd_nil _ _, B2w⟩
    · obtain ⟨q1, q2⟩ := sizedB_iff.1 hsz
      exact decode_ok K N S hmay ao cap L hB q1 q2 hm w hr

end Go.Proofs.Ytebjkbhidpdpfaa
