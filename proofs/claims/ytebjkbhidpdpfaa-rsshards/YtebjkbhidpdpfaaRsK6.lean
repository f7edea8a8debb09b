/- Package rs: Encode. -/
import Derived.Test.YtebjkbhidpdpfaaRsK5
import Derived.Test.YtebjkbhidpdpfaaRsCut
namespace Go.Proofs.Ytebjkbhidpdpfaa
open Go.RowKit
open Bt

/-- The pieces of a text. -/
theorem cutR_any (K S : Nat) (hS : 1 ≤ S) (ao : Option Addr) (cap L : Nat) (text : List Nat) (hl : text.length = K * S) (hL : L = K * S) (hK : 1 ≤ K) (hlb : L ≤ 1000) (hcap : L ≤ cap) (w : World) (hr : Reads w ao text) :
    Calls Try.prog 27 #[.slice ao L cap, .int .i64 (S : Int)] w fun e w' => ∃ ak ck, e = .returned (.slice ak K ck) ∧ ReadsL w' ak (cutL K S text) ∧ Below w.heap.size w w' := by
  have hpos : 0 < text.length := by rw [hl]; exact Nat.mul_pos hK hS
  obtain ⟨bb, off, rfl, hc⟩ := reads_at hr hpos
  refine (cut_any K S hS bb off cap L hL hlb hcap w).mono ?_
  rintro e w' ⟨v, rfl, hO, _, hB⟩
  obtain ⟨ak, ck, e, hk⟩ := readsL_of_owns (R := cutL K S text) hO (cutL_length K S text) (fun r hr => by
    have e1 := cutL_getD (S := S) (text := text) hr
    rw [e1, piece_length hl hr]
    refine ⟨some ⟨bb, off + r * S, none⟩, cap - r * S, ?_, fun _ => ⟨_, rfl, fun j u hu => ?_⟩, fun h => by cases h⟩
    · rw [List.getElem?_map, List.getElem?_range hr]; rfl
    · obtain ⟨hj, hu⟩ := List.getElem?_eq_some_iff.1 hu
      have hj' : j < S := by rw [List.length_map, piece_length hl hr] at hj; exact hj
      have hin : r * S + j < text.length := by rw [hl]; exact mul_in hr hj'
      rw [WideShapes.add_plain, ← hu, List.getElem_map, piece_getElem _ hin, Nat.add_assoc]
      exact cellK hB (hc _ hin))
  rw [cutL_length] at e
  exact ⟨ak, ck, by rw [e], hk, hB⟩

/-- The first of the pieces are all of them. -/
theorem firstC_any (K S : Nat) (hS : 1 ≤ S) (hS2 : S ≤ 1000) (hK : K ≤ 256) (ao : Option Addr) (cap : Nat) (text : List Nat) (hl : text.length = K * S) (w : World) (hr : ReadsL w ao (cutL K S text)) :
    Calls Try.prog 26 #[.int .i64 (K : Int), .slice ao K cap] w fun e w' => ∃ aa ca ak ck, e = .returned (.tuple #[.slice aa K ca, .slice ak K ck]) ∧ Reads w' aa (List.range K) ∧ ReadsL w' ak (cutL K S text) ∧ Below w.heap.size w w' := by
  have h := firstThere_any K (by omega) ao cap (cutL K S text) (by rw [cutL_length]; exact hK) (fun r => by
    by_cases hr : r < K
    · rw [cutL_getD hr, piece_length hl hr]; exact hS2
    · rw [List.getD_eq_getElem?_getD, List.getElem?_eq_none (by rw [cutL_length]; omega)]; exact Nat.zero_le _) w hr
  have e1 : decAt K (cutL K S text) = List.range K := decAt_cut (by omega) hl
  have e2 : firstL K (cutL K S text) = cutL K S text := by
    unfold firstL
    rw [e1]
    apply List.ext_getElem
    · simp [cutL_length]
    · intro j h1 h2
      rw [List.getElem_map, List.getElem_range, ← List.getElem_eq_getD]
  rw [cutL_length] at h
  refine h.mono ?_
  rintro e w' ⟨va, vk, rfl, ho, ⟨ak, ck, rfl, hk⟩, hB⟩
  rw [e2] at hk
  rw [e1] at ho
  obtain ⟨aa, ca, rfl, ra, _⟩ := row_of_owns ho
  exact ⟨aa, ca, ak, ck, by rw [e2, cutL_length, List.length_range], ra, hk, hB⟩

/-- A shard, reckoned from the pieces. -/
theorem shardC_any (K S : Nat) (hS2 : S ≤ 1000) (hK : K ≤ 256) (text : List Nat) (ht : Byt text) (hl : text.length = K * S) (i : Nat) (hi : i < 256) (bk bw : Nat) (w : World) (hT : Thr w bk bw (cutL K S text) (wts (List.range K) i)) :
    Calls Try.prog 28 #[.int .i64 (S : Int), thrF bk bw] w fun e w' => ∃ v, e = .returned v ∧ w'.ownsRow 0 5 1 v (shL K S text S i).length ((shL K S text S i).map U) ∧ (∀ j, v.ownBlock = some j → w.heap.size ≤ j) ∧ Below w.heap.size w w' := by
  have hws := wts_byt (range_byt K hK) hi
  have hwl : (wts (List.range K) i).length = (cutL K S text).length := by rw [wts_length, List.length_range, cutL_length]
  have h := shardOf_any S bk bw hS2 (shB K S text i) w (fun W hW p hp => by
    have := through1_any bk bw p (cutL K S text) (wts (List.range K) i) (cutL_byt ht) hws hwl (by rw [cutL_length]; omega) (by omega) (fun r hr => by
      rw [cutL_length] at hr
      rw [cutL_getD hr, piece_length hl hr]; exact hp) W (hT.below hW)
    rw [cutL_length, dot_cut hK ht hl hi hp] at this
    exact this)
  rw [shL_length]
  exact h

theorem cell_setK {w : World} {b b' o o' : Nat} {u v : Value} (h : b < b') (hc : w.cell? ⟨b, o, none⟩ = some v) : (w.setCell ⟨b', o', none⟩ u).cell? ⟨b, o, none⟩ = some v :=
  (World.cell?_setCell_other _ _ _ _ (fun q => by
    have := congrArg Addr.block q
    simp at this
    omega)).trans hc

/-- Shards so far. -/
def encR (K S : Nat) (text : List Nat) (t r : Nat) : List Nat := if r < t then shL K S text S r else []

set_option maxRecDepth 100000 in
set_option maxHeartbeats 4000000 in
theorem encode_ok (K N S : Nat) (hmay : mayC K N S = true) (ao : Option Addr) (cap L : Nat) (text : List Nat) (ht : Byt text) (hl : text.length = K * S) (hL : L = K * S) (hcap : L ≤ cap) (w : World) (hr : Reads w ao text) :
    Calls Try.prog 10 #[Cd K N S, .slice ao L cap] w fun e w' => ∃ mb vs, e = .returned (.tuple #[.slice (some ⟨mb, 0, none⟩) N N, .int .i64 0]) ∧ Rag w.heap.size w' mb N N vs (encR K S text N) ∧ Below w.heap.size w w' := by
  obtain ⟨iR, hiR, hzR0, hzR1, hzR2⟩ := info_parts info_rowK
  have hKS := may_prod hmay
  obtain ⟨h1, h2, h3, h4, h5, h6⟩ := mayC_true hmay
  have HM := Hid.intro (fun w => rmay_any K N S w)
  rw [hmay] at HM
  have HT := Hid.intro (fun w => textBytes_any K S N L hL (by omega) w)
  have HC := Hid.intro (fun W (h : Reads W ao text) => cutR_any K S (by omega) ao cap L text hl hL (by omega) (by omega) hcap W h)
  have HF := Hid.intro (fun (W : World) ak ck (h : ReadsL W ak (cutL K S text)) => firstC_any K S (by omega) (by omega) (by omega) ak ck text hl W h)
  have HTH := Hid.intro (fun (i : Nat) (hi : i < 256) (W : World) aa ca ak ck (h1 : Reads W aa (List.range K)) (h2 : ReadsL W ak (cutL K S text)) => through_any i hi aa ca (List.range K) (range_byt K (by omega)) List.nodup_range (by rw [List.length_range]; omega) ak ck (cutL K S text) W h1 h2)
  rw [List.length_range, cutL_length] at HTH
  have HSH := Hid.intro (fun (i : Nat) (hi : i < 256) bk bw (W : World) (h : Thr W bk bw (cutL K S text) (wts (List.range K) i)) => shardC_any K S (by omega) (by omega) text ht hl i hi bk bw W h)
  have HR := Hid.intro hr
  have b0 := Hid.intro (heap_alloc_new w (.cells #[.int .i64 (K : Int), .int .i64 (N : Int), .int .i64 (S : Int)] 23))
  have B0 := Hid.intro ((Below.refl _ w).alloc (Nat.le_refl _) (.cells #[.int .i64 (K : Int), .int .i64 (N : Int), .int .i64 (S : Int)] 23))
  have hLb : L ≤ 144 := by omega
  clear hr ht hl hL hmay hKS
  go_enter Try.func10, Try.ntmps10
  go_wp2_with fail
  refine (HM.out _).mono ?_
  rintro e1 w1 ⟨rfl, B1⟩
  have b1 := (B1.block _ (lt_of_heap b0.out)).trans b0.out
  have B1w := B0.out.trans (B1.mono B0.out.size)
  have c0 : w1.cell? ⟨w.heap.size, 0, none⟩ = some (.int .i64 (K : Int)) := by rw [cell_of_row w1 _ 0 _ _ _ b1]; rfl
  have c1 : w1.cell? ⟨w.heap.size, 1, none⟩ = some (.int .i64 (N : Int)) := by rw [cell_of_row w1 _ 1 _ _ _ b1]; rfl
  have c2 : w1.cell? ⟨w.heap.size, 2, none⟩ = some (.int .i64 (S : Int)) := by rw [cell_of_row w1 _ 2 _ _ _ b1]; rfl
  have b1H := Hid.intro b1
  have B1H := Hid.intro B1w
  clear b1 B1w B1 b0 B0 HM
  go_wp2_with fail
  refine (HT.out _).mono ?_
  rintro e1 w2 ⟨rfl, B2⟩
  have b2 := (B2.block _ (lt_of_heap b1H.out)).trans b1H.out
  have B2w := B1H.out.trans (B2.mono B1H.out.size)
  clear c0 c1 c2
  have c0 : w2.cell? ⟨w.heap.size, 0, none⟩ = some (.int .i64 (K : Int)) := by rw [cell_of_row w2 _ 0 _ _ _ b2]; rfl
  have c2 : w2.cell? ⟨w.heap.size, 2, none⟩ = some (.int .i64 (S : Int)) := by rw [cell_of_row w2 _ 2 _ _ _ b2]; rfl
  have q0 : ((L : Int) != (L : Int)) = false := by simp
  have b2H := Hid.intro b2
  have B2H := Hid.intro B2w
  have R2H := Hid.intro (HR.out.below B2w)
  clear b2 B2w B2 b1H B1H HT HR
  go_wp2_with fail
  go_region_held3 (fun w' => w'.cell? ⟨w.heap.size, 0, none⟩ = some (.int .i64 (K : Int)) ∧ w'.cell? ⟨w.heap.size, 2, none⟩ = some (.int .i64 (S : Int)))
    (first | exact ⟨cellK E4 c0, cellK E4 c2⟩ | exact ⟨cellK E3 c0, cellK E3 c2⟩ | go_keep)
    ((first
      | (go_at_call 27; refine (HC.out w2.drew (show Reads w2.drew ao text from R2H.out)).mono ?_; rintro e w3 ⟨ak3, ck3, rfl, K3, B3⟩; have E3 : Below w2.heap.size w2 w3 := undrewK B3 rfl)
      | (go_at_call 26; refine (HF.out w3 ak3 ck3 K3).mono ?_; rintro e w4 ⟨aa, ca, ak, ck, rfl, RA4, RK4, B4⟩; have E4 := E3.trans (B4.mono E3.size))))
  all_goals
    have b4 := (E4.block _ (lt_of_heap b2H.out)).trans b2H.out
    have B4w := B2H.out.trans (E4.mono B2H.out.size)
    have c1 : w4.cell? ⟨w.heap.size, 1, none⟩ = some (.int .i64 (N : Int)) := by rw [cell_of_row w4 _ 1 _ _ _ b4]; rfl
    have b4H := Hid.intro b4
    have B4H := Hid.intro B4w
    have RAH := Hid.intro RA4
    have RKH := Hid.intro RK4
    clear b4 B4w B4 E4 E3 B3 K3 b2H B2H R2H RA4 RK4 c0 c2 HC HF
    go_wp2_with (at_make; refine wpList_make_full _ rfl _ _ 26 rfl 0 24 iR (.slice none 0 0) 1 Try.underlying26 hiR hzR0 hzR1 _ _ _ _ N rfl rfl (by omega) (by omega) (by rw [hzR2]; omega) (by unfold maxLen; omega) (Nat.zero_le _) ?_)
    intro w5 hown hgrow
    have B5 : Below w4.heap.size w4 w5 := (Below.refl _ w4).grown hgrow (Nat.le_refl _) (fun k hk => by cases hk)
    have G5 : Rag w.heap.size w5 w4.heap.size N N (fun _ => .slice none 0 0) (encR K S text 0) := by
      refine ⟨?_, (fun r _ => World.ownsRow_nil _ _ _ _), (fun r s k _ _ _ h => by cases h), B4H.out.size, (fun r k _ h => by cases h)⟩
      rw [toList_madeCells_one] at hown
      have e : (List.range N).map (fun _ => Value.slice none 0 0) = List.replicate N (.slice none 0 0) := by
        apply List.ext_getElem
        · simp
        · intro j h3 h4; simp
      rw [e]
      exact hown
    have GH := Hid.intro G5
    have B5H := Hid.intro B5
    have NE := Hid.intro (lt_of_heap b4H.out)
    have VE : Hid (∀ (t : Nat) (r : Nat), (if r = t then shL K S text S t else encR K S text t r) = encR K S text (t + 1) r) := fun t r => by
      unfold encR
      by_cases e : r = t
      · subst e; rw [if_pos rfl, if_pos (by omega)]
      · rw [if_neg e]
        by_cases q : r < t
        · rw [if_pos q, if_pos (by omega)]
        · rw [if_neg q, if_neg (by omega)]
    clear hown hgrow G5 B5 c1
    go_wp2_with fail
    go_loopw [33] (fun i wr => ∃ (t : Nat) (vs : Nat → Value), t ≤ N ∧ i = .int .i64 t ∧ Rag w.heap.size wr w4.heap.size N N vs (encR K S text t) ∧ (∀ r, t ≤ r → vs r = .slice none 0 0) ∧ Below w4.heap.size w4 wr) (fun i _ => N - (intOf i).toNat)
    case atStart => exact ⟨0, _, by omega, rfl, GH.out, (fun _ _ => rfl), B5H.out⟩
    case round =>
      clear GH B5H
      obtain ⟨t, vs, htN, rfl, GT, VT, BT⟩ := hrel
      have GTH := Hid.intro GT
      have VTH := Hid.intro VT
      have BTH := Hid.intro BT
      clear GT VT BT
      by_cases hlt : t < N
      · have t256 : t < 256 := by omega
        have hu8 : (t : Int) % 256 = (t : Int) := by omega
        have hu8w : IntKind.u8.wrap (t : Int) = (t : Int) := IntWalk.u8_in _ (by omega)
        have t0 : (0 : Int) ≤ (t : Int) := by omega
        have t1 : (t : Int) < (N : Int) := by omega
        have bt := (BTH.out.block _ NE.out).trans b4H.out
        have c2 : wr.cell? ⟨w.heap.size, 2, none⟩ = some (.int .i64 (S : Int)) := by rw [cell_of_row wr _ 2 _ _ _ bt]; rfl
        have HA := Hid.intro (HTH.out t t256 wr.drew aa ca ak ck (show Reads wr.drew aa _ from RAH.out.below BTH.out.drew) (show ReadsL wr.drew ak _ from RKH.out.below BTH.out.drew))
        have HS := Hid.intro (HSH.out t t256)
        have ct := GTH.out.cellTop hlt
        have ft := GTH.out.frozenTop t
        rw [VTH.out t (Nat.le_refl _)] at ct
        clear bt
        go_wp2_with fail
        go_region_held3 (fun w' => w'.cell? ⟨w.heap.size, 2, none⟩ = some (.int .i64 (S : Int)))
          (first | exact cellK E7 c2 | exact cellK E6 c2 | go_keep | exact cell_setK NE.out (cellK E7 c2))
          ((first
            | (go_at_call 29; refine HA.out.mono ?_; rintro e w6 ⟨bk, bw, rfl, T6, B6⟩; have E6 : Below wr.heap.size wr w6 := undrewK B6 rfl)
            | (go_at_call 28; refine (HS.out bk bw w6 T6).mono ?_; rintro e w7 ⟨v7, rfl, O7, N7, B7⟩; obtain ⟨a7, p7, e7, _⟩ := ownsRow_form O7; subst e7; have E7 := E6.trans (B7.mono E6.size); have ct7 := cellK E7 ct; have ft7 := (frozen_block (E7.block _ (cell_lt ct))).trans ft)))
        all_goals
          have G7 := GTH.out.app hlt (Nat.le_trans (Nat.le_of_lt NE.out) BTH.out.size) O7 ((below_chg E7).mono (fun _ f _ => f.elim)) (fun k hk => .inr (Nat.le_trans E6.size (N7 k hk)))
          have G8 := G7.congr (R' := encR K S text (t + 1)) (fun r _ => VE.out t r)
          have B8 := (BTH.out.trans (E7.mono BTH.out.size)).setCell (p := ⟨w4.heap.size, t, none⟩) (Nat.le_refl _) (.slice a7 (shL K S text S t).length p7)
          have G8H := Hid.intro G8
          have B8H := Hid.intro B8
          clear G7 G8 B8 E6 E7 B6 B7 T6 O7 N7 ct ft ct7 ft7 c2 GTH BTH
          go_wp2
          go_roundw
          case rel => exact ⟨t + 1, _, by omega, by go_num, G8H.out, (fun r hr => by
            show (if r = t then _ else vs r) = _
            rw [if_neg (by omega)]
            exact VTH.out r (by omega)), B8H.out⟩
          case measure => simp [intOf]; omega
      · have hte : N = t := by omega
        have t1 : ¬ (t : Int) < (N : Int) := by omega
        subst hte
        clear hlt htN
        have BW := Hid.intro (B4H.out.trans (BTH.out.mono B4H.out.size))
        go_wp2
        go_ret2
        exact ⟨_, rfl, ⟨_, GTH.out⟩, BW.out⟩

theorem cdK_cells {w : World} {b : Nat} {K N S : Int} (h : w.heap[b]? = some (.cells #[.int .i64 K, .int .i64 N, .int .i64 S] 23 (0, 0))) :
    w.cell? ⟨b, 0, none⟩ = some (.int .i64 K) ∧ w.cell? ⟨b, 1, none⟩ = some (.int .i64 N) ∧ w.cell? ⟨b, 2, none⟩ = some (.int .i64 S) :=
  ⟨by rw [cell_of_row w _ 0 _ _ _ h]; rfl, by rw [cell_of_row w _ 1 _ _ _ h]; rfl, by rw [cell_of_row w _ 2 _ _ _ h]; rfl⟩

theorem shs_nil (B : Nat) (w : World) : Shs B w (.slice none 0 0) [] := .inl ⟨rfl, none, 0, rfl, fun _ => rfl⟩

set_option maxRecDepth 100000 in
set_option maxHeartbeats 1000000 in
theorem rencode_any (k n s : Int) (ao : Option Addr) (cap : Nat) (text : List Nat) (ht : Byt text) (_ : text.length ≤ 300) (w : World) (hr : Reads w ao text) (hroom : Room ao cap text.length) :
    Calls Try.prog 10 #[Cd k n s, .slice ao text.length cap] w fun e w' => ∃ v, e = .returned (.tuple #[v, .int .i64 (encE k n s text.length)]) ∧ Shs w.heap.size w' v (encA k n s text) ∧ Below w.heap.size w w' := by
  have HM := Hid.intro (fun w => rmay_any k n s w)
  have b0 := Hid.intro (heap_alloc_new w (.cells #[.int .i64 k, .int .i64 n, .int .i64 s] 23))
  have B0 := Hid.intro ((Below.refl _ w).alloc (Nat.le_refl _) (.cells #[.int .i64 k, .int .i64 n, .int .i64 s] 23))
  rcases hmay : mayC k n s with _ | _
  · have e1 : encE k n s text.length = 1 := by unfold encE; rw [hmay]; rfl
    have eA : encA k n s text = [] := by unfold encA; rw [e1, if_neg (by decide)]
    rw [e1, eA]
    rw [hmay] at HM
    clear e1 eA hr ht hroom
    go_enter Try.func10, Try.ntmps10
    go_wp2_with fail
    refine (HM.out _).mono ?_
    rintro e1 w1 ⟨rfl, B1⟩
    have B1w := B0.out.trans (B1.mono B0.out.size)
    clear B1
    go_wp2
    go_ret2
    exact ⟨_, rfl, shs_nil _ _, B1w⟩
  · obtain ⟨h1, h2, h3, h4, h5, h6⟩ := mayC_true hmay
    obtain ⟨K, rfl⟩ := Int.eq_ofNat_of_zero_le (show 0 ≤ k by omega)
    obtain ⟨N, rfl⟩ := Int.eq_ofNat_of_zero_le (show 0 ≤ n by omega)
    obtain ⟨S, rfl⟩ := Int.eq_ofNat_of_zero_le (show 0 ≤ s by omega)
    have hKS := may_prod hmay
    by_cases hlen : text.length = K * S
    · have e1 : encE K N S text.length = 0 := by unfold encE; rw [if_pos hmay, if_pos (by rw [hlen]; simp)]
      have eA : encA K N S text = encL K N S text := by unfold encA; rw [e1, if_pos rfl]; rfl
      rw [e1, eA]
      refine (encode_ok K N S hmay ao cap text.length text ht hlen hlen hroom.2 w hr).mono ?_
      rintro e w' ⟨mb, vs, rfl, hG, hB⟩
      have hG' := hG.congr (R' := shL K S text S) (fun r hr => by unfold encR; rw [if_pos hr])
      obtain ⟨A, C, hS, _⟩ := hG'.shs
      exact ⟨_, rfl, .inr ⟨mb, 0, N, A, C, by rw [encL_length], hS⟩, hB⟩
    · have e1 : encE K N S text.length = 4 := by
        unfold encE
        rw [if_pos hmay, if_neg]
        rw [← Int.natCast_mul]; omega
      have eA : encA K N S text = [] := by unfold encA; rw [e1, if_neg (by decide)]
      rw [e1, eA]
      rw [hmay] at HM
      obtain ⟨L, hL⟩ : ∃ L, L = K * S := ⟨_, rfl⟩
      rw [← hL] at hKS hlen
      have HT := Hid.intro (fun w => textBytes_any K S N L hL (by omega) w)
      have q0 : ((text.length : Int) != (L : Int)) = true := by rw [bne_iff_ne]; omega
      clear e1 eA hr ht hroom hL
      go_enter Try.func10, Try.ntmps10
      go_wp2_with fail
      refine (HM.out _).mono ?_
      rintro e1 w1 ⟨rfl, B1⟩
      have b1 := (B1.block _ (lt_of_heap b0.out)).trans b0.out
      have B1H := Hid.intro (B0.out.trans (B1.mono B0.out.size))
      obtain ⟨c0, c1, c2⟩ := cdK_cells b1
      clear b1 B1
      go_wp2_with fail
      refine (HT.out _).mono ?_
      rintro e1 w2 ⟨rfl, B2⟩
      have B2w := B1H.out.trans (B2.mono B1H.out.size)
      clear B2 c0 c1 c2
      go_wp2
      go_ret2
      exact ⟨_, rfl, shs_nil _ _, B2w⟩

end Go.Proofs.Ytebjkbhidpdpfaa
