/- Package rs: through (a closure over factors and known shards), what it reckons at a place, and shardOf. -/
import Derived.Test.YtebjkbhidpdpfaaRsK2
import Derived.Deep.RegionHeld3
namespace Go.Proofs.Ytebjkbhidpdpfaa
open Go.RowKit
open Bt

theorem undrewK {B : Nat} {w w' : World} (h : Below w.drew.heap.size w.drew w') (hB : B = w.heap.size) : Below B w w' := by
  subst hB
  exact ⟨h.os, h.tape, h.output, h.size, h.block⟩

theorem cellK {w w' : World} {a : Addr} {v : Value} (h : Below w.heap.size w w') (hc : w.cell? a = some v) : w'.cell? a = some v := (h.cell (cell_lt hc)).trans hc

/-- What the closure holds: the known shards, and the factors. -/
def Thr (w : World) (bk bw : Nat) (KL : List (List Nat)) (ws : List Nat) : Prop :=
  (∃ ka kc, w.cell? ⟨bk, 0, none⟩ = some (.slice ka KL.length kc) ∧ ReadsL w ka KL) ∧ ∃ aw cw, w.cell? ⟨bw, 0, none⟩ = some (.slice aw ws.length cw) ∧ Reads w aw ws

theorem Thr.below {w w' : World} {bk bw : Nat} {KL : List (List Nat)} {ws : List Nat} (h : Thr w bk bw KL ws) (hb : Below w.heap.size w w') : Thr w' bk bw KL ws := by
  obtain ⟨⟨ka, kc, h1, h2⟩, aw, cw, h3, h4⟩ := h
  exact ⟨⟨ka, kc, cellK hb h1, h2.below hb⟩, aw, cw, cellK hb h3, h4.below hb⟩

/-- One more place is filled. -/
theorem grow_set {α : Type} (f : Nat → α) (g : Nat → Nat) {S t : Nat} (h : t < S) : (((List.range t).map g ++ List.replicate (S - t) 0).map f).set t (f (g t)) = ((List.range (t + 1)).map g ++ List.replicate (S - (t + 1)) 0).map f := by
  apply List.ext_getElem
  · simp; omega
  · intro j h1 h2
    rw [List.getElem_set]
    by_cases e : t = j
    · subst e
      rw [if_pos rfl]
      simp only [List.getElem_map]
      rw [List.getElem_append_left (by simp)]
      simp
    · rw [if_neg e]
      simp only [List.getElem_map]
      by_cases q : j < t
      · rw [List.getElem_append_left (by simp; omega), List.getElem_append_left (by simp; omega)]
        simp
      · rw [List.getElem_append_right (by simp; omega), List.getElem_append_right (by simp; omega)]
        simp

abbrev thrF (bk bw : Nat) : Value := .func (.func 36) #[] #[.pointer (some ⟨bk, 0, none⟩), .pointer (some ⟨bw, 0, none⟩)]

set_option maxRecDepth 100000 in
set_option maxHeartbeats 1000000 in
theorem through_any (x : Nat) (hx : x < 256) (ao : Option Addr) (cap : Nat) (at_ : List Nat) (hat : Byt at_) (hd : at_.Nodup) (hl : at_.length ≤ 300) (ka : Option Addr) (kc : Nat) (KL : List (List Nat)) (w : World) (hr : Reads w ao at_) (hk : ReadsL w ka KL) :
    Calls Try.prog 29 #[.int .u8 (x : Int), .slice ao at_.length cap, .slice ka KL.length kc] w fun e w' => ∃ bk bw, e = .returned (thrF bk bw) ∧ Thr w' bk bw KL (wts at_ x) ∧ Below w.heap.size w w' := by
  have B0 : Below w.heap.size w (w.alloc (.cells #[.slice ka KL.length kc] 26)) := (Below.refl _ w).alloc (Nat.le_refl _) _
  have b0 := heap_alloc_new w (.cells #[.slice ka KL.length kc] 26)
  have HW := Hid.intro (weights_ok ao cap at_ hat hd (by omega) x hx (w.alloc (.cells #[.slice ka KL.length kc] 26)) (hr.below B0))
  have HK := Hid.intro (hk.below B0)
  have B0H := Hid.intro B0
  have b0H := Hid.intro b0
  clear hr hat hd hk B0 b0
  go_enter Try.func29, Try.ntmps29
  go_wp2_with fail
  refine HW.out.mono ?_
  rintro e w1 ⟨v, rfl, O1, N1, B1⟩
  have b1 := (B1.block _ (lt_of_heap b0H.out)).trans b0H.out
  have B1w := B0H.out.trans (B1.mono B0H.out.size)
  have K1 := HK.out.below B1
  obtain ⟨aw, cw, e1, R1, _⟩ := row_of_owns (show w1.ownsRow 0 5 1 v (wts at_ x).length ((wts at_ x).map U) by rw [wts_length]; exact O1)
  subst e1
  have bH := Hid.intro b1
  have BH := Hid.intro B1w
  have KH := Hid.intro K1
  have RH := Hid.intro R1
  clear HW b1 B1w K1 R1 O1 N1 B1 HK b0H B0H
  obtain ⟨ws, hws⟩ : ∃ ws, ws = wts at_ x := ⟨_, rfl⟩
  rw [← hws] at RH ⊢
  have HWS := Hid.intro hws
  clear hws
  go_wp2
  go_ret
  have BA : Below w1.heap.size w1 (w1.alloc (.cells #[.slice aw ws.length cw] 24)) := (Below.refl _ w1).alloc (Nat.le_refl _) _
  have bk := (BA.block _ (lt_of_heap bH.out)).trans bH.out
  rw [← HWS.out]
  refine ⟨w.heap.size, w1.heap.size, rfl, ⟨⟨ka, kc, ?_, KH.out.below BA⟩, aw, cw, ?_, RH.out.below BA⟩, BH.out.trans (BA.mono BH.out.size)⟩
  · rw [cell_of_row _ _ 0 _ _ _ bk]; rfl
  · exact (cellNew w1 _ _).1

set_option maxRecDepth 100000 in
set_option maxHeartbeats 1000000 in
theorem shardOf_any (S bk bw : Nat) (hS : S ≤ 1000) (g : Nat → Nat) (w : World)
    (hf : ∀ W, Below w.heap.size w W → ∀ p, p < S → Calls Try.prog 36 #[.int .i64 (p : Int), .pointer (some ⟨bk, 0, none⟩), .pointer (some ⟨bw, 0, none⟩)] W fun e w' => e = .returned (U (g p)) ∧ Below W.heap.size W w') :
    Calls Try.prog 28 #[.int .i64 (S : Int), thrF bk bw] w fun e w' => ∃ v, e = .returned v ∧ w'.ownsRow 0 5 1 v S (((List.range S).map g).map U) ∧ (∀ j, v.ownBlock = some j → w.heap.size ≤ j) ∧ Below w.heap.size w w' := by
  obtain ⟨i8, hi8, hz80, hz81, hz82⟩ := info_parts info_u8
  have HF := Hid.intro hf
  clear hf
  go_enter Try.func28, Try.ntmps28
  go_wp2_with (at_make; refine wpList_make_full _ rfl _ _ 24 rfl 0 5 i8 (.int .u8 0) 1 Try.underlying24 hi8 hz80 hz81 _ _ _ _ S rfl rfl (by omega) (by omega) (by rw [hz82]; omega) (by unfold maxLen; omega) (Nat.zero_le _) ?_)
  intro w2 hown hgrow
  have B2 : Below w.heap.size w w2 := (Below.refl _ w).grown hgrow (Nat.le_refl _) (fun k hk => by cases hk)
  have O2 : w2.ownsRow 0 5 1 (.slice (some ⟨w.heap.size, 0, none⟩) S S) S (((List.range 0).map g ++ List.replicate (S - 0) 0).map U) := by
    rw [toList_madeCells_one] at hown
    rw [show ((List.range 0).map g ++ List.replicate (S - 0) 0) = List.replicate S 0 by simp, List.map_replicate]
    exact hown
  have OH := Hid.intro O2
  have BH := Hid.intro B2
  clear hown hgrow B2 O2
  go_wp2_with fail
  go_loopw [11] (fun i ws => ∃ t : Nat, t ≤ S ∧ i = .int .i64 t ∧ ws.ownsRow 0 5 1 (.slice (some ⟨w.heap.size, 0, none⟩) S S) S (((List.range t).map g ++ List.replicate (S - t) 0).map U) ∧ Below w.heap.size w ws) (fun i _ => S - (intOf i).toNat)
  case atStart => exact ⟨0, by omega, rfl, OH.out, BH.out⟩
  case round =>
    clear OH BH
    obtain ⟨t, ht, rfl, hO, hB⟩ := hrel
    by_cases hlt : t < S
    · have HC := Hid.intro (HF.out wr hB t hlt)
      have t1 : (t : Int) < (S : Int) := by omega
      have t0 : (0 : Int) ≤ (t : Int) := by omega
      have SET := Hid.intro (grow_set U g hlt)
      have OH := Hid.intro hO
      have BH := Hid.intro hB
      clear hO hB
      generalize g t = Y at HC SET
      go_wp2_with fail
      refine HC.out.mono ?_
      rintro e w3 ⟨rfl, B3⟩
      have O3 := ownsRow_keep OH.out fun k hk => B3.block k (ownsRow_lt OH.out hk)
      have B3w := BH.out.trans (B3.mono BH.out.size)
      have hST := (O3.stored t (U Y)).1
      rw [SET.out] at hST
      obtain ⟨u, cu⟩ : ∃ u, w3.cell? ⟨w.heap.size, t, none⟩ = some u := by
        rw [O3.cellAt t (by omega)]
        exact ⟨_, List.getElem?_eq_getElem (by simp; omega)⟩
      have fu : w3.frozen? ⟨w.heap.size, t, none⟩ = false := O3.frozenAt t
      have STH := Hid.intro hST
      have B3H := Hid.intro B3w
      clear B3 O3 hST B3w OH BH HC SET
      go_wp2
      go_roundw
      case rel => exact ⟨t + 1, by omega, by go_num, STH.out, B3H.out.setCell (p := ⟨w.heap.size, t, none⟩) (Nat.le_refl _) _⟩
      case measure => simp [intOf]; omega
    · have hte : S = t := by omega
      have t1 : ¬ (t : Int) < (S : Int) := by omega
      rw [← hte, Nat.sub_self, List.replicate_zero, List.append_nil] at hO
      clear hte ht hlt
      go_wp2
      go_ret
      exact ⟨_, rfl, by rw [← List.map_map]; exact hO, (fun j hj => by
        have e : w.heap.size = j := by simpa [Value.ownBlock] using hj
        rw [← e]; exact Nat.le_refl _), hB⟩

set_option maxRecDepth 100000 in
set_option maxHeartbeats 1000000 in
theorem through1_any (bk bw p : Nat) (KL : List (List Nat)) (ws : List Nat) (hB : BytL KL) (hws : Byt ws) (hlen : ws.length = KL.length) (hl : KL.length ≤ 1000) (hp0 : p ≤ 1000) (hp : ∀ r, r < KL.length → p < (KL.getD r []).length) (w : World) (hT : Thr w bk bw KL ws) :
    Calls Try.prog 36 #[.int .i64 (p : Int), .pointer (some ⟨bk, 0, none⟩), .pointer (some ⟨bw, 0, none⟩)] w fun e w' => e = .returned (U (fs KL.length (fun r => gmul (ws.getD r 0) ((KL.getD r []).getD p 0)))) ∧ Below w.heap.size w w' := by
  have HY := Hid.intro hB
  have HWS := Hid.intro hws
  have HP := Hid.intro hp
  have HLEN := Hid.intro hlen
  obtain ⟨⟨ka, kc, c1, hk⟩, aw, cw, c2, hr⟩ := hT
  rw [hlen] at c2
  have HK := Hid.intro hk
  have HR := Hid.intro hr
  have C2 := Hid.intro c2
  obtain ⟨F, hF⟩ : ∃ F : Nat → Nat, F = fun r => gmul (ws.getD r 0) ((KL.getD r []).getD p 0) := ⟨_, rfl⟩
  rw [← hF]
  have HF := Hid.intro (fun r => show F r = gmul (ws.getD r 0) ((KL.getD r []).getD p 0) by rw [hF])
  have HFL := Hid.intro (fun t => show fs t F < 256 from fs_lt (fun k _ => by rw [HF.out]; exact gmul_lt (getD_byt hws _) _))
  obtain ⟨n, hn⟩ : ∃ n, n = KL.length := ⟨_, rfl⟩
  rw [← hn] at c1 c2 hl C2 ⊢
  have HN := Hid.intro hn
  clear hB hws hp hlen hk hr hF hn c2
  go_enter Try.func36, Try.ntmps36
  go_wp2_with fail
  clear c1
  go_loopw [5, 10] (fun s i wr => ∃ t : Nat, t ≤ n ∧ i = .int .i64 t ∧ s = .int .u8 ((fs t F : Nat) : Int) ∧ Below w.heap.size w wr) (fun _ i _ => n - (intOf i).toNat)
  case atStart => exact ⟨0, by omega, rfl, rfl, Below.refl _ _⟩
  case round =>
    obtain ⟨t, ht, rfl, rfl, hB⟩ := hrel
    by_cases hlt : t < n
    · have hlt' : t < KL.length := by rw [← HN.out]; exact hlt
      have hlw : t < ws.length := by rw [HLEN.out]; exact hlt'
      obtain ⟨lb, lo, rfl, hrow⟩ := HK.out (by omega)
      obtain ⟨ra, rc, hcell, hrd, _⟩ := hrow t hlt'
      have hpt := HP.out t hlt'
      obtain ⟨rb, ro, rfl, hc⟩ := reads_at hrd (by omega)
      obtain ⟨ab, aoff, rfl, hca⟩ := reads_at HR.out (by omega)
      have ct : wr.cell? ⟨lb, lo + t, none⟩ = some (.slice (some ⟨rb, ro, none⟩) (KL.getD t []).length rc) := cellK hB hcell
      have cp0 := hc p hpt
      have cp : wr.cell? ⟨rb, ro + p, none⟩ = some (U ((KL.getD t []).getD p 0)) := by
        rw [← List.getElem_eq_getD (h := hpt) 0]; exact cellK hB cp0
      have ca0 := hca t hlw
      have ca : wr.cell? ⟨ab, aoff + t, none⟩ = some (U (ws.getD t 0)) := by
        rw [← List.getElem_eq_getD (h := hlw) 0]; exact cellK hB ca0
      have cw2 : wr.cell? ⟨bw, 0, none⟩ = some (.slice (some ⟨ab, aoff, none⟩) n cw) := cellK hB C2.out
      have hy := getD_byt HWS.out t
      have hz := getD_byt (getD_bytL HY.out t) p
      have hs := HFL.out t
      have hs1 := HFL.out (t + 1)
      have hft := HF.out t
      have HM := Hid.intro (fun W => fmul_any (ws.getD t 0) ((KL.getD t []).getD p 0) hy hz W)
      rw [← hft] at HM
      have hfl : F t < 256 := by rw [hft]; exact gmul_lt hy _
      have HA := Hid.intro (fun W => add_same (fs t F) (F t) hs hfl W)
      have e1 : fs t F ^^^ F t = fs (t + 1) F := rfl
      rw [e1] at HA
      have t0 : (0 : Int) ≤ (t : Int) := by omega
      have t1 : (t : Int) < (n : Int) := by omega
      have p0 : (0 : Int) ≤ (p : Int) := by omega
      have HBW := Hid.intro hB
      clear hft hc hca ca0 cp0 hcell hrd hrow e1 hlt' hlw hB
      generalize (KL.getD t []).getD p 0 = z at cp hz HM
      generalize ws.getD t 0 = y at ca hy HM
      generalize (KL.getD t []).length = rl at ct hpt
      generalize fs t F = A at hs HA ⊢
      obtain ⟨A1, hA1⟩ : ∃ A1, A1 = fs (t + 1) F := ⟨_, rfl⟩
      rw [← hA1] at hs1 HA
      have HA1 := Hid.intro hA1
      clear hA1
      go_wp2_with fail
      go_region_held3 (fun w' => w'.cell? ⟨bw, 0, none⟩ = some (.slice (some ⟨ab, aoff, none⟩) n cw) ∧ w'.cell? ⟨ab, aoff + t, none⟩ = some (U y) ∧ w'.cell? ⟨rb, ro + p, none⟩ = some (U z))
        (first | exact ⟨cellK E5 cw2, cellK E5 ca, cellK E5 cp⟩ | go_keep)
        ((first
          | (go_at_call 38; refine (HM.out wr.drew).mono ?_; rintro e w5 ⟨rfl, B5⟩; have E5 : Below wr.heap.size wr w5 := undrewK B5 rfl)
          | (go_at_call 37; refine (HA.out w5).mono ?_; rintro e w6 ⟨rfl, rfl⟩)))
      all_goals
        have BW := HBW.out.trans (E5.mono HBW.out.size)
        clear ct cp ca cw2 B5 E5
        go_wp2
        go_roundw
        case rel => exact ⟨t + 1, by omega, by go_num, by rw [HA1.out], BW⟩
        case measure => simp [intOf]; omega
    · have hte : n = t := by omega
      have t1 : ¬ (t : Int) < (n : Int) := by omega
      subst hte
      clear hlt ht
      go_wp2
      go_ret
      exact ⟨rfl, hB⟩

end Go.Proofs.Ytebjkbhidpdpfaa
