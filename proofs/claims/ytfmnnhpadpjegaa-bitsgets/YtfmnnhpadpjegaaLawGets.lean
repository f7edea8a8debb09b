/- BitsGets: whatever bytes and widths come in, it returns true: the fields that are read, and what is left, are the document's; no condition. -/
import Derived.Test.YtfmnnhpadpjegaaRef
namespace Go.Proofs.Ytfmnnhpadpjegaa.LawGets
open Go.ChangeShapes Go.WideShapes Go.ChangeAt Go.RowKit
open Bt

/-- The document's bits of whatever bytes came in. -/
theorem bits_any (a : Option Addr) (cap : Nat) (bs : List Nat) (h2 : bs.length ≤ 200) (h256 : ∀ b ∈ bs, b < 256) (w : World) (hr : Reads w a bs) :
    Calls Try.prog 19 #[.slice a bs.length cap] w fun e w' => ∃ ao ca ga, e = .returned (.slice ao (8 * bs.length) ca) ∧ 8 * bs.length ≤ ca ∧ ca ≤ 9223372036854775807 ∧ (0 < 8 * bs.length → ao = some ⟨ga, 0, none⟩) ∧ w.heap.size ≤ ga ∧
      (0 < 8 * bs.length → ∃ t c, w'.heap[ga]? = some (.cells c t (0, 0)) ∧ t = 3) ∧ (∀ j, (hj : j < (unpack bs).length) → w'.cell? ⟨ga, j, none⟩ = some (I (unpack bs)[j])) ∧ Below w.heap.size w w' := by
  have ul := unpack_length bs
  by_cases h0 : bs.length = 0
  · rw [h0]
    refine (bits_zero a cap w).mono ?_
    rintro e w' ⟨rfl, rfl⟩
    exact ⟨none, 0, w.heap.size, rfl, by omega, by omega, fun h => absurd h (by omega), Nat.le_refl _, fun h => absurd h (by omega), fun j hj => absurd hj (by omega), Below.refl _ _⟩
  · obtain ⟨bb, off, rfl, hc⟩ := reads_at hr (by omega)
    refine (bits_pos bb off cap bs (by omega) h2 h256 w hc).mono ?_
    rintro e w' ⟨v, rfl, R, N, B⟩
    rcases R.2 with ⟨_, h⟩ | ⟨g, ca, cur, hv, _, hh, hn, hm, _, _⟩
    · omega
    · subst hv
      unfold maxLen at hm
      rw [ul] at hn
      refine ⟨some ⟨g, 0, none⟩, ca, g, by rw [ul], hn, by omega, fun _ => rfl, N g rfl, fun _ => ⟨_, _, hh, rfl⟩, fun j hj => ?_, B⟩
      rw [R.cellAt j (by omega)]
      simp [hj]

theorem num_take (bs : List Nat) (pos M : Nat) (h : pos + M ≤ (unpack bs).length) (j : Nat) (hj : j < (((unpack bs).drop pos).take M).length) :
    (((unpack bs).drop pos).take M)[j] = (unpack bs)[pos + j]'(by simp at hj; omega) := by
  simp

theorem walk_far1 (a0 a1 : Option Addr) (len0 cap0 len1 cap1 : Nat) (w : World) (hl0 : len0 ≤ maxLen) (h : 200 < len0) :
    Calls Try.prog 4 #[.slice a0 len0 cap0, .slice a1 len1 cap1] w fun e w' => e = .returned (.bool true) ∧ Below w.heap.size w w' := by
  unfold maxLen at hl0
  go_enter Try.func4, Try.ntmps4
  go_wp2_with (go_at_call 9; refine (alive_any _).mono ?_; rintro e w1 ⟨rfl, B1⟩)
  go_ret
  exact ⟨rfl, B1⟩

theorem walk_far2 (a0 a1 : Option Addr) (len0 cap0 len1 cap1 : Nat) (w : World) (hl1 : len1 ≤ maxLen) (h0 : len0 ≤ 200) (h : 100 < len1) :
    Calls Try.prog 4 #[.slice a0 len0 cap0, .slice a1 len1 cap1] w fun e w' => e = .returned (.bool true) ∧ Below w.heap.size w w' := by
  unfold maxLen at hl1
  go_enter Try.func4, Try.ntmps4
  go_wp2_with (go_at_call 9; refine (alive_any _).mono ?_; rintro e w1 ⟨rfl, B1⟩)
  go_ret
  exact ⟨rfl, B1⟩

set_option maxRecDepth 100000 in
set_option maxHeartbeats 2000000 in
theorem walk_pos (a0 : Option Addr) (cap0 : Nat) (bs : List Nat) (lb lo cap1 : Nat) (ms : List Int) (n1 : Nat) (w : World) (h200 : bs.length ≤ 200) (h256 : ∀ b ∈ bs, b < 256) (hr : Reads w a0 bs)
    (h1 : 0 < n1) (h100 : n1 ≤ 100) (hc : ∀ j, j < n1 → w.cell? ⟨lb, lo + j, none⟩ = some (.int .i64 (ms.getD j 0))) :
    Calls Try.prog 4 #[.slice a0 bs.length cap0, .slice (some ⟨lb, lo, none⟩) n1 cap1] w fun e w' => e = .returned (.bool true) ∧ Below w.heap.size w w' := by
  have HC := Hid.intro hc
  have HR := Hid.intro hr
  have H256 := Hid.intro h256
  have ul := Hid.intro (unpack_length bs)
  clear hc hr h256
  have hd1 : decide ((200 : Int) < (bs.length : Int)) = false := by simp; omega
  have hd2 : decide ((100 : Int) < (n1 : Int)) = false := by simp; omega
  go_enter Try.func4, Try.ntmps4
  go_wp2_with (go_at_call 9; refine (alive_any _).mono ?_; rintro e w1 ⟨rfl, B1⟩)
  refine (look_any a0 cap0 bs (by omega) H256.out w1 (HR.out.below B1)).mono ?_
  rintro e w2 ⟨eb, ge, rfl, hge, heb, E2, C2⟩
  have B2 := B1.trans ((C2.below (Nat.le_refl _) (fun _ h => h.elim)).mono B1.size)
  have hebw : w.heap.size ≤ eb := by have := B1.size; omega
  clear C2 B1 hge heb
  go_wp2_with fail
  refine (get_nil w2).mono ?_
  rintro e w3 ⟨rfl, rfl⟩
  go_wp2_with fail
  refine (left_nil w2).mono ?_
  rintro e w3 ⟨rfl, rfl⟩
  go_wp2_with fail
  refine (bits_any a0 cap0 bs h200 H256.out w2 (HR.out.below B2)).mono ?_
  rintro e w3 ⟨ao, ca, ga, rfl, hca, hcm, hao, hga, htp, hcells, B3a⟩
  have E3 : EyeAt w3 eb ge bs 0 := E2.kept (below_chg B3a) (fun h => h) (fun h => h)
  have B3 := B2.trans (B3a.mono B2.size)
  have hgaE : ¬ ga = eb := by have := E2.lt; omega
  have HCELLS := Hid.intro hcells
  have HAO := Hid.intro hao
  clear hcells hao B3a B2 E2 htp hga
  go_wp2_with fail
  go_loopw [9, 10] (fun al i wr => ∃ k : Nat, k ≤ n1 ∧ i = .int .i64 k ∧ ∃ pos L c ao, al = .slice ao L c ∧ pos + L ≤ 8 * bs.length ∧ 8 * bs.length ≤ pos + L ∧ L ≤ c ∧ c ≤ 9223372036854775807 ∧ (0 < L → ao = some ⟨ga, pos, none⟩) ∧
      EyeAt wr eb ge bs pos ∧ (∀ j, (hj : j < (unpack bs).length) → wr.cell? ⟨ga, j, none⟩ = some (I (unpack bs)[j])) ∧ Below w.heap.size w wr)
    (fun _ i _ => n1 - (intOf i).toNat)
  case atStart => exact ⟨0, by omega, rfl, 0, 8 * bs.length, ca, ao, rfl, by omega, by omega, hca, hcm, HAO.out, E3, HCELLS.out, B3⟩
  case round =>
    obtain ⟨k, hk, rfl, pos, L, c, ao', rfl, hp1, hp2, hLc, hcm', hA, EK, CK, BK⟩ := hrel
    have HA := Hid.intro hA
    have CKH := Hid.intro CK
    clear hA CK E3 HCELLS B3 HAO
    by_cases hlt : k < n1
    · have cm := HC.out k hlt
      have hold := cell_lt cm
      have c1 : wr.cell? ⟨lb, lo + k, none⟩ = some (.int .i64 (ms.getD k 0)) := (BK.cell hold).trans cm
      generalize ms.getD k 0 = m at cm c1
      have i1 : (0 : Int) ≤ (k : Int) := by omega
      have i2 : (k : Int) < (n1 : Int) := by omega
      go_wp2_with fail
      refine (get_any eb ge bs pos m wr EK).mono ?_
      rintro e w5 ⟨rfl, E5, C5⟩
      have B5 := BK.trans (C5.below BK.size (fun j e => by rw [e]; exact hebw))
      have K5 : ∀ j, (hj : j < (unpack bs).length) → w5.cell? ⟨ga, j, none⟩ = some (I (unpack bs)[j]) := fun j hj => cell_chg C5 (CKH.out j hj) hgaE
      have c2 : w5.cell? ⟨lb, lo + k, none⟩ = some (.int .i64 m) := (B5.cell hold).trans cm
      have K5H := Hid.intro K5
      clear K5 CKH EK BK C5 c1 cm
      have hsub : 8 * bs.length - pos = L := by omega
      have hLL : ((L : Int) != (L : Int)) = false := by simp
      cases ok : getOk bs pos m with
      | false =>
        have nn : getN bs pos m = 0 := by simp [getN, ok]
        have pp : getP bs pos m = pos := by simp [getP, ok]
        rw [nn]
        rw [pp] at E5
        have hno : m < 1 ∨ 32 < m ∨ (1 ≤ m ∧ m ≤ 32 ∧ (L : Int) < m) := by
          simp only [getOk, isW, hsub, Bool.and_eq_false_iff, decide_eq_false_iff_not] at ok
          omega
        have HS := Hid.intro hsub
        clear ok nn pp hsub
        rcases hno with m1 | m1 | ⟨m1, m2, m3⟩ <;>
        ( go_wp2_with fail
          refine (left_any eb ge bs pos w5 E5).mono ?_
          rintro e w6 ⟨rfl, n6, rfl⟩
          rw [HS.out]
          have E6 := E5.drewN n6
          have B6 : Below w.heap.size w (w5.drewN n6) := ⟨B5.os, B5.tape, B5.output, B5.size, B5.block⟩
          have K6 : ∀ j, (hj : j < (unpack bs).length) → (w5.drewN n6).cell? ⟨ga, j, none⟩ = some (I (unpack bs)[j]) := K5H.out
          have K6H := Hid.intro K6
          clear K6
          generalize w5.drewN n6 = w6 at E6 B6 K6H ⊢
          clear E5 B5 K5H c2
          go_wp2
          go_roundw
          case rel => exact ⟨k + 1, by omega, by go_num, pos, L, c, ao', rfl, hp1, hp2, hLc, hcm', HA.out, E6, K6H.out, B6⟩
          case measure => simp [intOf]; omega )
      | true =>
        have hok := ok
        simp only [getOk, hsub, Bool.and_eq_true, decide_eq_true_eq] at hok
        have hw := isW_true hok.1
        have hmL := hok.2
        obtain ⟨M, rfl⟩ := Int.eq_ofNat_of_zero_le (show 0 ≤ m by omega)
        have nn : getN bs pos M = num (((unpack bs).drop pos).take M) := by simp [getN, ok]
        have pp : getP bs pos M = pos + M := by simp [getP, ok]
        rw [nn]
        rw [pp] at E5
        obtain rfl : ao' = some ⟨ga, pos, none⟩ := HA.out (by omega)
        have HS := Hid.intro hsub
        clear ok nn pp hsub hok HA
        have hlen : (((unpack bs).drop pos).take M).length = M := by have := ul.out; simp; omega
        have hnum := num_any ga pos c (((unpack bs).drop pos).take M) (by omega) (bits_take (bits_drop (unpack_bits bs) _) _) w5 (fun j hj => by
          rw [num_take bs pos M (by have := ul.out; omega) j hj]
          exact K5H.out (pos + j) (by have := ul.out; omega))
        rw [hlen] at hnum
        generalize num (((unpack bs).drop pos).take M) = N at hnum ⊢
        have HNUM := Hid.intro hnum
        clear hnum hlen
        have hNN : ((N : Int) != (N : Int)) = false := by simp
        go_wp2_with fail
        refine HNUM.out.mono ?_
        rintro e w6 ⟨rfl, rfl⟩
        have HT : Hid (8 * bs.length - (pos + M) = L - M) := by have := HS.out; show _ = _; omega
        go_wp2_with fail
        · have hcM : c = M := by assumption
          have HCM := Hid.intro hcM
          clear hcM
          refine (left_any eb ge bs (pos + M) w5 E5).mono ?_
          rintro e w6 ⟨rfl, n6, rfl⟩
          rw [HT.out]
          have E6 := E5.drewN n6
          have B6 : Below w.heap.size w (w5.drewN n6) := ⟨B5.os, B5.tape, B5.output, B5.size, B5.block⟩
          have K6 : ∀ j, (hj : j < (unpack bs).length) → (w5.drewN n6).cell? ⟨ga, j, none⟩ = some (I (unpack bs)[j]) := K5H.out
          have K6H := Hid.intro K6
          clear K6
          generalize w5.drewN n6 = w6 at E6 B6 K6H ⊢
          clear E5 B5 K5H c2 HNUM
          go_wp2
          go_roundw
          case rel => exact ⟨k + 1, by omega, by go_num, pos + M, L - M, 0, some ⟨ga, pos, none⟩, rfl, by omega, by omega, by have := HCM.out; omega, by omega, fun h => by have := HCM.out; omega, E6, K6H.out, B6⟩
          case measure => simp [intOf]; omega
        · refine (left_any eb ge bs (pos + M) w5 E5).mono ?_
          rintro e w6 ⟨rfl, n6, rfl⟩
          rw [HT.out]
          have E6 := E5.drewN n6
          have B6 : Below w.heap.size w (w5.drewN n6) := ⟨B5.os, B5.tape, B5.output, B5.size, B5.block⟩
          have K6 : ∀ j, (hj : j < (unpack bs).length) → (w5.drewN n6).cell? ⟨ga, j, none⟩ = some (I (unpack bs)[j]) := K5H.out
          have K6H := Hid.intro K6
          clear K6
          generalize w5.drewN n6 = w6 at E6 B6 K6H ⊢
          clear E5 B5 K5H c2 HNUM
          go_wp2
          go_roundw
          case rel => exact ⟨k + 1, by omega, by go_num, pos + M, L - M, c - M, some ⟨ga, pos + M, none⟩, rfl, by omega, by omega, by omega, by omega, fun _ => rfl, E6, K6H.out, B6⟩
          case measure => simp [intOf]; omega
    · go_wp2
      go_ret
      exact ⟨rfl, BK⟩

set_option maxHeartbeats 1000000 in
theorem walk_zero (a0 a1 : Option Addr) (cap0 cap1 : Nat) (bs : List Nat) (w : World) (h200 : bs.length ≤ 200) (h256 : ∀ b ∈ bs, b < 256) (hr : Reads w a0 bs) :
    Calls Try.prog 4 #[.slice a0 bs.length cap0, .slice a1 0 cap1] w fun e w' => e = .returned (.bool true) ∧ Below w.heap.size w w' := by
  have HR := Hid.intro hr
  have H256 := Hid.intro h256
  clear hr h256
  have hd1 : decide ((200 : Int) < (bs.length : Int)) = false := by simp; omega
  go_enter Try.func4, Try.ntmps4
  go_wp2_with (go_at_call 9; refine (alive_any _).mono ?_; rintro e w1 ⟨rfl, B1⟩)
  refine (look_any a0 cap0 bs (by omega) H256.out w1 (HR.out.below B1)).mono ?_
  rintro e w2 ⟨eb, ge, rfl, hge, heb, E2, C2⟩
  have B2 := B1.trans ((C2.below (Nat.le_refl _) (fun _ h => h.elim)).mono B1.size)
  clear C2 B1 hge heb E2
  go_wp2_with fail
  refine (get_nil w2).mono ?_
  rintro e w3 ⟨rfl, rfl⟩
  go_wp2_with fail
  refine (left_nil w2).mono ?_
  rintro e w3 ⟨rfl, rfl⟩
  go_wp2_with fail
  refine (bits_any a0 cap0 bs h200 H256.out w2 (HR.out.below B2)).mono ?_
  rintro e w3 ⟨ao, ca, ga, rfl, _, _, _, _, _, _, B3a⟩
  have B3 := B2.trans (B3a.mono B2.size)
  clear B3a B2
  go_wp2_with fail
  refine wp_loop_rounds 1 ?_
  rw [rounds_succ]
  go_wp2
  go_ret
  exact ⟨rfl, B3⟩

theorem walk (a0 a1 : Option Addr) (len0 cap0 len1 cap1 : Nat) (z0 z1 : List Int) (w : World) (w0 : IsRow .u8 w a0 len0 cap0 z0) (w1 : IsRow .i64 w a1 len1 cap1 z1) :
    Calls Try.prog 4 #[.slice a0 len0 cap0, .slice a1 len1 cap1] w fun e w' => e = .returned (.bool true) ∧ Below w.heap.size w w' := by
  by_cases h200 : 200 < len0
  · exact walk_far1 a0 a1 len0 cap0 len1 cap1 w w0.len h200
  · by_cases h100 : 100 < len1
    · exact walk_far2 a0 a1 len0 cap0 len1 cap1 w w1.len (by omega) h100
    · obtain ⟨bs, hl, h256, hr⟩ := w0.bytes
      subst hl
      by_cases h0 : len1 = 0
      · subst h0; exact walk_zero a0 a1 cap0 cap1 bs w (by omega) h256 hr
      · obtain ⟨b, off, rfl, _, hc⟩ := w1.ints (by omega)
        exact walk_pos a0 cap0 bs b off cap1 z1 len1 w (by omega) h256 hr (by omega) (by omega) hc

set_option maxRecDepth 100000 in
theorem lifted (os : Os) (started : os.Started) (H : Type) (enc : TypeId × Value → H) :
    ReturnsInHanded {} Try.checked os 4 .any (Rows.bitsGetsSpec.pre6 enc Try.prog Try.f4 Rows.bitsGetsRow.domain false) (Rows.bitsGetsSpec.post enc Try.prog Try.f4 false true false false) := by
  refine returnsInHanded_of_change (C := Try.checked) own started (by kernel_rfl) Try.func4
    (ChangeSpec.witness6 (enc := enc) (C := Try.checked) false ⟨#[], #[.slice none 0 0, .slice none 0 0], []⟩ 8 (by kernel_rfl) (by kernel_rfl) (by kernel_rfl) (by kernel_rfl)) ?_
  intro W base args ds gs before hval0 hW hcnd _
  have hval : ∀ (j : Nat) t v, Try.f4.params[j]? = some t → args[j]? = some v → Value.okWide Try.prog W .any base t v := hval0
  have hW' := hW
  obtain ⟨p, q, hA0, hV, rfl, hfz, hnd⟩ := hW
  have hA : DataW.TrodAll enc Try.prog W 0 (fun _ => true) true Try.f4.params.toList args.toList ds p := hA0
  rw [Try.params4] at hA hval
  obtain ⟨v0, vs0, d0, ds0, p0, q0, hargs, rfl, rfl, h0, r0⟩ := trodAll_cons hA
  obtain ⟨v1, vs1, d1, ds1, p1, q1, rfl, rfl, rfl, h1, r1⟩ := trodAll_cons r0
  obtain ⟨rfl, rfl, rfl⟩ := trodAll_nil r1
  obtain rfl : args = #[v0, v1] := by cases args; simp_all
  obtain ⟨rfl, rfl⟩ := trodVars_none hV
  obtain ⟨a0, len0, cap0, rfl⟩ := okWide_slice Try.underlying24 (hval 0 24 v0 rfl rfl)
  obtain ⟨a1, len1, cap1, rfl⟩ := okWide_slice Try.underlying28 (hval 1 28 v1 rfl rfl)
  have k0 := h0
  have k1 := h1
  have lt0 : ∀ x ∈ p0, x.block < W.heap.size := by obtain ⟨m, hm⟩ := k0; exact DataW.trod_lt m _ _ _ hm
  have lt1 : ∀ x ∈ p1, x.block < W.heap.size := by obtain ⟨m, hm⟩ := k1; exact DataW.trod_lt m _ _ _ hm
  obtain ⟨z0, w0⟩ : ∃ zs, IsRow .u8 W a0 len0 cap0 zs := by
    obtain ⟨fuel, hf⟩ := h0
    rcases open_ints Try.underlying24 Try.underlying5 (by kernel_rfl) hf with ⟨hcs, _⟩ | ⟨x, l, c, zs, hcs, _, hl, hm, hz, _, hcell, hwz⟩
    · simp [Value.cells] at hcs
      obtain ⟨rfl, rfl, rfl⟩ := hcs
      exact ⟨[], .inl ⟨rfl, rfl, rfl, rfl⟩⟩
    · simp [Value.cells] at hcs
      obtain ⟨rfl, rfl, rfl⟩ := hcs
      exact ⟨zs, .inr ⟨_, rfl, hl, hm, by simpa using hz, hcell, hwz⟩⟩
  obtain ⟨z1, w1⟩ : ∃ zs, IsRow .i64 W a1 len1 cap1 zs := by
    obtain ⟨fuel, hf⟩ := h1
    rcases open_ints Try.underlying28 Try.underlying3 (by kernel_rfl) hf with ⟨hcs, _⟩ | ⟨x, l, c, zs, hcs, _, hl, hm, hz, _, hcell, hwz⟩
    · simp [Value.cells] at hcs
      obtain ⟨rfl, rfl, rfl⟩ := hcs
      exact ⟨[], .inl ⟨rfl, rfl, rfl, rfl⟩⟩
    · simp [Value.cells] at hcs
      obtain ⟨rfl, rfl, rfl⟩ := hcs
      exact ⟨zs, .inr ⟨_, rfl, hl, hm, by simpa using hz, hcell, hwz⟩⟩
  clear hA0 hval0
  refine (walk a0 a1 len0 cap0 len1 cap1 z0 z1 W w0 w1).mono fun e W' ⟨he, bel⟩ => ?_
  subst he
  exact ⟨_, rfl, _, _, _, [], _, [], hW', trodAll_mk1 (shut_bool Try.underlying4 _), (trodAll_cons_mk (Below.trod laidOut (by kernel_rfl) (of_decide_eq_true (by kernel_rfl)) k0 bel lt0) (trodAll_cons_mk (Below.trod laidOut (by kernel_rfl) (of_decide_eq_true (by kernel_rfl)) k1 bel lt1) trodAll_mk0)), rfl, bel.frame _, fun h => by cases h⟩

theorem over : Rows.bitsGetsRow.holds Try.pinned (OpenSpec.ofChange Rows.bitsGetsSpec) :=
  OpenClaim.holds_of_wide 4 Try.f4 rfl rfl rfl rfl rfl rfl rfl ⟨rfl, rfl, rfl, rfl, rfl⟩ rfl rfl rfl rfl rfl (by kernel_rfl) Try.func4 (by kernel_rfl)
    (of_decide_eq_true (by kernel_rfl)) (by unfold Func.isWrapper; first | (rw [if_pos (by decide +kernel)]; kernel_rfl) | (rw [if_neg (by decide +kernel)]; exact ⟨rfl, rfl⟩))
    (fun os started H enc _ => lifted os started H enc)

end Go.Proofs.Ytfmnnhpadpjegaa.LawGets

namespace Go.Proofs.Ytfmnnhpadpjegaa
theorem bitsGets_holds : Rows.BitsGetsSaid := LawGets.over
#print axioms bitsGets_holds
end Go.Proofs.Ytfmnnhpadpjegaa
