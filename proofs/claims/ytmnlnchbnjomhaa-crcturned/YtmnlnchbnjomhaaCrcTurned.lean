/- CrcTurned: whatever bytes, place and mask come in, it returns true: a text of up to 300 bytes with some bits turned, all within 16 one behind the other, has another CRC-16, and within 32, in whole bytes, another CRC-32; no condition. -/
import Derived.Test.YtmnlnchbnjomhaaArgs
import Derived.Test.YtmnlnchbnjomhaaAppB
import Derived.Test.YtmnlnchbnjomhaaCrcNear
import Derived.Test.YtmnlnchbnjomhaaCrcAlive
namespace Go.Proofs.Ytmnlnchbnjomhaa.LCrcTurned
open Go.ChangeShapes Go.WideShapes Go.ChangeAt Go.RowKit
open Bt

theorem walk_far (a : Option Addr) (len cap : Nat) (t m : Int) (w : World) (hlen : len ≤ maxLen) (h : 300 < len ∨ (len ≤ 300 ∧ m = 0) ∨ (len ≤ 300 ∧ m ≠ 0 ∧ t < 0) ∨ (len ≤ 300 ∧ m ≠ 0 ∧ 0 ≤ t ∧ 8 * (len : Int) - 32 < t)) :
    Calls Try.prog 5 #[.slice a len cap, .int .i64 t, .int .u32 m] w fun e w' => e = .returned (.bool true) ∧ Below w.heap.size w w' := by
  unfold maxLen at hlen
  rcases h with h | ⟨h, rfl⟩ | ⟨h, hm, h0⟩ | ⟨h, hm, h0, h3⟩
  · go_enter Try.func5, Try.ntmps5
    go_wp2_with fail
    refine (alive_any _).mono ?_
    rintro e w1 ⟨rfl, B1⟩
    go_wp2
    go_ret
    exact ⟨rfl, B1⟩
  · have hd : decide ((300 : Int) < (len : Int)) = false := by simp; omega
    go_enter Try.func5, Try.ntmps5
    go_wp2_with fail
    refine (alive_any _).mono ?_
    rintro e w1 ⟨rfl, B1⟩
    go_wp2
    go_ret
    exact ⟨rfl, B1⟩
  · have hd : decide ((300 : Int) < (len : Int)) = false := by simp; omega
    have hm' : (m == 0) = false := by rw [beq_eq_false_iff_ne]; exact hm
    go_enter Try.func5, Try.ntmps5
    go_wp2_with fail
    refine (alive_any _).mono ?_
    rintro e w1 ⟨rfl, B1⟩
    go_wp2
    go_ret
    exact ⟨rfl, B1⟩
  · have hd : decide ((300 : Int) < (len : Int)) = false := by simp; omega
    have hm' : (m == 0) = false := by rw [beq_eq_false_iff_ne]; exact hm
    have ht0 : decide (t < 0) = false := by simp; omega
    go_enter Try.func5, Try.ntmps5
    go_wp2_with fail
    refine (alive_any _).mono ?_
    rintro e w1 ⟨rfl, B1⟩
    go_wp2
    go_ret
    exact ⟨rfl, B1⟩

theorem whole_any (t : Nat) (m : Int) (w : World) (ht : t < 2 ^ 62) :
    Calls Try.prog 19 #[.int .i64 t, .int .u32 m] w fun e w' => e = .returned (.bool (decide (t % 8 = 0))) ∧ w = w' := by
  go_enter Try.func19, Try.ntmps19
  go_wp2
  go_ret
  refine ⟨ret_bool ?_, rfl⟩
  rw [Bool.eq_iff_iff]
  simp
  omega

set_option maxRecDepth 100000 in
set_option maxHeartbeats 1000000 in
theorem walk_near (a : Option Addr) (cap : Nat) (bs : List Nat) (T M : Nat) (w : World) (h2 : bs.length ≤ 300) (hT : T + 32 ≤ 8 * bs.length) (hM0 : M ≠ 0) (hM : M < 4294967296) (h256 : ∀ b ∈ bs, b < 256) (hn : a = none → cap = 0) (hr : Reads w a bs) :
    Calls Try.prog 5 #[.slice a bs.length cap, .int .i64 T, .int .u32 M] w fun e w' => e = .returned (.bool true) ∧ Below w.heap.size w w' := by
  have HR := Hid.intro hr
  have H256 := Hid.intro h256
  have HN := Hid.intro hn
  clear hr h256 hn
  have hdec : decide ((300 : Int) < (bs.length : Int)) = false := by simp; omega
  have hm' : ((M : Int) == 0) = false := by rw [beq_eq_false_iff_ne]; omega
  have ht0 : decide ((T : Int) < 0) = false := by simp
  have ht1 : decide (8 * (bs.length : Int) - 32 < (T : Int)) = false := by simp; omega
  go_enter Try.func5, Try.ntmps5
  go_wp2_with fail
  refine (alive_any _).mono ?_
  rintro e w1 ⟨rfl, B1⟩
  have E1 := Hid.intro (empty_row w1)
  have B2 := B1.alloc B1.size (.cells #[] 5)
  have hR2 := Hid.intro (HR.out.below B2)
  go_wp2_with (at_builtin; refine append_bytes rfl _ _ rfl _ [] rfl E1.out a bs.length cap bs rfl rfl hR2.out HN.out (by simp; omega) ?_)
  intro v3 w3 hown hgrow hat
  replace hown : w3.ownsRow 0 5 1 v3 bs.length (bs.map U) := hown
  have B3 : Below w.heap.size w w3 := B2.grown hgrow B2.size (fun k hk => by
    have e : w1.heap.size = k := by simpa [Value.ownBlock] using hk
    have := B1.size
    omega)
  obtain ⟨gc, cc, rfl, _, hgcl⟩ := hown.form (by omega)
  have hgc : w.heap.size ≤ gc := by
    have := B1.size
    rcases hat with h | h
    · have e : gc = w1.heap.size := by simpa [Value.ownBlock] using h
      omega
    · have e : gc = w1.heap.size + 1 := by simpa [Value.ownBlock] using h
      omega
  have RC3 := Hid.intro hown
  clear hgrow hat B1 B2 E1 hR2 hown
  have E3 := Hid.intro (empty_row w3)
  have B4 := B3.alloc B3.size (.cells #[] 5)
  have hR4 := Hid.intro (HR.out.below B4)
  go_wp2_with (at_builtin; refine append_bytes rfl _ _ rfl _ [] rfl E3.out a bs.length cap bs rfl rfl hR4.out HN.out (by simp; omega) ?_)
  intro v5 w5 hown hgrow hat
  replace hown : w5.ownsRow 0 5 1 v5 bs.length (bs.map U) := hown
  have B5 : Below w.heap.size w w5 := B4.grown hgrow B4.size (fun k hk => by
    have e : w3.heap.size = k := by simpa [Value.ownBlock] using hk
    have := B3.size
    omega)
  have RC5 : w5.ownsRow 0 5 1 (.slice (some ⟨gc, 0, none⟩) bs.length cc) bs.length (bs.map U) := ownsRow_keep RC3.out (fun j hj => by
    have e : gc = j := by simpa [Value.ownBlock] using hj
    subst e
    rw [hgrow.block gc (by rw [World.size_alloc]; omega) (by simp [Value.ownBlock]; omega)]
    exact Below.heap_alloc _ _ _ hgcl)
  obtain ⟨gd, cd, rfl, _, _⟩ := hown.form (by omega)
  have hgd : w3.heap.size ≤ gd := by
    rcases hat with h | h
    · have e : gd = w3.heap.size := by simpa [Value.ownBlock] using h
      omega
    · have e : gd = w3.heap.size + 1 := by simpa [Value.ownBlock] using h
      omega
  have hgdw : w.heap.size ≤ gd := by have := B3.size; omega
  have hcd : ¬ gc = gd := by omega
  have RC5H := Hid.intro RC5
  have RD5H := Hid.intro hown
  clear hgrow hat B3 B4 E3 hR4 hown RC5 RC3 hgd hgcl
  go_wp2_with fail
  go_loopw [9] (fun c wr => ∃ k : Nat, k ≤ 32 ∧ c = .int .i64 k ∧ wr.ownsRow 0 5 1 (.slice (some ⟨gc, 0, none⟩) bs.length cc) bs.length ((flips T M bs k).map U) ∧
      wr.ownsRow 0 5 1 (.slice (some ⟨gd, 0, none⟩) bs.length cd) bs.length ((flips T M bs (min k 16)).map U) ∧ Below w.heap.size w wr)
    (fun c _ => 32 - (intOf c).toNat)
  case atStart => exact ⟨0, by omega, rfl, RC5H.out, RD5H.out, B5⟩
  case round =>
    obtain ⟨k, hk, rfl, RC, RD, BK⟩ := hrel
    clear RC5H RD5H B5
    by_cases hlt : k < 32
    · have hbit := u32_bit M k hM
      by_cases hb1 : M / 2 ^ k % 2 = 1
      · have hx : (bits .and .u32 ((M : Int) / 2 ^ k) 1 == 1) = true := by rw [hbit, hb1]; rfl
        have hq : (T + k) / 8 < bs.length := by omega
        have cC : wr.cell? ⟨gc, (T + k) / 8, none⟩ = some (U ((flips T M bs k).getD ((T + k) / 8) 0)) := by
          rw [RC.cellAt _ (by omega)]; simp [List.getD_eq_getElem?_getD, flips_length, hq]
        have fC : wr.frozen? ⟨gc, (T + k) / 8, none⟩ = false := RC.frozenAt _
        have hxb := getD_byte (flips_byte H256.out T M k) ((T + k) / 8)
        have e1 : flips T M bs (k + 1) = (flips T M bs k).set ((T + k) / 8) ((flips T M bs k).getD ((T + k) / 8) 0 ^^^ 128 / 2 ^ ((T + k) % 8)) := by rw [flips, if_pos hb1]; rfl
        have hxor := u8_xor_nat _ _ hxb (mask_lt ((T + k) % 8))
        have ecast : ((128 / 2 ^ ((T + k) % 8) : Nat) : Int) = 128 / 2 ^ ((T + k) % 8) := by simp
        rw [ecast] at hxor
        have e16 : k < 16 → flips T M bs (min (k + 1) 16) = (flips T M bs (min k 16)).set ((T + k) / 8) ((flips T M bs k).getD ((T + k) / 8) 0 ^^^ 128 / 2 ^ ((T + k) % 8)) := by
          intro h16
          rw [show min (k + 1) 16 = k + 1 from by omega, show min k 16 = k from by omega]; exact e1
        have cD : k < 16 → wr.cell? ⟨gd, (T + k) / 8, none⟩ = some (U ((flips T M bs k).getD ((T + k) / 8) 0)) := by
          intro h16
          rw [show min k 16 = k from by omega] at RD
          rw [RD.cellAt _ (by omega)]; simp [List.getD_eq_getElem?_getD, flips_length, hq]
        have fD : wr.frozen? ⟨gd, (T + k) / 8, none⟩ = false := RD.frozenAt _
        generalize (flips T M bs k).getD ((T + k) / 8) 0 ^^^ 128 / 2 ^ ((T + k) % 8) = y at e1 hxor e16
        generalize (flips T M bs k).getD ((T + k) / 8) 0 = x at cC cD hxb hxor
        have RC1 : (wr.setCell ⟨gc, (T + k) / 8, none⟩ (U y)).ownsRow 0 5 1 (.slice (some ⟨gc, 0, none⟩) bs.length cc) bs.length ((flips T M bs (k + 1)).map U) := by
          rw [e1, List.map_set]; exact (RC.stored _ _).1
        have RD1 := ownsRow_keep (w' := wr.setCell ⟨gc, (T + k) / 8, none⟩ (U y)) RD (fun j hj => Below.heap_setCell _ _ _ _ (by
          have e : gd = j := by simpa [Value.ownBlock] using hj
          show ¬ j = gc
          omega))
        have BK1 := BK.setCell (p := ⟨gc, (T + k) / 8, none⟩) hgc (U y)
        clear hbit ecast e1 RC RD
        by_cases h16 : k < 16
        · have cD1 : (wr.setCell ⟨gc, (T + k) / 8, none⟩ (U y)).cell? ⟨gd, (T + k) / 8, none⟩ = some (U x) :=
            (World.cell?_of_block (Below.heap_setCell _ _ _ _ (by show ¬ gd = gc; omega))).trans (cD h16)
          have fD1 : (wr.setCell ⟨gc, (T + k) / 8, none⟩ (U y)).frozen? ⟨gd, (T + k) / 8, none⟩ = false := by rw [World.frozen?_setCell]; exact fD
          have e2 := e16 h16
          clear e16 cD fD
          have RD2 : ((wr.setCell ⟨gc, (T + k) / 8, none⟩ (U y)).setCell ⟨gd, (T + k) / 8, none⟩ (U y)).ownsRow 0 5 1 (.slice (some ⟨gd, 0, none⟩) bs.length cd) bs.length ((flips T M bs (min (k + 1) 16)).map U) := by
            rw [e2, List.map_set]; exact (RD1.stored _ _).1
          have RC2 := ownsRow_keep (w' := (wr.setCell ⟨gc, (T + k) / 8, none⟩ (U y)).setCell ⟨gd, (T + k) / 8, none⟩ (U y)) RC1 (fun j hj => Below.heap_setCell _ _ _ _ (by
            have e : gc = j := by simpa [Value.ownBlock] using hj
            show ¬ j = gd
            omega))
          have BK2 := BK1.setCell (p := ⟨gd, (T + k) / 8, none⟩) hgdw (U y)
          have RC2H := Hid.intro RC2
          have RD2H := Hid.intro RD2
          have BK2H := Hid.intro BK2
          clear e2 RC1 RD1 BK1 RC2 RD2 BK2 BK
          go_wp2
          go_roundw
          case rel => exact ⟨k + 1, by omega, by go_num, RC2H.out, RD2H.out, BK2H.out⟩
          case measure => simp [intOf]; omega
        · have RC2H := Hid.intro RC1
          have RD2H := Hid.intro RD1
          have BK2H := Hid.intro BK1
          clear e16 cD fD RC1 RD1 BK1 BK
          go_wp2
          go_roundw
          case rel => exact ⟨k + 1, by omega, by go_num, RC2H.out, by rw [show min (k + 1) 16 = min k 16 from by omega]; exact RD2H.out, BK2H.out⟩
          case measure => simp [intOf]; omega
      · have hx : (bits .and .u32 ((M : Int) / 2 ^ k) 1 == 1) = false := by
          rw [hbit, beq_eq_false_iff_ne]
          intro e
          exact hb1 (by exact_mod_cast e)
        have e1 : flips T M bs (k + 1) = flips T M bs k := by rw [flips, if_neg hb1]
        have e2 : flips T M bs (min (k + 1) 16) = flips T M bs (min k 16) := by
          by_cases h16 : k < 16
          · rw [show min (k + 1) 16 = k + 1 from by omega, show min k 16 = k from by omega, e1]
          · rw [show min (k + 1) 16 = 16 from by omega, show min k 16 = 16 from by omega]
        have E1 := Hid.intro e1
        have E2 := Hid.intro e2
        clear hbit hb1 e1 e2
        go_wp2
        go_roundw
        case rel => exact ⟨k + 1, by omega, by go_num, by rw [E1.out]; exact RC, by rw [E2.out]; exact RD, BK⟩
        case measure => simp [intOf]; omega
    · have hke : k = 32 := by omega
      subst hke
      rw [show min 32 16 = 16 from rfl] at RD
      have hlc := flips_length T M bs 32
      have hld := flips_length T M bs 16
      have hbc := flips_byte H256.out T M 32
      have hbd := flips_byte H256.out T M 16
      have n16 := turned16 T M bs H256.out (by omega)
      have n32 := fun h8 => turned32 T M bs H256.out (by omega) h8 hM0 hM
      generalize flips T M bs 32 = ec at RC hlc hbc n32
      generalize flips T M bs 16 = ed at RD hld hbd n16
      obtain ⟨ac, xc, hvc, rc, _⟩ := row_of_owns (bs := ec) (by rw [hlc]; exact RC)
      rw [hlc] at hvc
      cases hvc
      obtain ⟨ad, xd, hvd, rd, _⟩ := row_of_owns (bs := ed) (by rw [hld]; exact RD)
      rw [hld] at hvd
      cases hvd
      have SB := Hid.intro (fun (w' : World) (h : Below w.heap.size w w') => And.intro (short_any a cap bs (by omega) H256.out w' (HR.out.below h)) (long_any a cap bs (by omega) H256.out w' (HR.out.below h)))
      have SC := Hid.intro (fun (w' : World) (h : Below wr.heap.size wr w') => by
        have s2 := long_any (some ⟨gc, 0, none⟩) cc ec (by omega) hbc w' (rc.below h)
        rw [hlc] at s2
        exact s2)
      have SD := Hid.intro (fun (w' : World) (h : Below wr.heap.size wr w') => by
        have s2 := short_any (some ⟨gd, 0, none⟩) cd ed (by omega) hbd w' (rd.below h)
        rw [hld] at s2
        exact s2)
      generalize crc16 bs = A1 at SB n16
      generalize crc16 ed = A2 at SD n16
      generalize crc32 bs = C1 at SB n32
      generalize crc32 ec = C2 at SC n32
      have BR := Below.refl wr.heap.size wr
      clear RC RD rc rd hlc hld hbc hbd
      have N32 := Hid.intro n32
      have N16 := Hid.intro n16
      clear n32 n16
      by_cases hm16 : M % 65536 = 0
      · have hmt : ((M : Int) % 65536 == 0) = true := by rw [beq_iff_eq]; omega
        go_wp2_with fail
        refine (whole_any T M wr (by omega)).mono ?_
        rintro e w' ⟨rfl, rfl⟩
        by_cases h8 : T % 8 = 0
        · have n2 : ((C1 : Int) != (C2 : Int)) = true := by rw [bne_iff_ne]; intro e; exact N32.out h8 (by omega)
          rw [show decide (T % 8 = 0) = true from decide_eq_true h8]
          go_wp2_with fail
          refine (SB.out wr BK).2.mono ?_
          rintro e w7 ⟨rfl, B8⟩
          have B8w := BK.trans (B8.mono BK.size)
          have B8d := BR.trans (B8.mono BR.size)
          clear B8
          go_wp2_with fail
          refine (SC.out w7 B8d).mono ?_
          rintro e w8 ⟨rfl, B9⟩
          have B9w := B8w.trans (B9.mono B8w.size)
          clear B9 B8w B8d
          go_wp2
          go_ret
          exact ⟨rfl, B9w⟩
        · rw [show decide (T % 8 = 0) = false from decide_eq_false h8]
          go_wp2
          go_ret
          exact ⟨rfl, BK⟩
      · have hmt : ((M : Int) % 65536 == 0) = false := by rw [beq_eq_false_iff_ne]; omega
        have n1 : ((A1 : Int) != (A2 : Int)) = true := by rw [bne_iff_ne]; intro e; exact N16.out hm16 (by omega)
        go_wp2_with fail
        refine (SB.out wr BK).1.mono ?_
        rintro e w5 ⟨rfl, B6⟩
        have B6w := BK.trans (B6.mono BK.size)
        have B6d := BR.trans (B6.mono BR.size)
        clear B6
        go_wp2_with fail
        refine (SD.out w5 B6d).mono ?_
        rintro e w6 ⟨rfl, B7⟩
        have B7w := B6w.trans (B7.mono B6w.size)
        have B7d := B6d.trans (B7.mono B6d.size)
        clear B7 B6w B6d
        go_wp2_with fail
        refine (whole_any T M w6 (by omega)).mono ?_
        rintro e w' ⟨rfl, rfl⟩
        by_cases h8 : T % 8 = 0
        · have n2 : ((C1 : Int) != (C2 : Int)) = true := by rw [bne_iff_ne]; intro e; exact N32.out h8 (by omega)
          rw [show decide (T % 8 = 0) = true from decide_eq_true h8]
          go_wp2_with fail
          refine (SB.out w6 B7w).2.mono ?_
          rintro e w7 ⟨rfl, B8⟩
          have B8w := B7w.trans (B8.mono B7w.size)
          have B8d := B7d.trans (B8.mono B7d.size)
          clear B8
          go_wp2_with fail
          refine (SC.out w7 B8d).mono ?_
          rintro e w8 ⟨rfl, B9⟩
          have B9w := B8w.trans (B9.mono B8w.size)
          clear B9 B8w B8d
          go_wp2
          go_ret
          exact ⟨rfl, B9w⟩
        · rw [show decide (T % 8 = 0) = false from decide_eq_false h8]
          go_wp2
          go_ret
          exact ⟨rfl, B7w⟩

theorem walk (a : Option Addr) (len cap : Nat) (zs : List Int) (t m : Int) (w : World) (h : IsRow .u8 w a len cap zs) (_ : (Lit.int .i64 t).wf = true) (hm : (Lit.int .u32 m).wf = true) :
    Calls Try.prog 5 #[.slice a len cap, .int .i64 t, .int .u32 m] w fun e w' => e = .returned (.bool true) ∧ Below w.heap.size w w' := by
  have hb := bounds_u32 hm
  by_cases hf : 300 < len ∨ (len ≤ 300 ∧ m = 0) ∨ (len ≤ 300 ∧ m ≠ 0 ∧ t < 0) ∨ (len ≤ 300 ∧ m ≠ 0 ∧ 0 ≤ t ∧ 8 * (len : Int) - 32 < t)
  · exact walk_far a len cap t m w h.len hf
  · obtain ⟨bs, hl, h256, hr⟩ := h.bytes
    subst hl
    obtain ⟨T, rfl⟩ := Int.eq_ofNat_of_zero_le (show 0 ≤ t by omega)
    obtain ⟨M, rfl⟩ := Int.eq_ofNat_of_zero_le hb.1
    exact walk_near a cap bs T M w (by omega) (by omega) (by omega) (by omega) h256 h.none_cap hr

set_option maxRecDepth 100000 in
theorem lifted (os : Os) (started : os.Started) (H : Type) (enc : TypeId × Value → H) :
    ReturnsInHanded {} Try.checked os 5 .any (Rows.crcTurnedSpec.pre6 enc Try.prog Try.f5 Rows.crcTurnedRow.domain false) (Rows.crcTurnedSpec.post enc Try.prog Try.f5 false true false false) := by
  refine returnsInHanded_of_change (C := Try.checked) own started (by kernel_rfl) Try.func5
    (ChangeSpec.witness6 (enc := enc) (C := Try.checked) false ⟨#[], #[.slice none 0 0, .int .i64 0, .int .u32 0], []⟩ 8 (by kernel_rfl) (by kernel_rfl) (by kernel_rfl) (by kernel_rfl)) ?_
  intro W base args ds gs before hval0 hW hcnd _
  have hval : ∀ (j : Nat) t v, Try.f5.params[j]? = some t → args[j]? = some v → Value.okWide Try.prog W .any base t v := hval0
  have hW' := hW
  obtain ⟨p, q, hA0, hV, rfl, hfz, hnd⟩ := hW
  have hA : DataW.TrodAll enc Try.prog W 0 (fun _ => true) true Try.f5.params.toList args.toList ds p := hA0
  rw [Try.params5] at hA hval
  obtain ⟨v0, vs0, d0, ds0, p0, q0, hargs, rfl, rfl, h0, r0⟩ := trodAll_cons hA
  obtain ⟨v1, vs1, d1, ds1, p1, q1, rfl, rfl, rfl, h1, r1⟩ := trodAll_cons r0
  obtain ⟨v2, vs2, d2, ds2, p2, q2, rfl, rfl, rfl, h2, r2⟩ := trodAll_cons r1
  obtain ⟨rfl, rfl, rfl⟩ := trodAll_nil r2
  obtain rfl : args = #[v0, v1, v2] := by cases args; simp_all
  obtain ⟨rfl, rfl⟩ := trodVars_none hV
  obtain ⟨a0, len0, cap0, rfl⟩ := okWide_slice Try.underlying22 (hval 0 22 v0 rfl rfl)
  have k0 := h0
  have lt0 : ∀ x ∈ p0, x.block < W.heap.size := by obtain ⟨m, hm⟩ := k0; exact DataW.trod_lt m _ _ _ hm
  obtain ⟨z0, w0⟩ : ∃ zs, IsRow .u8 W a0 len0 cap0 zs := by
    obtain ⟨fuel, hf⟩ := h0
    rcases open_ints Try.underlying22 Try.underlying5 (by kernel_rfl) hf with ⟨hcs, _⟩ | ⟨x, l, c, zs, hcs, _, hl, hm, hz, _, hcell, hwz⟩
    · simp [Value.cells] at hcs
      obtain ⟨rfl, rfl, rfl⟩ := hcs
      exact ⟨[], .inl ⟨rfl, rfl, rfl, rfl⟩⟩
    · simp [Value.cells] at hcs
      obtain ⟨rfl, rfl, rfl⟩ := hcs
      exact ⟨zs, .inr ⟨_, rfl, hl, hm, by simpa using hz, hcell, hwz⟩⟩
  obtain ⟨a1, rfl, rfl, rfl, w1⟩ := open_int Try.underlying3 (hval 1 3 v1 rfl rfl) h1
  obtain ⟨a2, rfl, rfl, rfl, w2⟩ := open_int Try.underlying29 (hval 2 29 v2 rfl rfl) h2
  clear hA0 hval0
  refine (walk a0 len0 cap0 z0 a1 a2 W w0 w1 w2).mono fun e W' ⟨he, bel⟩ => ?_
  subst he
  exact ⟨_, rfl, _, _, _, [], _, [], hW', trodAll_mk1 (shut_bool Try.underlying4 _), (trodAll_cons_mk (Below.trod laidOut (by kernel_rfl) (of_decide_eq_true (by kernel_rfl)) k0 bel lt0) (trodAll_cons_mk (shut_int Try.underlying3 w1) (trodAll_cons_mk (shut_int Try.underlying29 w2) trodAll_mk0))), rfl, bel.frame _, fun h => by cases h⟩

theorem over : Rows.crcTurnedRow.holds Try.pinned (OpenSpec.ofChange Rows.crcTurnedSpec) :=
  OpenClaim.holds_of_wide 5 Try.f5 rfl rfl rfl rfl rfl rfl rfl ⟨rfl, rfl, rfl, rfl, rfl⟩ rfl rfl rfl rfl rfl (by kernel_rfl) Try.func5 (by kernel_rfl)
    (of_decide_eq_true (by kernel_rfl)) (by unfold Func.isWrapper; first | (rw [if_pos (by decide +kernel)]; kernel_rfl) | (rw [if_neg (by decide +kernel)]; exact ⟨rfl, rfl⟩))
    (fun os started H enc _ => lifted os started H enc)

end Go.Proofs.Ytmnlnchbnjomhaa.LCrcTurned

namespace Go.Proofs.Ytmnlnchbnjomhaa
theorem crcTurned_holds : Rows.CrcTurnedSaid := LCrcTurned.over
#print axioms crcTurned_holds
end Go.Proofs.Ytmnlnchbnjomhaa
