/- RsOne: whatever numbers and bytes come in, it returns true: of one shard of data all shards are the text, and of as many as there are none may be lost (texts of 24 to 200 bytes); no condition. -/
import Derived.Test.YtebjkbhidpdpfabRsArg
import Derived.Test.YtebjkbhidpdpfabRsAlive
import Derived.Test.YtebjkbhidpdpfabRsLostP
import Derived.Test.YtebjkbhidpdpfabRefSame
import Derived.Deep.RegionHeld3
namespace Go.Proofs.Ytebjkbhidpdpfab.LRsOne
open Go.ChangeShapes Go.WideShapes Go.ChangeAt Go.RowKit Go.Deep
open Bt

theorem reads_take {w : World} {a : Option Addr} {bs : List Nat} (h : Reads w a bs) {m : Nat} (hm : m ≤ bs.length) : Reads w a (bs.take m) := fun h0 => by
  rw [List.length_take] at h0
  obtain ⟨ad, ha, hc⟩ := h (by omega)
  refine ⟨ad, ha, fun j u hu => ?_⟩
  rw [List.map_take] at hu
  have hj : j < m := by
    have := (List.getElem?_eq_some_iff.1 hu).1
    simp at this; omega
  rw [List.getElem?_take, if_pos hj] at hu
  exact hc j u hu

theorem walk_far (n s : Int) (a : Option Addr) (len cap : Nat) (w : World) (hn : 0 ≤ n ∧ n ≤ 255) (hs : 0 ≤ s ∧ s ≤ 255) (hlen : len ≤ maxLen) (h : len < 24 ∨ 200 < len) :
    Calls Try.prog 4 #[.int .u8 n, .int .u8 s, .slice a len cap] w fun e w' => e = .returned (.bool true) ∧ Below w.heap.size w w' := by
  unfold maxLen at hlen
  obtain ⟨N0, e1⟩ := Int.eq_ofNat_of_zero_le (show 0 ≤ n % 10 by omega)
  obtain ⟨S0, e2⟩ := Int.eq_ofNat_of_zero_le (show 0 ≤ s % 24 by omega)
  have l1 : N0 < 10 := by omega
  have l2 : S0 < 24 := by omega
  by_cases h1 : len < 24
  · have j : decide ((len : Int) < 24) = true := by simp; omega
    go_enter Try.func4, Try.ntmps4
    go_wp2_with fail
    refine (alive_any _).mono ?_
    rintro e w1 ⟨rfl, B1⟩
    go_wp2
    go_ret
    exact ⟨rfl, B1.alloc B1.size _⟩
  · have j : decide ((len : Int) < 24) = false := by simp; omega
    have j2 : decide ((200 : Int) < (len : Int)) = true := by simp; omega
    have j3 : 200 < len := by omega
    clear h
    go_enter Try.func4, Try.ntmps4
    go_wp2_with fail
    refine (alive_any _).mono ?_
    rintro e w1 ⟨rfl, B1⟩
    go_wp2
    go_ret
    exact ⟨rfl, B1.alloc B1.size _⟩

set_option maxRecDepth 100000 in
set_option maxHeartbeats 4000000 in
theorem walk_near (n s : Int) (a : Option Addr) (cap : Nat) (bs : List Nat) (w : World) (hn : 0 ≤ n ∧ n ≤ 255) (hs : 0 ≤ s ∧ s ≤ 255) (h1 : 24 ≤ bs.length) (h2 : bs.length ≤ 200) (hcap : bs.length ≤ cap) (hcm : cap ≤ 9223372036854775807) (hY : Byt bs) (hr : Reads w a bs) :
    Calls Try.prog 4 #[.int .u8 n, .int .u8 s, .slice a bs.length cap] w fun e w' => e = .returned (.bool true) ∧ Below w.heap.size w w' := by
  have HR := Hid.intro hr
  have HY := Hid.intro hY
  obtain ⟨bb, ob, ea, _⟩ := reads_at hr (by omega)
  subst ea
  clear hr hY
  obtain ⟨N0, e1⟩ := Int.eq_ofNat_of_zero_le (show 0 ≤ n % 10 by omega)
  obtain ⟨S0, e2⟩ := Int.eq_ofNat_of_zero_le (show 0 ≤ s % 24 by omega)
  obtain ⟨N, eN⟩ : ∃ N : Nat, N = 1 + N0 := ⟨_, rfl⟩
  obtain ⟨S, eS⟩ : ∃ S : Nat, S = 1 + S0 := ⟨_, rfl⟩
  have l1 : N0 < 10 := by omega
  have l2 : S0 < 24 := by omega
  have e3 : (1 : Int) + (N0 : Int) = (N : Int) := by omega
  have e4 : (1 : Int) + (S0 : Int) = (S : Int) := by omega
  have g1 : 1 ≤ N ∧ N ≤ 10 := by omega
  have g2 : 1 ≤ S ∧ S ≤ 24 := by omega
  clear eN eS
  have j : decide ((bs.length : Int) < 24) = false := by simp; omega
  have j2 : decide ((200 : Int) < (bs.length : Int)) = false := by simp; omega
  go_enter Try.func4, Try.ntmps4
  go_wp2_with fail
  refine (alive_any _).mono ?_
  rintro e w1 ⟨rfl, B1⟩
  have B1H := Hid.intro B1
  clear B1
  go_wp2_with fail
  have b2 : (w1.alloc (.cells #[.int .i64 1, .int .i64 (N : Int), .int .i64 (S : Int)] 23)).heap[w1.heap.size]? = some (.cells #[.int .i64 1, .int .i64 (N : Int), .int .i64 (S : Int)] 23 (0, 0)) := heap_alloc_new _ _
  have B2 := B1H.out.alloc B1H.out.size (.cells #[.int .i64 1, .int .i64 (N : Int), .int .i64 (S : Int)] 23)
  have hB2 := B1H.out.size
  generalize w1.alloc (.cells #[.int .i64 1, .int .i64 (N : Int), .int .i64 (S : Int)] 23) = w2 at b2 B2 ⊢
  generalize w1.heap.size = cb at b2 hB2 ⊢
  clear B1H
  have c0 : w2.cell? ⟨cb, 0, none⟩ = some (.int .i64 1) := by rw [cell_of_row _ _ 0 _ _ _ b2]; rfl
  have c1 : w2.cell? ⟨cb, 1, none⟩ = some (.int .i64 (N : Int)) := by rw [cell_of_row _ _ 1 _ _ _ b2]; rfl
  have c2 : w2.cell? ⟨cb, 2, none⟩ = some (.int .i64 (S : Int)) := by rw [cell_of_row _ _ 2 _ _ _ b2]; rfl
  have r2 := HR.out.below B2
  have q1 : (0 : Int) ≤ (S : Int) := by omega
  have q2 : (S : Int) ≤ (cap : Int) := by omega
  have q3 : S ≤ cap := by omega
  have EN := fun X (h : Below w2.heap.size w2 X) => rencode_any 1 (N : Int) (S : Int) (some ⟨bb, ob, none⟩) cap (bs.take S) (fun y hy => HY.out y (List.mem_of_mem_take hy)) (by rw [List.length_take]; omega) X (reads_take (r2.below h) (by omega)) ⟨(fun h => by cases h), by rw [List.length_take]; omega⟩
  have lS : (bs.take S).length = S := by rw [List.length_take]; omega
  have m1 : mayC 1 (N : Int) (S : Int) = true := by simp [mayC]; omega
  have E0 : encE 1 (N : Int) (S : Int) S = 0 := by unfold encE; rw [if_pos m1, if_pos (by omega)]
  have A0 : encA 1 (N : Int) (S : Int) (bs.take S) = encL 1 N S (bs.take S) := by unfold encA; rw [lS, E0, if_pos rfl]; rfl
  rw [lS, E0, A0] at EN
  have ENH := Hid.intro EN
  have b2H := Hid.intro b2
  have B2H := Hid.intro B2
  have LS := Hid.intro lS
  clear EN b2 B2 r2 lS m1 E0 A0
  go_region_held3 (fun w' => w'.cell? ⟨cb, 0, none⟩ = some (.int .i64 1) ∧ w'.cell? ⟨cb, 1, none⟩ = some (.int .i64 (N : Int)) ∧ w'.cell? ⟨cb, 2, none⟩ = some (.int .i64 (S : Int)))
    (first | exact ⟨(B3.cell (cell_lt c0)).trans c0, (B3.cell (cell_lt c1)).trans c1, (B3.cell (cell_lt c2)).trans c2⟩ | go_keep)
    ((go_at_call 6; refine (ENH.out w2.drew (belowN (Below.refl _ _) 1)).mono ?_; rintro e w3 ⟨v3, rfl, S3, B3'⟩; have B3 : Below w2.heap.size w2 w3 := ⟨B3'.os, B3'.tape, B3'.output, B3'.size, B3'.block⟩))
  have b3 := (B3.block _ (lt_of_heap b2H.out)).trans b2H.out
  have B3w := B2H.out.trans (B3.mono B2H.out.size)
  rcases S3 with ⟨h0, _⟩ | ⟨mb, off, mc, A, C, rfl, S3⟩
  · have := congrArg List.length h0
    rw [encL_length] at this
    exact absurd this (by simp; omega)
  rw [encL_length]
  clear c0 c1 c2
  have c1 : w3.cell? ⟨cb, 1, none⟩ = some (.int .i64 (N : Int)) := by rw [cell_of_row _ _ 1 _ _ _ b3]; rfl
  have nn : ((N : Int) != (N : Int)) = false := by simp
  have S3H := Hid.intro S3
  have b3H := Hid.intro b3
  have B3H := Hid.intro B3w
  clear S3 b3 B3w B3 B3' b2H B2H ENH
  go_wp2_with fail
  go_loopw [10] (fun iv ws => ∃ (t q : Nat), t ≤ N ∧ iv = .int .i64 t ∧ ws = w3.drewN q) (fun iv _ => N - (intOf iv).toNat)
  case atStart => exact ⟨0, 0, by omega, rfl, rfl⟩
  case round =>
    clear c1
    obtain ⟨t, q, ht, rfl, hq⟩ := hrel
    have BX : Below w3.heap.size w3 wr := by rw [hq]; exact belowN (Below.refl _ _) q
    have HQ := Hid.intro hq
    have bX := (BX.block _ (lt_of_heap b3H.out)).trans b3H.out
    have BW := B3H.out.trans (BX.mono B3H.out.size)
    have rX := HR.out.below BW
    by_cases htl : t < N
    · have t0 : (0 : Int) ≤ (t : Int) := by omega
      have t1 : (t : Int) < (N : Int) := by omega
      have c2 : wr.cell? ⟨cb, 2, none⟩ = some (.int .i64 (S : Int)) := by rw [cell_of_row _ _ 2 _ _ _ bX]; rfl
      have SX := S3H.out.below BX
      have hlen : t < (encL 1 N S (bs.take S)).length := by rw [encL_length]; exact htl
      have f0 := SX.cell t hlen
      have f1 := SX.row t hlen
      rw [encL_getD htl, shL_one (fun y hy => HY.out y (List.mem_of_mem_take hy)) LS.out (by omega)] at f0 f1
      rw [LS.out] at f0
      have SA := same_true (A t) (some ⟨bb, ob, none⟩) (C t) cap (bs.take S) (by rw [LS.out]; omega)
      rw [LS.out] at SA
      have SAH := Hid.intro (show ∀ m : Nat, Calls Try.prog 9 #[.slice (A t) S (C t), .slice (some ⟨bb, ob, none⟩) S cap] (wr.drewN m) fun e w' => e = .returned (.bool true) ∧ ∃ n, w' = (wr.drewN m).drewN n from fun m => SA (wr.drewN m) (f1.below (belowN (Below.refl _ _) m)) ((reads_take rX (by omega)).below (belowN (Below.refl _ _) m)))
      generalize A t = at0 at f0 SAH
      generalize C t = ct0 at f0 SAH
      clear f1 SA SX hlen BX bX BW rX hq
      go_wp2_with fail
      go_quiet ((go_at_call 9; exact Calls.quiet_of (SAH.out _)))
      go_wp2
      go_roundw
      case rel => exact ⟨t + 1, q + nq, by omega, by go_num, by rw [HQ.out, World.drewN_drewN]⟩
      case measure => simp [intOf]; omega
    · have hte : t = N := by omega
      subst hte
      have n1 : ¬ (t : Int) < (t : Int) := by omega
      have BWH := Hid.intro BW
      clear BX bX BW rX hq HQ S3H b3H B3H
      go_wp2_with fail
      have b4 : (wr.alloc (.cells #[.int .i64 2, .int .i64 2, .int .i64 12] 23)).heap[wr.heap.size]? = some (.cells #[.int .i64 2, .int .i64 2, .int .i64 12] 23 (0, 0)) := heap_alloc_new _ _
      have B4 := BWH.out.alloc BWH.out.size (.cells #[.int .i64 2, .int .i64 2, .int .i64 12] 23)
      have hB4 := BWH.out.size
      generalize wr.alloc (.cells #[.int .i64 2, .int .i64 2, .int .i64 12] 23) = w4 at b4 B4 ⊢
      generalize wr.heap.size = db at b4 hB4 ⊢
      have c0 : w4.cell? ⟨db, 0, none⟩ = some (.int .i64 2) := by rw [cell_of_row _ _ 0 _ _ _ b4]; rfl
      have c1 : w4.cell? ⟨db, 1, none⟩ = some (.int .i64 2) := by rw [cell_of_row _ _ 1 _ _ _ b4]; rfl
      have c2 : w4.cell? ⟨db, 2, none⟩ = some (.int .i64 12) := by rw [cell_of_row _ _ 2 _ _ _ b4]; rfl
      have r4 := HR.out.below B4
      have q4 : (24 : Int) ≤ (cap : Int) := by omega
      have q5 : 24 ≤ cap := by omega
      have EN := fun X (h : Below w4.heap.size w4 X) => rencode_any 2 2 12 (some ⟨bb, ob, none⟩) cap (bs.take 24) (fun y hy => HY.out y (List.mem_of_mem_take hy)) (by rw [List.length_take]; omega) X (reads_take (r4.below h) (by omega)) ⟨(fun h => by cases h), by rw [List.length_take]; omega⟩
      have l24 : (bs.take 24).length = 24 := by rw [List.length_take]; omega
      have E0 : encE 2 2 12 24 = 0 := by decide
      have A0 : encA 2 2 12 (bs.take 24) = encL 2 2 12 (bs.take 24) := by unfold encA; rw [l24, E0, if_pos rfl]; rfl
      rw [l24, E0, A0] at EN
      have ENH := Hid.intro EN
      have b4H := Hid.intro b4
      have B4H := Hid.intro B4
      clear EN b4 B4 r4 l24 E0 A0 BWH
      go_region_held3 (fun w' => w'.cell? ⟨db, 0, none⟩ = some (.int .i64 2) ∧ w'.cell? ⟨db, 1, none⟩ = some (.int .i64 2) ∧ w'.cell? ⟨db, 2, none⟩ = some (.int .i64 12))
        (first | exact ⟨(B5.cell (cell_lt c0)).trans c0, (B5.cell (cell_lt c1)).trans c1, (B5.cell (cell_lt c2)).trans c2⟩ | go_keep)
        ((go_at_call 6; refine (ENH.out w4.drew (belowN (Below.refl _ _) 1)).mono ?_; rintro e w5 ⟨v5, rfl, S5, B5'⟩; have B5 : Below w4.heap.size w4 w5 := ⟨B5'.os, B5'.tape, B5'.output, B5'.size, B5'.block⟩))
      have b5 := (B5.block _ (lt_of_heap b4H.out)).trans b4H.out
      have B5w := B4H.out.trans (B5.mono B4H.out.size)
      rcases S5 with ⟨h0, _⟩ | ⟨mb, off, mc, A, C, rfl, S5⟩
      · have := congrArg List.length h0
        rw [encL_length] at this
        exact absurd this (by simp)
      rw [encL_length]
      clear c0 c1 c2
      have hl0 : 0 < (encL 2 2 12 (bs.take 24)).length := by rw [encL_length]; decide
      have f0 := S5.cell 0 hl0
      have f1 := S5.frozen 0 hl0
      have S6 := S5.lost hl0
      have hnt : w4.heap.size ≤ mb := S5.newTop
      have hdb := lt_of_heap b4H.out
      have hne : db ≠ mb := by omega
      have b6 : (w5.setCell ⟨mb, off + 0, none⟩ (.slice none 0 0)).heap[db]? = some (.cells #[.int .i64 2, .int .i64 2, .int .i64 12] 23 (0, 0)) := by
        rw [Below.heap_setCell _ _ _ _ (by exact hne)]; exact b5
      have B6w := B5w.setCell (p := ⟨mb, off + 0, none⟩) (Nat.le_trans B4H.out.size hnt) (.slice none 0 0)
      have e8 := lost_E (K := 2) (N := 2) (S := 12) (text := bs.take 24) (by decide) 1
      rw [show lostT 1 (encL 2 2 12 (bs.take 24)) 2 = (encL 2 2 12 (bs.take 24)).set 0 [] from rfl, show cntT 1 2 = 1 from rfl, if_neg (by decide)] at e8
      have hbl : BytL ((encL 2 2 12 (bs.take 24)).set 0 []) := bytL_set (encL_bytL (by decide) (by decide) (fun y hy => HY.out y (List.mem_of_mem_take hy))) 0
      have hml : ∀ r, (((encL 2 2 12 (bs.take 24)).set 0 []).getD r []).length ≤ 300 := rows_set (fun r => by
        by_cases hr : r < 2
        · rw [encL_row hr]; decide
        · rw [List.getD_eq_getElem?_getD, List.getElem?_eq_none (by rw [encL_length]; omega)]; exact Nat.zero_le _) 0
      have D := rdecode_any 2 2 12 (some ⟨mb, off, none⟩) mc _ hbl (by rw [List.length_set, encL_length]; decide) hml _ S6.reads
      rw [List.length_set, encL_length, show decE 2 2 12 ((encL 2 2 12 (bs.take 24)).set 0 []) = 8 from e8] at D
      simp only [Nat.add_zero] at b6
      have c0 : (w5.setCell ⟨mb, off, none⟩ (.slice none 0 0)).cell? ⟨db, 0, none⟩ = some (.int .i64 2) := by rw [cell_of_row _ _ 0 _ _ _ b6]; rfl
      have c1 : (w5.setCell ⟨mb, off, none⟩ (.slice none 0 0)).cell? ⟨db, 1, none⟩ = some (.int .i64 2) := by rw [cell_of_row _ _ 1 _ _ _ b6]; rfl
      have c2 : (w5.setCell ⟨mb, off, none⟩ (.slice none 0 0)).cell? ⟨db, 2, none⟩ = some (.int .i64 12) := by rw [cell_of_row _ _ 2 _ _ _ b6]; rfl
      simp only [Nat.add_zero] at f0 f1 D B6w
      have DH := Hid.intro D
      have B6H := Hid.intro B6w
      generalize ((encL 2 2 12 (bs.take 24)).getD 0 []).length = m0 at f0
      clear S5 S6 b5 B5 B5' B5w b6 B6w e8 hbl hml D ENH b4H B4H hl0
      go_wp2_with fail
      refine DH.out.mono ?_
      rintro e w7 ⟨v7, rfl, ⟨a7, p7, rfl, _⟩, B7⟩
      have B7w := B6H.out.trans (B7.mono B6H.out.size)
      clear B7 DH B6H c0 c1 c2
      go_wp2
      go_ret
      exact ⟨rfl, B7w⟩

theorem walk (n s : Int) (a : Option Addr) (len cap : Nat) (zs : List Int) (w : World) (hn : (Lit.int .u8 n).wf = true) (hs : (Lit.int .u8 s).wf = true) (hz : IsRow .u8 w a len cap zs) :
    Calls Try.prog 4 #[.int .u8 n, .int .u8 s, .slice a len cap] w fun e w' => e = .returned (.bool true) ∧ Below w.heap.size w w' := by
  by_cases h : len < 24 ∨ 200 < len
  · exact walk_far n s a len cap w (bounds_u8 hn) (bounds_u8 hs) hz.len h
  · obtain ⟨bs, rfl, h1, h2⟩ := hz.bytes
    exact walk_near n s a cap bs w (bounds_u8 hn) (bounds_u8 hs) (by omega) (by omega) hz.le_cap hz.cap_le h1 h2

set_option maxRecDepth 100000 in
theorem lifted (os : Os) (started : os.Started) (H : Type) (enc : TypeId × Value → H) :
    ReturnsInHanded {} Try.checked os 4 .any (Rows.rsOneSpec.pre6 enc Try.prog Try.f4 Rows.rsOneRow.domain false) (Rows.rsOneSpec.post enc Try.prog Try.f4 false true false false) := by
  refine returnsInHanded_of_change (C := Try.checked) own started (by kernel_rfl) Try.func4
    (ChangeSpec.witness6 (enc := enc) (C := Try.checked) false ⟨#[], #[.int .u8 0, .int .u8 0, .slice none 0 0], []⟩ 8 (by kernel_rfl) (by kernel_rfl) (by kernel_rfl) (by kernel_rfl)) ?_
  intro W base args ds gs before hval0 hW hcnd _
  have hval : ∀ (j : Nat) t v, Try.f4.params[j]? = some t → args[j]? = some v → Value.okWide Try.prog W .any base t v := hval0
  have hW' := hW
  obtain ⟨p, q, hA0, hV, rfl, hfz, hnd⟩ := hW
  have hA : DataW.TrodAll enc Try.prog W 0 (fun _ => true) true Try.f4.params.toList args.toList ds p := hA0
  rw [Try.params4] at hA hval
  obtain ⟨v0, vs0, d0, ds0, p0, q0, hargs, rfl, rfl, h0, r0⟩ := trodAll_cons hA
  obtain ⟨v1, vs1, d1, ds1, p1, q1, rfl, rfl, rfl, h1, r1⟩ := trodAll_cons r0
  obtain ⟨v2, vs2, d2, ds2, p2, q2, rfl, rfl, rfl, h2, r2⟩ := trodAll_cons r1
  obtain ⟨rfl, rfl, rfl⟩ := trodAll_nil r2
  obtain rfl : args = #[v0, v1, v2] := by cases args; simp_all
  obtain ⟨rfl, rfl⟩ := trodVars_none hV
  obtain ⟨a0, rfl, rfl, rfl, w0⟩ := open_int Try.underlying5 (hval 0 5 v0 rfl rfl) h0
  obtain ⟨a1, rfl, rfl, rfl, w1⟩ := open_int Try.underlying5 (hval 1 5 v1 rfl rfl) h1
  obtain ⟨a2, len2, cap2, rfl⟩ := okWide_slice Try.underlying24 (hval 2 24 v2 rfl rfl)
  have k2 := h2
  have lt2 : ∀ x ∈ p2, x.block < W.heap.size := by obtain ⟨m, hm⟩ := k2; exact DataW.trod_lt m _ _ _ hm
  obtain ⟨z2, w2⟩ : ∃ zs, IsRow .u8 W a2 len2 cap2 zs := by
    obtain ⟨fuel, hf⟩ := h2
    rcases open_ints Try.underlying24 Try.underlying5 (by kernel_rfl) hf with ⟨hcs, _⟩ | ⟨x, l, c, zs, hcs, _, hl, hm, hz, _, hcell, hwz⟩
    · simp [Value.cells] at hcs
      obtain ⟨rfl, rfl, rfl⟩ := hcs
      exact ⟨[], .inl ⟨rfl, rfl, rfl, rfl⟩⟩
    · simp [Value.cells] at hcs
      obtain ⟨rfl, rfl, rfl⟩ := hcs
      exact ⟨zs, .inr ⟨_, rfl, hl, hm, by simpa using hz, hcell, hwz⟩⟩
  clear hA0 hval0
  refine (walk a0 a1 a2 len2 cap2 z2 W w0 w1 w2).mono fun e W' ⟨he, bel⟩ => ?_
  subst he
  exact ⟨_, rfl, _, _, _, [], _, [], hW', trodAll_mk1 (shut_bool Try.underlying4 _), (trodAll_cons_mk (shut_int Try.underlying5 w0) (trodAll_cons_mk (shut_int Try.underlying5 w1) (trodAll_cons_mk (Below.trod laidOut (by kernel_rfl) (of_decide_eq_true (by kernel_rfl)) k2 bel lt2) trodAll_mk0))), rfl, bel.frame _, fun h => by cases h⟩

theorem over : Rows.rsOneRow.holds Try.pinned (OpenSpec.ofChange Rows.rsOneSpec) :=
  OpenClaim.holds_of_wide 4 Try.f4 rfl rfl rfl rfl rfl rfl rfl ⟨rfl, rfl, rfl, rfl, rfl⟩ rfl rfl rfl rfl rfl (by kernel_rfl) Try.func4 (by kernel_rfl)
    (of_decide_eq_true (by kernel_rfl)) (by unfold Func.isWrapper; first | (rw [if_pos (by decide +kernel)]; kernel_rfl) | (rw [if_neg (by decide +kernel)]; exact ⟨rfl, rfl⟩))
    (fun os started H enc _ => lifted os started H enc)

end Go.Proofs.Ytebjkbhidpdpfab.LRsOne

namespace Go.Proofs.Ytebjkbhidpdpfab
theorem rsOne_holds : Rows.RsOneSaid := LRsOne.over
#print axioms rsOne_holds
end Go.Proofs.Ytebjkbhidpdpfab
