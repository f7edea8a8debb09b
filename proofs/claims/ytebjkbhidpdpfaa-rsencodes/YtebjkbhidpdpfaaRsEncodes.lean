/- RsEncodes: whatever code and bytes come in, it returns true: the shards that Encode answers, or the error, whether a code may be, and what Pad answers are the document's, for up to 200 bytes; no condition. -/
import Derived.Test.YtebjkbhidpdpfaaRsArg
import Derived.Test.YtebjkbhidpdpfaaRsAlive
import Derived.Test.YtebjkbhidpdpfaaRefEncB
import Derived.Test.YtebjkbhidpdpfaaRefSame
import Derived.Deep.RegionHeld3
namespace Go.Proofs.Ytebjkbhidpdpfaa.LRsEncodes
open Go.ChangeShapes Go.WideShapes Go.ChangeAt Go.RowKit Go.Deep
open Bt

theorem below_undrew {B : Nat} {w w' : World} (h : Below w.drew.heap.size w.drew w') (hB : B = w.heap.size) : Below B w w' := by
  subst hB; exact ⟨h.os, h.tape, h.output, h.size, h.block⟩

theorem below_cell {w w' : World} {a : Addr} {v : Value} (h : Below w.heap.size w w') (hc : w.cell? a = some v) : w'.cell? a = some v := (h.cell (cell_lt hc)).trans hc

theorem walk_far (k n s : Int) (a : Option Addr) (len cap : Nat) (w : World) (hlen : len ≤ maxLen) (h : 200 < len) :
    Calls Try.prog 3 #[Cd k n s, .slice a len cap] w fun e w' => e = .returned (.bool true) ∧ Below w.heap.size w w' := by
  unfold maxLen at hlen
  have j : decide ((200 : Int) < (len : Int)) = true := by simp; omega
  go_enter Try.func3, Try.ntmps3
  go_wp2_with fail
  refine (alive_any _).mono ?_
  rintro e w1 ⟨rfl, B1⟩
  go_wp2
  go_ret
  exact ⟨rfl, ((Below.refl _ _).alloc (Nat.le_refl _) _).trans ((below_chg B1).below (by simp) (fun _ f => f.elim))⟩

set_option maxRecDepth 100000 in
set_option maxHeartbeats 2000000 in
theorem walk_near (k n s : Int) (a : Option Addr) (cap : Nat) (bs : List Nat) (w : World) (h2 : bs.length ≤ 200) (hn : Room a cap bs.length) (hY : Byt bs) (hr : Reads w a bs) :
    Calls Try.prog 3 #[Cd k n s, .slice a bs.length cap] w fun e w' => e = .returned (.bool true) ∧ Below w.heap.size w w' := by
  have HR := Hid.intro hr
  have HY := Hid.intro hY
  have HN := Hid.intro hn
  clear hr hY hn
  have hdec : decide ((200 : Int) < (bs.length : Int)) = false := by simp; omega
  go_enter Try.func3, Try.ntmps3
  go_wp2_with fail
  refine (alive_any _).mono ?_
  rintro e w1 ⟨rfl, B1⟩
  have b1 : w1.heap[w.heap.size]? = some (.cells #[.int .i64 k, .int .i64 n, .int .i64 s] 23 (0, 0)) := by
    rw [B1.block _ (by simp)]; exact heap_alloc_new w _
  have B1w : Below w.heap.size w w1 := ((Below.refl _ _).alloc (Nat.le_refl _) _).trans ((below_chg B1).below (by simp) (fun _ f => f.elim))
  have r1 := HR.out.below B1w
  have c0 : w1.cell? ⟨w.heap.size, 0, none⟩ = some (.int .i64 k) := by rw [cell_of_row _ _ 0 _ _ _ b1]; rfl
  have c1 : w1.cell? ⟨w.heap.size, 1, none⟩ = some (.int .i64 n) := by rw [cell_of_row _ _ 1 _ _ _ b1]; rfl
  have c2 : w1.cell? ⟨w.heap.size, 2, none⟩ = some (.int .i64 s) := by rw [cell_of_row _ _ 2 _ _ _ b1]; rfl
  have b1H := Hid.intro b1
  have B1H := Hid.intro B1w
  have r1H := Hid.intro r1
  clear b1 B1w r1 B1 HR
  go_wp2_with fail
  refine (rencode_any k n s a cap bs HY.out (by omega) w1 r1H.out HN.out).mono ?_
  rintro e w2 ⟨v2, rfl, S2, B2⟩
  have b2 := (B2.block _ (lt_of_heap b1H.out)).trans b1H.out
  have B2w := B1H.out.trans (B2.mono B1H.out.size)
  have r2 := r1H.out.below B2
  clear c0 c1 c2
  have c0 : w2.cell? ⟨w.heap.size, 0, none⟩ = some (.int .i64 k) := by rw [cell_of_row _ _ 0 _ _ _ b2]; rfl
  have c1 : w2.cell? ⟨w.heap.size, 1, none⟩ = some (.int .i64 n) := by rw [cell_of_row _ _ 1 _ _ _ b2]; rfl
  have c2 : w2.cell? ⟨w.heap.size, 2, none⟩ = some (.int .i64 s) := by rw [cell_of_row _ _ 2 _ _ _ b2]; rfl
  have E3 := Hid.intro (refEncode_any k n s a cap bs HY.out)
  have P1 := Hid.intro (fun w => rmay_any k n s w)
  have P2 := Hid.intro (fun w => refMay_any k n s w)
  have P3 := Hid.intro (rpad_any k n s a cap bs HY.out (by omega))
  have P4 := Hid.intro (refPad_any k n s a cap bs (by omega))
  have hAl : (encA k n s bs).length ≤ 1000000 := by
    unfold encA
    split
    · rename_i h0
      obtain ⟨hm, _⟩ := encE_ok h0
      have := mayC_true hm
      rw [encL_length]; omega
    · exact Nat.zero_le _
  have hPl : (padB k n s bs).length < 2 ^ 40 := by
    unfold padB
    split
    · rename_i h0
      obtain ⟨m1, m2, m3, m4, m5, m6⟩ := mayC_true h0.1
      have h0 := h0.2
      obtain ⟨K, rfl⟩ := Int.eq_ofNat_of_zero_le (show 0 ≤ k by omega)
      obtain ⟨S, rfl⟩ := Int.eq_ofNat_of_zero_le (show 0 ≤ s by omega)
      have hKS : K * S ≤ 144 := by
        calc K * S ≤ 6 * S := Nat.mul_le_mul_right _ (by omega)
          _ ≤ 6 * 24 := Nat.mul_le_mul_left _ (by omega)
      rw [List.length_append, List.length_replicate, ← Int.natCast_mul, Int.toNat_natCast]
      omega
    · simp
  generalize encE k n s bs.length = E at E3 ⊢
  generalize encA k n s bs = A at E3 S2 hAl
  generalize padB k n s bs = PB at P3 P4 hPl
  generalize mayC k n s = M at P1 P2
  have b2H := Hid.intro b2
  have B2H := Hid.intro B2w
  have r2H := Hid.intro r2
  have S2H := Hid.intro S2
  clear b2 B2w r2 S2 B2 b1H B1H r1H
  go_wp2_with fail
  refine (E3.out w2 r2H.out).mono ?_
  rintro e w3 ⟨v3, rfl, S3, B3⟩
  have b3 := (B3.block _ (lt_of_heap b2H.out)).trans b2H.out
  have B3w := B2H.out.trans (B3.mono B2H.out.size)
  have r3 := r2H.out.below B3
  clear c0 c1 c2
  have c0 : w3.cell? ⟨w.heap.size, 0, none⟩ = some (.int .i64 k) := by rw [cell_of_row _ _ 0 _ _ _ b3]; rfl
  have c1 : w3.cell? ⟨w.heap.size, 1, none⟩ = some (.int .i64 n) := by rw [cell_of_row _ _ 1 _ _ _ b3]; rfl
  have c2 : w3.cell? ⟨w.heap.size, 2, none⟩ = some (.int .i64 s) := by rw [cell_of_row _ _ 2 _ _ _ b3]; rfl
  -- both lists read as the same rows
  obtain ⟨a2, p2, e2, R2⟩ : ∃ a2 p2, v2 = .slice a2 A.length p2 ∧ ReadsL w3 a2 A := by
    rcases S2H.out with ⟨h0, ao, cp, e, _⟩ | ⟨mb, off, mc, A', C', e, h⟩
    · exact ⟨ao, cp, by rw [h0]; exact e, fun h => absurd h (by rw [h0]; simp)⟩
    · exact ⟨_, _, e, h.reads.below B3⟩
  obtain ⟨a3, p3, e3, R3⟩ : ∃ a3 p3, v3 = .slice a3 A.length p3 ∧ ReadsL w3 a3 A := by
    rcases S3 with ⟨h0, ao, cp, e, _⟩ | ⟨mb, off, mc, A', C', e, h⟩
    · exact ⟨ao, cp, by rw [h0]; exact e, fun h => absurd h (by rw [h0]; simp)⟩
    · exact ⟨_, _, e, h.reads⟩
  subst e2
  subst e3
  have P0 := Hid.intro (fun (w : World) (h1 : ReadsL w a2 A) (h2 : ReadsL w a3 A) => refLists_true a2 a3 p2 p3 A hAl w h1 h2)
  have P5 := Hid.intro (fun (x y : Option Addr) (c d : Nat) (w : World) (h1 : Reads w x PB) (h2 : Reads w y PB) => same_true x y c d PB hPl w h1 h2)
  have hE : (E == E) = true := by simp
  have hMM : (M == M) = true := by simp
  have TT : Hid (∀ w', Below w3.heap.size w3 w' → Below w.heap.size w w' ∧ ReadsL w' a2 A ∧ ReadsL w' a3 A ∧ Reads w' a bs) := fun w' h =>
    ⟨B3w.trans (h.mono B3w.size), R2.below h, R3.below h, r3.below h⟩
  clear b3 B3w r3 S3 B3 b2H B2H r2H S2H R2 R3 hAl hPl E3
  go_wp2_with fail
  go_region_held3 (fun w' => w'.cell? ⟨w.heap.size, 0, none⟩ = some (.int .i64 k) ∧ w'.cell? ⟨w.heap.size, 1, none⟩ = some (.int .i64 n) ∧ w'.cell? ⟨w.heap.size, 2, none⟩ = some (.int .i64 s))
    (first | exact ⟨below_cell E9 c0, below_cell E9 c1, below_cell E9 c2⟩ | exact ⟨below_cell E8 c0, below_cell E8 c1, below_cell E8 c2⟩ | exact ⟨below_cell E7 c0, below_cell E7 c1, below_cell E7 c2⟩ | exact ⟨below_cell E6 c0, below_cell E6 c1, below_cell E6 c2⟩ | exact ⟨below_cell E5 c0, below_cell E5 c1, below_cell E5 c2⟩ | exact ⟨below_cell E4 c0, below_cell E4 c1, below_cell E4 c2⟩ | go_keep)
    ((first
      | (go_at_call 12; refine (P0.out w3.drew (TT.out w3.drew (belowN (Below.refl _ w3) 1)).2.1 (TT.out w3.drew (belowN (Below.refl _ w3) 1)).2.2.1).mono ?_; rintro e w4 ⟨rfl, B4⟩; have E4 : Below w3.heap.size w3 w4 := below_undrew B4 rfl)
      | (go_at_call 13; refine (P1.out w4).mono ?_; rintro e w5 ⟨rfl, B5⟩; have E5 := E4.trans (B5.mono E4.size))
      | (go_at_call 14; refine (P2.out w5).mono ?_; rintro e w6 ⟨rfl, B6⟩; have E6 := E5.trans (B6.mono E5.size))
      | (go_at_call 16; refine (P3.out w6 (TT.out w6 E6).2.2.2 HN.out.1).mono ?_; rintro e w7 ⟨v7, rfl, ⟨a7, p7, rfl, r7, _, _⟩, B7⟩; have E7 := E6.trans (B7.mono E6.size))
      | (go_at_call 17; refine (P4.out w7 (TT.out w7 E7).2.2.2 HN.out.1).mono ?_; rintro e w8 ⟨v8, rfl, o8, n8, B8⟩; have E8 := E7.trans (B8.mono E7.size); have r78 := r7.below B8; obtain ⟨a8, p8, rfl, r8, _⟩ := row_of_owns o8)
      | (go_at_call 15; refine (P5.out a7 a8 p7 p8 w8 r78 r8).mono ?_; rintro e w9 ⟨rfl, q9, rfl⟩; have E9 := belowN E8 q9)))
  all_goals
    have D9 : Below w.heap.size w (w8.drewN q9) := (TT.out _ E9).1
    go_wp2
    go_ret
    exact ⟨rfl, D9⟩

theorem walk (k n s : Int) (a : Option Addr) (len cap : Nat) (zs : List Int) (w : World) (_ : (Lit.int .i64 k).wf = true ∧ (Lit.int .i64 n).wf = true ∧ (Lit.int .i64 s).wf = true) (hz : IsRow .u8 w a len cap zs) :
    Calls Try.prog 3 #[.agg #[.int .i64 k, .int .i64 n, .int .i64 s], .slice a len cap] w fun e w' => e = .returned (.bool true) ∧ Below w.heap.size w w' := by
  by_cases h : 200 < len
  · exact walk_far k n s a len cap w hz.len h
  · obtain ⟨bs, rfl, h1, h2⟩ := hz.bytes
    exact walk_near k n s a cap bs w (by omega) hz.room h1 h2

set_option maxRecDepth 100000 in
theorem lifted (os : Os) (started : os.Started) (H : Type) (enc : TypeId × Value → H) :
    ReturnsInHanded {} Try.checked os 3 .any (Rows.rsEncodesSpec.pre6 enc Try.prog Try.f3 Rows.rsEncodesRow.domain false) (Rows.rsEncodesSpec.post enc Try.prog Try.f3 false true false false) := by
  refine returnsInHanded_of_change (C := Try.checked) own started (by kernel_rfl) Try.func3
    (ChangeSpec.witness6 (enc := enc) (C := Try.checked) false ⟨#[], #[.agg #[.int .i64 0, .int .i64 0, .int .i64 0], .slice none 0 0], []⟩ 8 (by kernel_rfl) (by kernel_rfl) (by kernel_rfl) (by kernel_rfl)) ?_
  intro W base args ds gs before hval0 hW hcnd _
  have hval : ∀ (j : Nat) t v, Try.f3.params[j]? = some t → args[j]? = some v → Value.okWide Try.prog W .any base t v := hval0
  have hW' := hW
  obtain ⟨p, q, hA0, hV, rfl, hfz, hnd⟩ := hW
  have hA : DataW.TrodAll enc Try.prog W 0 (fun _ => true) true Try.f3.params.toList args.toList ds p := hA0
  rw [Try.params3] at hA hval
  obtain ⟨v0, vs0, d0, ds0, p0, q0, hargs, rfl, rfl, h0, r0⟩ := trodAll_cons hA
  obtain ⟨v1, vs1, d1, ds1, p1, q1, rfl, rfl, rfl, h1, r1⟩ := trodAll_cons r0
  obtain ⟨rfl, rfl, rfl⟩ := trodAll_nil r1
  obtain rfl : args = #[v0, v1] := by cases args; simp_all
  obtain ⟨rfl, rfl⟩ := trodVars_none hV
  have k0 := h0
  have lt0 : ∀ x ∈ p0, x.block < W.heap.size := by obtain ⟨m, hm⟩ := k0; exact DataW.trod_lt m _ _ _ hm
  obtain ⟨kc0, nc0, sc0, rfl, w0⟩ := open_code (hval 0 23 v0 rfl rfl) h0
  obtain ⟨a1, len1, cap1, rfl⟩ := okWide_slice Try.underlying24 (hval 1 24 v1 rfl rfl)
  have k1 := h1
  have lt1 : ∀ x ∈ p1, x.block < W.heap.size := by obtain ⟨m, hm⟩ := k1; exact DataW.trod_lt m _ _ _ hm
  obtain ⟨z1, w1⟩ : ∃ zs, IsRow .u8 W a1 len1 cap1 zs := by
    obtain ⟨fuel, hf⟩ := h1
    rcases open_ints Try.underlying24 Try.underlying5 (by kernel_rfl) hf with ⟨hcs, _⟩ | ⟨x, l, c, zs, hcs, _, hl, hm, hz, _, hcell, hwz⟩
    · simp [Value.cells] at hcs
      obtain ⟨rfl, rfl, rfl⟩ := hcs
      exact ⟨[], .inl ⟨rfl, rfl, rfl, rfl⟩⟩
    · simp [Value.cells] at hcs
      obtain ⟨rfl, rfl, rfl⟩ := hcs
      exact ⟨zs, .inr ⟨_, rfl, hl, hm, by simpa using hz, hcell, hwz⟩⟩
  clear hA0 hval0
  refine (walk kc0 nc0 sc0 a1 len1 cap1 z1 W w0 w1).mono fun e W' ⟨he, bel⟩ => ?_
  subst he
  exact ⟨_, rfl, _, _, _, [], _, [], hW', trodAll_mk1 (shut_bool Try.underlying4 _), (trodAll_cons_mk (Below.trod laidOut (by kernel_rfl) (of_decide_eq_true (by kernel_rfl)) k0 bel lt0) (trodAll_cons_mk (Below.trod laidOut (by kernel_rfl) (of_decide_eq_true (by kernel_rfl)) k1 bel lt1) trodAll_mk0)), rfl, bel.frame _, fun h => by cases h⟩

theorem over : Rows.rsEncodesRow.holds Try.pinned (OpenSpec.ofChange Rows.rsEncodesSpec) :=
  OpenClaim.holds_of_wide 3 Try.f3 rfl rfl rfl rfl rfl rfl rfl ⟨rfl, rfl, rfl, rfl, rfl⟩ rfl rfl rfl rfl rfl (by kernel_rfl) Try.func3 (by kernel_rfl)
    (of_decide_eq_true (by kernel_rfl)) (by unfold Func.isWrapper; first | (rw [if_pos (by decide +kernel)]; kernel_rfl) | (rw [if_neg (by decide +kernel)]; exact ⟨rfl, rfl⟩))
    (fun os started H enc _ => lifted os started H enc)

end Go.Proofs.Ytebjkbhidpdpfaa.LRsEncodes

namespace Go.Proofs.Ytebjkbhidpdpfaa
theorem rsEncodes_holds : Rows.RsEncodesSaid := LRsEncodes.over
#print axioms rsEncodes_holds
end Go.Proofs.Ytebjkbhidpdpfaa
