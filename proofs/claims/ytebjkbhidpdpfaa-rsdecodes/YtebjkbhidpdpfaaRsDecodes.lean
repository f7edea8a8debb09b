/- RsDecodes: whatever code and rows of bytes come in, it returns true: the text that Decode answers, or the error, is the document's; no condition. -/
import Derived.Test.YtebjkbhidpdpfaaRsArg
import Derived.Test.YtebjkbhidpdpfaaRsAlive
import Derived.Test.YtebjkbhidpdpfaaRsGreat
import Derived.Test.YtebjkbhidpdpfaaRefDec
import Derived.Test.YtebjkbhidpdpfaaRefSame
namespace Go.Proofs.Ytebjkbhidpdpfaa.LRsDecodes
open Go.ChangeShapes Go.WideShapes Go.ChangeAt Go.RowKit Go.Deep
open Bt

set_option maxRecDepth 100000 in
set_option maxHeartbeats 1000000 in
theorem walk (k n s : Int) (a : Option Addr) (len cap : Nat) (L : List (List Nat)) (w : World) (_ : (Lit.int .i64 k).wf = true ∧ (Lit.int .i64 n).wf = true ∧ (Lit.int .i64 s).wf = true) (hL : L.length = len ∧ BytL L ∧ ReadsL w a L ∧ len ≤ maxLen) :
    Calls Try.prog 4 #[.agg #[.int .i64 k, .int .i64 n, .int .i64 s], .slice a len cap] w fun e w' => e = .returned (.bool true) ∧ Below w.heap.size w w' := by
  obtain ⟨rfl, hB, hr, _⟩ := hL
  have HB := Hid.intro hB
  have HR := Hid.intro hr
  clear hB hr
  go_enter Try.func4, Try.ntmps4
  go_wp2_with fail
  refine (alive_any _).mono ?_
  rintro e w1 ⟨rfl, B1⟩
  have b1 : w1.heap[w.heap.size]? = some (.cells #[.int .i64 k, .int .i64 n, .int .i64 s] 23 (0, 0)) := by
    rw [B1.block _ (by simp)]; exact heap_alloc_new w _
  have B1w : Below w.heap.size w w1 := ((Below.refl _ _).alloc (Nat.le_refl _) _).trans ((below_chg B1).below (by simp) (fun _ f => f.elim))
  have r1 := HR.out.below B1w
  have b1H := Hid.intro b1
  have B1H := Hid.intro B1w
  have r1H := Hid.intro r1
  clear b1 B1w r1 B1 HR
  go_wp2_with fail
  refine (great_any a cap L w1 r1H.out).mono ?_
  rintro e w2 ⟨rfl, B2⟩
  have b2 := (B2.block _ (lt_of_heap b1H.out)).trans b1H.out
  have B2w := B1H.out.trans (B2.mono B1H.out.size)
  have r2 := r1H.out.below B2
  rcases hg : greatL L with _ | _
  · obtain ⟨g1, g2⟩ := greatL_false hg
    have c0 : w2.cell? ⟨w.heap.size, 0, none⟩ = some (.int .i64 k) := by rw [cell_of_row _ _ 0 _ _ _ b2]; rfl
    have c1 : w2.cell? ⟨w.heap.size, 1, none⟩ = some (.int .i64 n) := by rw [cell_of_row _ _ 1 _ _ _ b2]; rfl
    have c2 : w2.cell? ⟨w.heap.size, 2, none⟩ = some (.int .i64 s) := by rw [cell_of_row _ _ 2 _ _ _ b2]; rfl
    have b2H := Hid.intro b2
    have B2H := Hid.intro B2w
    have r2H := Hid.intro r2
    have G2 := Hid.intro g2
    clear b2 B2w r2 B2 b1H B1H r1H g2
    go_wp2_with fail
    refine (rdecode_any k n s a cap L HB.out (by omega) (fun r => Nat.le_trans (G2.out r) (by decide)) w2 r2H.out).mono ?_
    rintro e w3 ⟨v3, rfl, ⟨a3, p3, rfl, R3, _, _⟩, B3⟩
    have b3 := (B3.block _ (lt_of_heap b2H.out)).trans b2H.out
    have B3w := B2H.out.trans (B3.mono B2H.out.size)
    have r3 := r2H.out.below B3
    clear c0 c1 c2
    have c0 : w3.cell? ⟨w.heap.size, 0, none⟩ = some (.int .i64 k) := by rw [cell_of_row _ _ 0 _ _ _ b3]; rfl
    have c1 : w3.cell? ⟨w.heap.size, 1, none⟩ = some (.int .i64 n) := by rw [cell_of_row _ _ 1 _ _ _ b3]; rfl
    have c2 : w3.cell? ⟨w.heap.size, 2, none⟩ = some (.int .i64 s) := by rw [cell_of_row _ _ 2 _ _ _ b3]; rfl
    have b3H := Hid.intro b3
    have B3H := Hid.intro B3w
    have r3H := Hid.intro r3
    have R3H := Hid.intro R3
    have D3 := Hid.intro (refDecode_any k n s a cap L HB.out)
    have hTl : (decA k n s L).length ≤ 144 := by
      unfold decA
      split
      · rename_i h0
        have hm : mayC k n s = true := by
          rcases hm : mayC k n s with _ | _
          · rw [decE_may hm] at h0; exact absurd h0 (by decide)
          · rfl
        obtain ⟨m1, m2, m3, m4, m5, m6⟩ := mayC_true hm
        rw [decT_length]
        calc k.toNat * s.toNat ≤ 6 * s.toNat := Nat.mul_le_mul_right _ (by omega)
          _ ≤ 6 * 24 := Nat.mul_le_mul_left _ (by omega)
      · exact Nat.zero_le _
    generalize decE k n s L = E at D3 ⊢
    generalize decA k n s L = T at D3 R3H hTl ⊢
    clear b3 B3w r3 R3 B3 b2H B2H r2H G2
    go_wp2_with fail
    refine (D3.out w3 r3H.out).mono ?_
    rintro e w4 ⟨v4, rfl, R4, _, B4⟩
    have B4w := B3H.out.trans (B4.mono B3H.out.size)
    obtain ⟨a4, p4, rfl, R4, _⟩ := row_of_owns R4
    have R3b := R3H.out.below B4
    have S4 := Hid.intro (same_true a3 a4 p3 p4 T (by omega) w4 R3b R4)
    have B4H := Hid.intro B4w
    clear B4w R4 R3b B4 b3H B3H r3H R3H c0 c1 c2 D3
    go_wp2_with fail
    refine S4.out.mono ?_
    rintro e w5 ⟨rfl, q, rfl⟩
    go_wp2
    go_ret
    exact ⟨rfl, belowN B4H.out q⟩
  · go_wp2
    go_ret
    exact ⟨rfl, B2w⟩

set_option maxRecDepth 100000 in
theorem lifted (os : Os) (started : os.Started) (H : Type) (enc : TypeId × Value → H) :
    ReturnsInHanded {} Try.checked os 4 .any (Rows.rsDecodesSpec.pre6 enc Try.prog Try.f4 Rows.rsDecodesRow.domain false) (Rows.rsDecodesSpec.post enc Try.prog Try.f4 false true false false) := by
  refine returnsInHanded_of_change (C := Try.checked) own started (by kernel_rfl) Try.func4
    (ChangeSpec.witness6 (enc := enc) (C := Try.checked) false ⟨#[], #[.agg #[.int .i64 0, .int .i64 0, .int .i64 0], .slice none 0 0], []⟩ 8 (by kernel_rfl) (by kernel_rfl) (by kernel_rfl) (by kernel_rfl)) ?_
  intro W base args ds gs before hval0 hW hcnd _
  have hval : ∀ (j : Nat) t v, Try.f4.params[j]? = some t → args[j]? = some v → Value.okWide Try.prog W .any base t v := hval0
  have hW' := hW
  obtain ⟨p, q, hA0, hV, rfl, hfz, hnd⟩ := hW
  have hA : DataW.TrodAll enc Try.prog W 0 (fun _ => true) true Try.f4.params.toList args.toList ds p := hA0
  rw [Try.params4] at hA hval
  obtain ⟨v0, vs0, d0, ds0, p0, q0, hargs, rfl, rfl, h0, r0⟩ := trodAll_cons hA
  obtain ⟨v1, vs1, d1, ds1, p1, q1, rfl, rfl, rfl, h1, r1⟩ := trodAll_cons r0
  obtain ⟨rfl, rfl, rfl⟩ := trodAll_nil r1
  obtain rfl : args = #[v0, v1] := by cases args; simp_all
  obtain ⟨rfl, rfl⟩ := trodVars_none hV
  have k0 := h0
  have lt0 : ∀ x ∈ p0, x.block < W.heap.size := by obtain ⟨m, hm⟩ := k0; exact DataW.trod_lt m _ _ _ hm
  obtain ⟨kc0, nc0, sc0, rfl, w0⟩ := open_code (hval 0 23 v0 rfl rfl) h0
  have k1 := h1
  have lt1 : ∀ x ∈ p1, x.block < W.heap.size := by obtain ⟨m, hm⟩ := k1; exact DataW.trod_lt m _ _ _ hm
  obtain ⟨a1, len1, cap1, rfl⟩ := okWide_slice Try.underlying26 (hval 1 26 v1 rfl rfl)
  obtain ⟨z1, w1⟩ := open_lists h1
  clear hA0 hval0
  refine (walk kc0 nc0 sc0 a1 len1 cap1 z1 W w0 w1).mono fun e W' ⟨he, bel⟩ => ?_
  subst he
  exact ⟨_, rfl, _, _, _, [], _, [], hW', trodAll_mk1 (shut_bool Try.underlying4 _), (trodAll_cons_mk (Below.trod laidOut (by kernel_rfl) (of_decide_eq_true (by kernel_rfl)) k0 bel lt0) (trodAll_cons_mk (Below.trod laidOut (by kernel_rfl) (of_decide_eq_true (by kernel_rfl)) k1 bel lt1) trodAll_mk0)), rfl, bel.frame _, fun h => by cases h⟩

theorem over : Rows.rsDecodesRow.holds Try.pinned (OpenSpec.ofChange Rows.rsDecodesSpec) :=
  OpenClaim.holds_of_wide 4 Try.f4 rfl rfl rfl rfl rfl rfl rfl ⟨rfl, rfl, rfl, rfl, rfl⟩ rfl rfl rfl rfl rfl (by kernel_rfl) Try.func4 (by kernel_rfl)
    (of_decide_eq_true (by kernel_rfl)) (by unfold Func.isWrapper; first | (rw [if_pos (by decide +kernel)]; kernel_rfl) | (rw [if_neg (by decide +kernel)]; exact ⟨rfl, rfl⟩))
    (fun os started H enc _ => lifted os started H enc)

end Go.Proofs.Ytebjkbhidpdpfaa.LRsDecodes

namespace Go.Proofs.Ytebjkbhidpdpfaa
theorem rsDecodes_holds : Rows.RsDecodesSaid := LRsDecodes.over
#print axioms rsDecodes_holds
end Go.Proofs.Ytebjkbhidpdpfaa
