/- SeqOpen: whatever group comes in, it returns true: of all groups four are open, and half of them are behind; no condition. -/
import Derived.Test.YtonlhddcdipgjaaArgs
import Derived.Test.YtonlhddcdipgjaaSqAlive
namespace Go.Proofs.Ytonlhddcdipgjaa.LSeqOpen
open Go.ChangeShapes Go.WideShapes Go.ChangeAt Go.RowKit
open Bt

/-- How far, of numbers that are groups. -/
def farN (a g : Nat) : Nat := (g + 256 - a) % 256

/-- How many of the first t groups are such. -/
def cntN (p : Nat → Bool) : Nat → Nat
  | 0 => 0
  | t + 1 => if p t = true then cntN p t + 1 else cntN p t

theorem cntN_le (p : Nat → Bool) (t : Nat) : cntN p t ≤ t := by
  induction t with
  | zero => exact Nat.le_refl _
  | succ t ih => unfold cntN; split <;> omega

theorem counts : ((List.range 256).all fun a => decide (cntN (fun g => decide (farN a g ≤ 3)) 256 = 4) && decide (cntN (fun g => decide (128 ≤ farN a g)) 256 = 128)) = true := by decide +kernel

theorem counts_at {a : Nat} (h : a < 256) : cntN (fun g => decide (farN a g ≤ 3)) 256 = 4 ∧ cntN (fun g => decide (128 ≤ farN a g)) 256 = 128 := by
  have := List.all_eq_true.1 counts a (List.mem_range.2 h)
  simpa using this

theorem farA_N {a g : Nat} (ha : a < 256) (hg : g < 256) : farA (a : Int) (g : Int) = ((farN a g : Nat) : Int) := by
  rw [farA_in (by omega) (by omega)]
  unfold farN
  omega

theorem openA_N {a g : Nat} (ha : a < 256) (hg : g < 256) : openA (a : Int) (g : Int) = decide (farN a g ≤ 3) := by
  unfold openA
  rw [farA_N ha hg, Bool.eq_iff_iff]
  simp
  omega

theorem behindA_N {a g : Nat} (ha : a < 256) (hg : g < 256) : behindA (a : Int) (g : Int) = decide (128 ≤ farN a g) := by
  unfold behindA
  rw [farA_N ha hg, Bool.eq_iff_iff]
  simp
  omega

set_option maxRecDepth 100000 in
set_option maxHeartbeats 1000000 in
theorem walk (x : Int) (w : World) (hx : (Lit.int .u8 x).wf = true) :
    Calls Try.prog 7 #[.int .u8 x] w fun e w' => e = .returned (.bool true) ∧ Below w.heap.size w w' := by
  have kx := bounds_u8 hx
  obtain ⟨a, rfl⟩ := Int.eq_ofNat_of_zero_le kx.1
  have ha : a < 256 := by omega
  clear hx kx
  obtain ⟨c1, c2⟩ := counts_at ha
  obtain ⟨p, hp⟩ : ∃ p : Nat → Bool, p = fun g => decide (farN a g ≤ 3) := ⟨_, rfl⟩
  obtain ⟨q, hq⟩ : ∃ q : Nat → Bool, q = fun g => decide (128 ≤ farN a g) := ⟨_, rfl⟩
  rw [← hp] at c1
  rw [← hq] at c2
  have P1 := Hid.intro (show ∀ g : Nat, g < 256 → openA (a : Int) (g : Int) = p g from fun g hg => by rw [openA_N ha hg, hp])
  have P2 := Hid.intro (show ∀ g : Nat, g < 256 → behindA (a : Int) (g : Int) = q g from fun g hg => by rw [behindA_N ha hg, hq])
  clear hp hq
  go_enter Try.func7, Try.ntmps7
  go_wp2_with fail
  refine (alive_any w).mono ?_
  rintro e w1 ⟨rfl, D1⟩
  go_wp2_with fail
  go_loopw [3, 4, 5] (fun o b g ws => ∃ t : Nat, t ≤ 256 ∧ g = .int .i64 t ∧ o = .int .i64 (cntN p t : Nat) ∧ b = .int .i64 (cntN q t : Nat) ∧ Below w.heap.size w ws) (fun _ _ g _ => 256 - (intOf g).toNat)
  case atStart => exact ⟨0, by omega, rfl, rfl, rfl, D1⟩
  case round =>
    obtain ⟨t, ht, rfl, rfl, rfl, BX⟩ := hrel
    by_cases htl : t < 256
    · have t1 : (t : Int) < 256 := by omega
      have e1 := P1.out t htl
      have e2 := P2.out t htl
      have C1 := Hid.intro (fun w => sopen_any a t w)
      have C2 := Hid.intro (fun w => sbehind_any a t w)
      rw [e1] at C1
      rw [e2] at C2
      have n1 := Hid.intro (show cntN p (t + 1) = if p t = true then cntN p t + 1 else cntN p t from rfl)
      have n2 := Hid.intro (show cntN q (t + 1) = if q t = true then cntN q t + 1 else cntN q t from rfl)
      have l1 := cntN_le p t
      have l2 := cntN_le q t
      generalize p t = pt at C1 n1
      generalize q t = qt at C2 n2
      generalize cntN p t = cp at n1 l1 ⊢
      generalize cntN q t = cq at n2 l2 ⊢
      clear e1 e2 c1 c2
      rcases pt with _ | _
      · rcases qt with _ | _
        · go_wp2_with fail
          refine (C1.out wr).mono ?_
          rintro e w3 ⟨rfl, B3⟩
          have D3 := BX.trans (B3.mono BX.size)
          clear B3 C1
          go_wp2_with fail
          refine (C2.out w3).mono ?_
          rintro e w4 ⟨rfl, B4⟩
          have D4 := D3.trans (B4.mono D3.size)
          clear B4 C2 BX D3
          go_wp2
          go_roundw
          case rel => exact ⟨t + 1, by omega, by go_num, by rw [n1.out, if_neg (by decide)], by rw [n2.out, if_neg (by decide)], D4⟩
          case measure => simp [intOf]; omega
        · go_wp2_with fail
          refine (C1.out wr).mono ?_
          rintro e w3 ⟨rfl, B3⟩
          have D3 := BX.trans (B3.mono BX.size)
          clear B3 C1
          go_wp2_with fail
          refine (C2.out w3).mono ?_
          rintro e w4 ⟨rfl, B4⟩
          have D4 := D3.trans (B4.mono D3.size)
          clear B4 C2 BX D3
          go_wp2
          go_roundw
          case rel => exact ⟨t + 1, by omega, by go_num, by rw [n1.out, if_neg (by decide)], by rw [n2.out, if_pos (by trivial)]; go_num, D4⟩
          case measure => simp [intOf]; omega
      · rcases qt with _ | _
        · go_wp2_with fail
          refine (C1.out wr).mono ?_
          rintro e w3 ⟨rfl, B3⟩
          have D3 := BX.trans (B3.mono BX.size)
          clear B3 C1
          go_wp2_with fail
          refine (C2.out w3).mono ?_
          rintro e w4 ⟨rfl, B4⟩
          have D4 := D3.trans (B4.mono D3.size)
          clear B4 C2 BX D3
          go_wp2
          go_roundw
          case rel => exact ⟨t + 1, by omega, by go_num, by rw [n1.out, if_pos (by trivial)]; go_num, by rw [n2.out, if_neg (by decide)], D4⟩
          case measure => simp [intOf]; omega
        · go_wp2_with fail
          refine (C1.out wr).mono ?_
          rintro e w3 ⟨rfl, B3⟩
          have D3 := BX.trans (B3.mono BX.size)
          clear B3 C1
          go_wp2_with fail
          refine (C2.out w3).mono ?_
          rintro e w4 ⟨rfl, B4⟩
          have D4 := D3.trans (B4.mono D3.size)
          clear B4 C2 BX D3
          go_wp2
          go_roundw
          case rel => exact ⟨t + 1, by omega, by go_num, by rw [n1.out, if_pos (by trivial)]; go_num, by rw [n2.out, if_pos (by trivial)]; go_num, D4⟩
          case measure => simp [intOf]; omega
    · have hte : t = 256 := by omega
      subst hte
      rw [c1, c2]
      go_wp2
      go_ret
      exact ⟨rfl, BX⟩

set_option maxRecDepth 100000 in
theorem lifted (os : Os) (started : os.Started) (H : Type) (enc : TypeId × Value → H) :
    ReturnsInHanded {} Try.checked os 7 .any (Rows.seqOpenSpec.pre6 enc Try.prog Try.f7 Rows.seqOpenRow.domain false) (Rows.seqOpenSpec.post enc Try.prog Try.f7 false true false false) := by
  refine returnsInHanded_of_change (C := Try.checked) own started (by kernel_rfl) Try.func7
    (ChangeSpec.witness6 (enc := enc) (C := Try.checked) false ⟨#[], #[.int .u8 0], []⟩ 8 (by kernel_rfl) (by kernel_rfl) (by kernel_rfl) (by kernel_rfl)) ?_
  intro W base args ds gs before hval0 hW hcnd _
  have hval : ∀ (j : Nat) t v, Try.f7.params[j]? = some t → args[j]? = some v → Value.okWide Try.prog W .any base t v := hval0
  have hW' := hW
  obtain ⟨p, q, hA0, hV, rfl, hfz, hnd⟩ := hW
  have hA : DataW.TrodAll enc Try.prog W 0 (fun _ => true) true Try.f7.params.toList args.toList ds p := hA0
  rw [Try.params7] at hA hval
  obtain ⟨v0, vs0, d0, ds0, p0, q0, hargs, rfl, rfl, h0, r0⟩ := trodAll_cons hA
  obtain ⟨rfl, rfl, rfl⟩ := trodAll_nil r0
  obtain rfl : args = #[v0] := by cases args; simp_all
  obtain ⟨rfl, rfl⟩ := trodVars_none hV
  obtain ⟨a0, rfl, rfl, rfl, w0⟩ := open_int Try.underlying5 (hval 0 5 v0 rfl rfl) h0
  clear hA0 hval0
  refine (walk a0 W w0).mono fun e W' ⟨he, bel⟩ => ?_
  subst he
  exact ⟨_, rfl, _, _, _, [], _, [], hW', trodAll_mk1 (shut_bool Try.underlying4 _), (trodAll_cons_mk (shut_int Try.underlying5 w0) trodAll_mk0), rfl, bel.frame _, fun h => by cases h⟩

theorem over : Rows.seqOpenRow.holds Try.pinned (OpenSpec.ofChange Rows.seqOpenSpec) :=
  OpenClaim.holds_of_wide 7 Try.f7 rfl rfl rfl rfl rfl rfl rfl ⟨rfl, rfl, rfl, rfl, rfl⟩ rfl rfl rfl rfl rfl (by kernel_rfl) Try.func7 (by kernel_rfl)
    (of_decide_eq_true (by kernel_rfl)) (by unfold Func.isWrapper; first | (rw [if_pos (by decide +kernel)]; kernel_rfl) | (rw [if_neg (by decide +kernel)]; exact ⟨rfl, rfl⟩))
    (fun os started H enc _ => lifted os started H enc)

end Go.Proofs.Ytonlhddcdipgjaa.LSeqOpen

namespace Go.Proofs.Ytonlhddcdipgjaa
theorem seqOpen_holds : Rows.SeqOpenSaid := LSeqOpen.over
#print axioms seqOpen_holds
end Go.Proofs.Ytonlhddcdipgjaa
