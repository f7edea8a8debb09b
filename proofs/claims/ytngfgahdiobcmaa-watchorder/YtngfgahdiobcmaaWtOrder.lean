/- The statement WatchOrder: beds that fall silent together are told in the order in which they came. -/
import Derived.Test.YtngfgahdiobcmaaWtAlive
import Derived.Test.YtngfgahdiobcmaaWtOne
import Derived.Test.YtngfgahdiobcmaaWtRng
import Derived.Test.YtngfgahdiobcmaaArgs
import Derived.Test.YtngfgahdiobcmaaIntsA
namespace Go.Proofs.Ytngfgahdiobcmaa
open Go.ChangeShapes Go.WideShapes Go.ChangeAt Go.RowKit
open Bt

namespace LWatchOrder

/-- All came at 0, and none is lost. -/
def All0 (L : List Wb) : Prop := ∀ x ∈ L, x.most = 5 ∧ x.last = 0 ∧ x.lost = false

theorem all0_add {L : List Wb} (h : All0 L) (bed : Int) : All0 (addWt L bed 5 0) := by
  unfold addWt
  split
  · intro x hx
    rcases List.mem_append.1 hx with q | q
    · exact h x q
    · obtain rfl := List.mem_singleton.1 q
      exact ⟨rfl, rfl, rfl⟩
  · exact h

theorem all0_late {L : List Wb} (h : All0 L) {now : Int} (hn : 5 < now) : lookWl L now = bedsWb L := by
  unfold lookWl bedsWb
  congr 1
  rw [List.filter_eq_self]
  intro x hx
  obtain ⟨a, b, c⟩ := h x hx
  simp [dueWb, a, b, c, hn]

theorem all0_soon {L : List Wb} (h : All0 L) {now : Int} (hn : now ≤ 5) : lookWl L now = [] := by
  unfold lookWl
  have e : L.filter (dueWb now) = [] := by
    rw [List.filter_eq_nil_iff]
    intro x hx
    obtain ⟨a, b, c⟩ := h x hx
    simp [dueWb, a, b, c]
    omega
  rw [e]
  rfl

set_option maxRecDepth 100000 in
set_option maxHeartbeats 4000000 in
theorem walk_nat (a : Option Addr) (cap : Nat) (bs : List Nat) (hmx : bs.length ≤ maxLen) (hY : ∀ y ∈ bs, y < 256) (N : Nat) (hN : N < 65536) (w : World) (hr : Reads w a bs) :
    Calls Try.prog 8 #[.slice a bs.length cap, .int .u16 (N : Int)] w fun e w' => e = .returned (.bool true) ∧ Below w.heap.size w w' := by
  have AL := Hid.intro (alive15_any w)
  have RD := Hid.intro hr
  have HY := Hid.intro hY
  obtain ⟨len, hlen⟩ : ∃ len, len = bs.length := ⟨_, rfl⟩
  have HL := Hid.intro hlen
  rw [← hlen] at hmx ⊢
  unfold maxLen at hmx
  clear hr hlen hY
  go_enter Try.func8, Try.ntmps8
  go_wp2_with fail
  refine AL.out.mono ?_
  rintro e w1 ⟨rfl, B1⟩
  have BH := Hid.intro B1
  clear AL B1
  by_cases h300 : 60 < len
  · have h300' : (60 : Int) < (len : Int) := by omega
    go_wp2
    go_ret
    exact ⟨rfl, BH.out⟩
  have h300' : ¬ (60 : Int) < (len : Int) := by omega
  go_wp2_with fail
  refine (wnew_any w1).mono ?_
  rintro e w2 ⟨b, T, rfl, hS, hF, B2⟩
  have L3H := Hid.intro (one_new (P := WS b []) hS hF B2)
  clear hS hF B2
  go_wp2_with fail
  go_loopw [6] (fun iv ws => ∃ (t : Nat) (L : List Wb), t ≤ len ∧ iv = .int .i64 t ∧ All0 L ∧ One (WS b L) (fun k => k < w1.heap.size) w1 ws) (fun iv _ => len - (intOf iv).toNat)
  case atStart => exact ⟨0, [], by omega, rfl, (fun x hx => by cases hx), L3H.out⟩
  case round =>
    clear L3H
    obtain ⟨t, L, ht, rfl, hA, hL⟩ := hrel
    have LH := Hid.intro hL
    have AH := Hid.intro hA
    clear hL hA
    by_cases hlt : t < len
    · have hlt' : t < bs.length := by rw [← HL.out]; exact hlt
      obtain ⟨pb, off, ea, hcell⟩ := reads_at RD.out (by omega)
      subst ea
      have v0 := hcell t hlt'
      have hg := HY.out bs[t] (List.getElem_mem hlt')
      have v1 : wr.cell? ⟨pb, off + t, none⟩ = some (U bs[t]) := LH.out.cell ((BH.out.cell (cell_lt v0)).trans v0) (by have q : pb < w.heap.size := cell_lt v0; have := BH.out.size; show pb < w1.heap.size; omega)
      have t0 : (0 : Int) ≤ (t : Int) := by omega
      have t1 : (t : Int) < (len : Int) := by omega
      generalize bs[t] = g at *
      have P1 := Hid.intro (tadd (g : Int) 5 0 (tw_small (by omega) (by omega)) LH.out)
      have A1 := Hid.intro (all0_add AH.out (g : Int))
      generalize addWt L (g : Int) 5 0 = L2 at *
      generalize addWe L (g : Int) 5 = ee at *
      clear hcell v0 LH AH
      go_wp2_with fail
      refine P1.out.mono ?_
      rintro e w4 ⟨rfl, L4⟩
      have L4H := Hid.intro L4
      clear P1 L4 v1
      go_wp2
      go_roundw
      case rel => exact ⟨t + 1, L2, by omega, by go_num, A1.out, L4H.out⟩
      case measure => simp [intOf]; omega
    · obtain rfl : t = len := by omega
      have t1 : ¬ (t : Int) < (t : Int) := by omega
      have ok := (wone_ok LH.out).few
      have P1H := Hid.intro (tbeds LH.out)
      have bl : (bedsWb L).length ≤ 8 := by unfold bedsWb; rw [List.length_map]; exact ok
      have GRO := Hid.intro (fun (W : World) (hW : Below wr.heap.size wr W) => LH.out.grow (ws_owned b L) hW)
      have B0 := Hid.intro (BH.out.trans ((LH.out.out (Nat.le_refl _)).mono BH.out.size))
      go_wp2_with fail
      refine P1H.out.mono ?_
      rintro e w4 ⟨v4, rfl, n4, _, B4⟩
      obtain ⟨a4, c4, hv4⟩ := n4.len
      subst hv4
      have P2 := tlook (N : Int) (tw_small (by omega) (by omega)) (GRO.out w4 B4)
      have B4H := Hid.intro (B0.out.trans (B4.mono B0.out.size))
      have N4 := Hid.intro n4
      have ws4 : w.heap.size ≤ wr.heap.size := B0.out.size
      clear P1H GRO n4 B4 LH B0
      by_cases h5 : N ≤ 5
      · rw [all0_soon AH.out (show (N : Int) ≤ 5 by omega)] at P2
        have P2H := Hid.intro P2
        have h5' : (N : Int) ≤ 5 := by omega
        clear P2
        generalize (bedsWb L).length = bn at *
        go_wp2_with fail
        refine P2H.out.mono ?_
        rintro e w5 ⟨v5, rfl, n5, L5, _⟩
        obtain ⟨a5, c5, rfl⟩ := n5.len
        have FI : Hid (Below w.heap.size w w5) := B4H.out.trans (L5.chg.below (B := w.heap.size) B4H.out.size (fun k hk => by have := BH.out.size; omega))
        clear P2H n5 L5 N4 B4H
        go_wp2
        go_ret
        exact ⟨rfl, FI.out⟩
      · rw [all0_late AH.out (show 5 < (N : Int) by omega)] at P2
        have P2H := Hid.intro P2
        have h5' : ¬ (N : Int) ≤ 5 := by omega
        have BEQ := Hid.intro (fun (R R' : Nat → Prop) (u v : Value) (W : World) h1 h2 => ints_any R R' u v (bedsWb L) (bedsWb L) (by omega) (by omega) W h1 h2)
        rw [decide_eq_true (rfl : bedsWb L = bedsWb L)] at BEQ
        clear P2
        go_wp2_with fail
        refine P2H.out.mono ?_
        rintro e w5 ⟨v5, rfl, n5, L5, _⟩
        obtain ⟨a5, c5, hv5⟩ := n5.len
        subst hv5
        have N5 := N4.out.kept L5.chg (fun k hk q => q (.inr hk))
        have IE := Hid.intro (BEQ.out _ _ _ _ w5 n5 N5)
        have FI : Hid (Below w.heap.size w w5) := B4H.out.trans (L5.chg.below (B := w.heap.size) B4H.out.size (fun k hk => by have := BH.out.size; omega))
        clear P2H n5 L5 N4 B4H BEQ N5
        generalize (bedsWb L).length = bn at *
        have bl' : (bn : Int) ≤ 8 := by omega
        go_wp2_with fail
        refine IE.out.mono ?_
        rintro e w6 ⟨rfl, B6⟩
        have F6 := Hid.intro (FI.out.trans (B6.mono FI.out.size))
        clear IE B6 FI
        go_wp2
        go_ret
        exact ⟨rfl, F6.out⟩

theorem walk (a : Option Addr) (len cap : Nat) (zs : List Int) (n : Int) (w : World) (hz : IsRow .u8 w a len cap zs) (h1 : (Lit.int .u16 n).wf = true) :
    Calls Try.prog 8 #[.slice a len cap, .int .u16 n] w fun e w' => e = .returned (.bool true) ∧ Below w.heap.size w w' := by
  have hmx := hz.len
  obtain ⟨bs, rfl, h1', h2⟩ := hz.bytes
  obtain ⟨N, rfl, hN⟩ := u16_nat h1
  exact walk_nat a cap bs hmx h1' N hN w h2

set_option maxRecDepth 100000 in
theorem lifted (os : Os) (started : os.Started) (H : Type) (enc : TypeId × Value → H) :
    ReturnsInHanded {} Try.checked os 8 .any (Rows.watchOrderSpec.pre6 enc Try.prog Try.f8 Rows.watchOrderRow.domain false) (Rows.watchOrderSpec.post enc Try.prog Try.f8 false true false false) := by
  refine returnsInHanded_of_change (C := Try.checked) own started (by kernel_rfl) Try.func8
    (ChangeSpec.witness6 (enc := enc) (C := Try.checked) false ⟨#[], #[.slice none 0 0, .int .u16 0], []⟩ 8 (by kernel_rfl) (by kernel_rfl) (by kernel_rfl) (by kernel_rfl)) ?_
  intro W base args ds gs before hval0 hW hcnd _
  have hval : ∀ (j : Nat) t v, Try.f8.params[j]? = some t → args[j]? = some v → Value.okWide Try.prog W .any base t v := hval0
  have hW' := hW
  obtain ⟨p, q, hA0, hV, rfl, hfz, hnd⟩ := hW
  have hA : DataW.TrodAll enc Try.prog W 0 (fun _ => true) true Try.f8.params.toList args.toList ds p := hA0
  rw [Try.params8] at hA hval
  obtain ⟨v0, vs0, d0, ds0, p0, q0, hargs, rfl, rfl, h0, r0⟩ := trodAll_cons hA
  obtain ⟨v1, vs1, d1, ds1, p1, q1, rfl, rfl, rfl, h1, r1⟩ := trodAll_cons r0
  obtain ⟨rfl, rfl, rfl⟩ := trodAll_nil r1
  obtain rfl : args = #[v0, v1] := by cases args; simp_all
  obtain ⟨rfl, rfl⟩ := trodVars_none hV
  obtain ⟨a0, len0, cap0, rfl⟩ := okWide_slice Try.underlying48 (hval 0 48 v0 rfl rfl)
  have k0 := h0
  have lt0 : ∀ x ∈ p0, x.block < W.heap.size := by obtain ⟨m, hm⟩ := k0; exact DataW.trod_lt m _ _ _ hm
  obtain ⟨z0, w0⟩ : ∃ zs, IsRow .u8 W a0 len0 cap0 zs := by
    obtain ⟨fuel, hf⟩ := h0
    rcases open_ints Try.underlying48 Try.underlying5 (by kernel_rfl) hf with ⟨hcs, _⟩ | ⟨x, l, c, zs, hcs, _, hl, hm, hz, _, hcell, hwz⟩
    · simp [Value.cells] at hcs
      obtain ⟨rfl, rfl, rfl⟩ := hcs
      exact ⟨[], .inl ⟨rfl, rfl, rfl, rfl⟩⟩
    · simp [Value.cells] at hcs
      obtain ⟨rfl, rfl, rfl⟩ := hcs
      exact ⟨zs, .inr ⟨_, rfl, hl, hm, by simpa using hz, hcell, hwz⟩⟩
  obtain ⟨a1, rfl, rfl, rfl, w1⟩ := open_int Try.underlying43 (hval 1 43 v1 rfl rfl) h1
  clear hA0 hval0
  refine (walk a0 len0 cap0 z0 a1 W w0 w1).mono fun e W' ⟨he, bel⟩ => ?_
  subst he
  exact ⟨_, rfl, _, _, _, [], _, [], hW', trodAll_mk1 (shut_bool Try.underlying4 _), (trodAll_cons_mk (Below.trod laidOut (by kernel_rfl) (of_decide_eq_true (by kernel_rfl)) k0 bel lt0) (trodAll_cons_mk (shut_int Try.underlying43 w1) trodAll_mk0)), rfl, bel.frame _, fun h => by cases h⟩

theorem over : Rows.watchOrderRow.holds Try.pinned (OpenSpec.ofChange Rows.watchOrderSpec) :=
  OpenClaim.holds_of_wide 8 Try.f8 rfl rfl rfl rfl rfl rfl rfl ⟨rfl, rfl, rfl, rfl, rfl⟩ rfl rfl rfl rfl rfl (by kernel_rfl) Try.func8 (by kernel_rfl)
    (of_decide_eq_true (by kernel_rfl)) (by unfold Func.isWrapper; first | (rw [if_pos (by decide +kernel)]; kernel_rfl) | (rw [if_neg (by decide +kernel)]; exact ⟨rfl, rfl⟩))
    (fun os started H enc _ => lifted os started H enc)

end Go.Proofs.Ytngfgahdiobcmaa.LWatchOrder

namespace Go.Proofs.Ytngfgahdiobcmaa
theorem watchOrder_holds : Rows.WatchOrderSaid := LWatchOrder.over
#print axioms watchOrder_holds
end Go.Proofs.Ytngfgahdiobcmaa
