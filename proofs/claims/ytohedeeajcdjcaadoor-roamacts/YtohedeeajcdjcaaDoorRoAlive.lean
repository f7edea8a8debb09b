/- The example of layer 9 comes out, and touches nothing that was there. -/
import Derived.Test.YtohedeeajcdjcaaDoorRoL
namespace Go.Proofs.YtohedeeajcdjcaaDoor
open Go.RowKit
open Bt

theorem tabE (r a m : Nat) (l : List Sen) : Tab.mk r a m l = Tab.mk r a m l := rfl

theorem al1 : hearT (tab0 1 5 5) 3 1 40 = 1 ∧ hearX (tab0 1 5 5) 3 1 40 0 = ⟨1, 5, 5, [⟨3, 1, 40, 0⟩]⟩ := ⟨rfl, rfl⟩
theorem al2 : hearT ⟨1, 5, 5, [⟨3, 1, 40, 0⟩]⟩ 3 2 44 = 0 ∧ hearX ⟨1, 5, 5, [⟨3, 1, 40, 0⟩]⟩ 3 2 44 1 = ⟨1, 5, 5, [⟨3, 1, 40, 1⟩]⟩ := ⟨rfl, rfl⟩
theorem al3 : hearT ⟨1, 5, 5, [⟨3, 1, 40, 1⟩]⟩ 3 2 45 = 2 ∧ hearX ⟨1, 5, 5, [⟨3, 1, 40, 1⟩]⟩ 3 2 45 2 = ⟨1, 5, 5, [⟨3, 2, 45, 2⟩]⟩ := ⟨rfl, rfl⟩
theorem al4 : hearT ⟨1, 5, 5, [⟨3, 2, 45, 2⟩]⟩ 4 1 99 = 3 ∧ hearX ⟨1, 5, 5, [⟨3, 2, 45, 2⟩]⟩ 4 1 99 2 = ⟨1, 5, 5, [⟨3, 2, 45, 2⟩]⟩ := ⟨rfl, rfl⟩
theorem al5 : hearT ⟨1, 5, 5, [⟨3, 2, 45, 2⟩]⟩ 3 2 30 = 0 ∧ hearX ⟨1, 5, 5, [⟨3, 2, 45, 2⟩]⟩ 3 2 30 3 = ⟨1, 5, 5, [⟨3, 2, 30, 3⟩]⟩ := ⟨rfl, rfl⟩
theorem al6 : homeA ⟨1, 5, 5, [⟨3, 2, 30, 3⟩]⟩ 3 = 2 ∧ homeB ⟨1, 5, 5, [⟨3, 2, 30, 3⟩]⟩ 3 = true := ⟨rfl, rfl⟩
theorem al7 : goneX ⟨1, 5, 5, [⟨3, 2, 30, 3⟩]⟩ 8 = [] ∧ forgetX ⟨1, 5, 5, [⟨3, 2, 30, 3⟩]⟩ 8 = ⟨1, 5, 5, [⟨3, 2, 30, 3⟩]⟩ := ⟨rfl, rfl⟩
theorem al8 : goneX ⟨1, 5, 5, [⟨3, 2, 30, 3⟩]⟩ 9 = [3] := rfl

set_option maxRecDepth 100000 in
set_option maxHeartbeats 2000000 in
theorem alive9_any (w : World) (hW : Wid w) :
    Calls Tryd.prog 9 #[] w fun e w' => e = .returned (.bool true) ∧ Below w.heap.size w w' := by
  have z0 : 0 < w.heap.size := by obtain ⟨t, fr, q⟩ := hW; exact lt_of_heap q
  have HW := Hid.intro hW
  clear hW
  go_enter Tryd.func9, Tryd.ntmps9
  go_wp2_with fail
  refine (onew_yes 1 5 5 (by decide) w).mono ?_
  rintro e w1 ⟨b, F, rfl, hS, hF, B1⟩
  have L1 := tl_new hS hF B1
  have W1 := Hid.intro (HW.out.below B1)
  have Z1 : Hid ((fun k => k < w.heap.size) 0) := z0
  have BW1 := Hid.intro B1
  have H1 := tlhear 3 1 40 0 (by decide) L1 W1.out
  rw [al1.1, al1.2] at H1
  have H1H := Hid.intro H1
  clear hS hF B1 L1 H1 HW z0
  go_wp2_with fail
  refine H1H.out.mono ?_
  rintro e w2 ⟨rfl, L2⟩
  have H2 := tlhear 3 2 44 1 (by decide) L2 (L2.wid W1.out Z1.out)
  rw [al2.1, al2.2] at H2
  have H2H := Hid.intro H2
  clear H1H L2 H2
  go_wp2_with fail
  refine H2H.out.mono ?_
  rintro e w3 ⟨rfl, L3⟩
  have H3 := tlhear 3 2 45 2 (by decide) L3 (L3.wid W1.out Z1.out)
  rw [al3.1, al3.2] at H3
  have H3H := Hid.intro H3
  clear H2H L3 H3
  go_wp2_with fail
  refine H3H.out.mono ?_
  rintro e w4 ⟨rfl, L4⟩
  have H4 := tlhear 4 1 99 2 (by decide) L4 (L4.wid W1.out Z1.out)
  rw [al4.1, al4.2] at H4
  have H4H := Hid.intro H4
  clear H3H L4 H4
  go_wp2_with fail
  refine H4H.out.mono ?_
  rintro e w5 ⟨rfl, L5⟩
  have H5 := tlhear 3 2 30 3 (by decide) L5 (L5.wid W1.out Z1.out)
  rw [al5.1, al5.2] at H5
  have H5H := Hid.intro H5
  clear H4H L5 H5
  go_wp2_with fail
  refine H5H.out.mono ?_
  rintro e w6 ⟨rfl, L6⟩
  have L6H := Hid.intro L6
  have H6 := tlhome 3 L6
  rw [al6.1, al6.2] at H6
  have H6H := Hid.intro H6
  clear H5H L6 H6
  go_wp2_with fail
  refine H6H.out.mono ?_
  rintro e w7 ⟨rfl, B7⟩
  have L7 := L6H.out.below B7
  have L7H := Hid.intro L7
  have H7H := Hid.intro (tllist L7)
  clear H6H L6H B7 L7
  go_wp2_with fail
  refine H7H.out.mono ?_
  rintro e w8 ⟨lv, rfl, hs8, B8⟩
  have L8 := L7H.out.grow B8
  obtain ⟨ao, lc, hlv, hcell⟩ := hs8
  obtain ⟨pb, off, rfl, hpb, hc8⟩ := hcell (by decide)
  have c30 := (hc8 0 (by decide)).2.2.1
  rw [Nat.zero_mul, Nat.add_zero] at c30
  subst hlv
  have BW8 := Hid.intro (BW1.out.trans ((L7H.out.out (B := w.heap.size) BW1.out.size (fun k hk => hk)).trans (B8.mono (Nat.le_trans BW1.out.size L7H.out.chg.size))))
  have H8 := tlforget 8 (by decide) L8
  rw [al7.1, al7.2] at H8
  have H8H := Hid.intro H8
  have C30 : Hid (w8.cell? ⟨pb, off + 2, none⟩ = some (.int .i64 30)) := c30
  have HPB := Hid.intro hpb
  have B8H := Hid.intro B8
  have L7S := Hid.intro L7H.out.chg.size
  clear H7H L8 H8 hc8 hcell c30 hpb B8
  go_wp2_with fail
  refine H8H.out.mono ?_
  rintro e w9 ⟨v9, G9, rfl, hG9, n9, K9, L9⟩
  obtain ⟨a9, c9, e9⟩ := n9.len
  subst e9
  have H9 := tlforget 9 (by decide) K9
  rw [al8] at H9
  have H9H := Hid.intro H9
  have L9H := Hid.intro L9
  have HG9 := Hid.intro hG9
  clear H8H H9 K9 n9 L9 hG9
  go_wp2_with fail
  refine H9H.out.mono ?_
  rintro e w10 ⟨v10, G10, rfl, hG10, n10, K10, L10⟩
  obtain ⟨a10, c10, e10, hc10⟩ := n10
  obtain ⟨p10, o10, rfl, _, hq10⟩ := hc10 (by decide)
  have d3 := hq10 0 (by decide)
  rw [Nat.add_zero] at d3
  subst e10
  have d30 := L10.cell (L9H.out.cell C30.out (.inr HPB.out)) (HG9.out _ (.inr HPB.out))
  have D3 : w10.cell? ⟨p10, o10, none⟩ = some (.int .i64 3) := d3
  have BW10 := Hid.intro (BW8.out.trans ((L9H.out.out (B := w.heap.size) BW8.out.size (fun k hk => .inl hk)).trans (L10.out (B := w.heap.size) (Nat.le_trans BW8.out.size L9H.out.chg.size) (fun k hk => HG9.out _ (.inl hk)))))
  have MY := Hid.intro (omay_any 1 1 0 w10)
  clear H9H L9H HG9 hG10 K10 L10 hc10 hq10 d3 C30 HPB B8H
  go_wp2_with fail
  refine MY.out.mono ?_
  rintro e w11 ⟨rfl, B11⟩
  rw [show mayR 1 1 0 = true by decide]
  have BW11 := Hid.intro (BW10.out.trans (B11.mono BW10.out.size))
  have NO := Hid.intro (onew_no 0 0 0 (by decide) w11)
  clear MY B11
  go_wp2_with fail
  refine NO.out.mono ?_
  rintro e w12 ⟨rfl, B12⟩
  have BW12 := Hid.intro (BW11.out.trans (B12.mono BW11.out.size))
  clear B12 NO
  go_wp2
  go_ret
  exact ⟨rfl, BW12.out⟩

end Go.Proofs.YtohedeeajcdjcaaDoor
