/- The laws' own 'alive' of layer 12. -/
import Derived.Test.YtgcpkploeobafaaEdL
namespace Go.Proofs.Ytgcpkploeobafaa
open Go.RowKit
open Bt

/-- The jobs of 'alive'. -/
def jbA : Jb := ⟨1, 0, 0, 0, 0, 9, 2⟩
def jbB : Jb := ⟨2, 0, 0, 0, 0, 5, 2⟩
def jbC : Jb := ⟨2, 0, 0, 0, 0, 5, 0⟩
def jbD : Jb := ⟨1, 0, 0, 0, 0, 9, 1⟩
def jbE : Jb := ⟨0, 0, 0, 0, 0, 0, 1⟩
def jbF : Jb := ⟨0, 0, 0, 0, 0, 0, 0⟩

theorem ed1 : pushE' [] jbA = 0 ∧ pushQ [] jbA = [jbA] := by decide
theorem ed2 : pushE' [jbA] jbB = 0 ∧ pushQ [jbA] jbB = [jbB, jbA] := by decide
theorem ed3 : workD [jbB, jbA] (3 : Int).toNat = [jbC] ∧ workR [jbB, jbA] (3 : Int).toNat = [jbD] ∧ workN [jbB, jbA] (3 : Int).toNat = 0 := by decide
theorem ed4 : lateD [jbD] 9 = [jbD] ∧ lateR [jbD] 9 = [] ∧ leftQ [] = 0 ∧ mayJ jbE = true ∧ mayJ jbF = false := by decide

theorem js_one {R : Nat → Prop} {w : World} {v : Value} {j : Jb} (h : JsAt R w v [j]) : ∃ pb off c, v = .slice (some ⟨pb, off, none⟩) 1 c ∧ R pb ∧ JobAt w pb off j := by
  obtain ⟨ao, c, rfl, _, hp⟩ := h
  obtain ⟨pb, off, rfl, hr, hq⟩ := hp (by simp)
  have q := hq 0 (by simp)
  simp only [Nat.zero_mul, Nat.add_zero, List.getElem_cons_zero] at q
  exact ⟨pb, off, c, rfl, hr, q⟩

set_option maxRecDepth 100000 in
set_option maxHeartbeats 2000000 in
theorem alive12_any (w : World) :
    Calls Try.prog 9 #[] w fun e w' => e = .returned (.bool true) ∧ Below w.heap.size w w' := by
  go_enter Try.func9, Try.ntmps9
  go_wp2_with fail
  refine (enew_any w).mono ?_
  rintro e w1 ⟨b, F, rfl, hS, hF, B1⟩
  have L1 := ql_new hS hF B1
  have BH := Hid.intro B1
  have P1 := qlpush jbA L1
  rw [ed1.1, ed1.2] at P1
  have P1H := Hid.intro P1
  clear hS hF B1 L1 P1
  go_wp2_with fail
  refine P1H.out.mono ?_
  rintro e w2 ⟨rfl, L2⟩
  have P2 := qlpush jbB L2
  rw [ed2.1, ed2.2] at P2
  have P2H := Hid.intro P2
  clear P1H P2 L2
  go_wp2_with fail
  refine P2H.out.mono ?_
  rintro e w3 ⟨rfl, L3⟩
  have P3 := qlwork 3 L3
  rw [ed3.1, ed3.2.1, ed3.2.2] at P3
  have P3H := Hid.intro P3
  clear P2H P3 L3
  go_wp2_with fail
  refine P3H.out.mono ?_
  rintro e w4 ⟨v4, G4, rfl, g4, s4, L4, M4⟩
  obtain ⟨pb, off, c4, rfl, r4, j4⟩ := js_one s4
  have P4H := Hid.intro (qllist L4)
  have L4H := Hid.intro L4
  have M4H := Hid.intro M4
  have J4H := Hid.intro j4
  have G4H := Hid.intro g4
  clear P3H s4 L4 M4 j4 g4
  go_wp2_with fail
  refine P4H.out.mono ?_
  rintro e w5 ⟨v5, rfl, s5, B5⟩
  obtain ⟨pc, oc, c5, rfl, r5, j5⟩ := js_one s5
  have L5 := L4H.out.grow B5
  have J5H := Hid.intro j5
  have K5H := Hid.intro (J4H.out.below B5)
  have B5H := Hid.intro B5
  have P5 := qllate 9 L5
  rw [ed4.1, ed4.2.1] at P5
  have P5H := Hid.intro P5
  clear P4H s5 L5 j5 B5 P5 L4H J4H
  go_wp2_with fail
  refine P5H.out.mono ?_
  rintro e w6 ⟨v6, G6, rfl, g6, s6, L6, M6⟩
  obtain ⟨pd, od, c6, rfl, r6, j6⟩ := js_one s6
  obtain ⟨d0, d1, d2, d3, d4, d5, d6⟩ := K5H.out.chg M6.chg (fun q => q (.inl r4))
  obtain ⟨l0, l1, l2, l3, l4, l5, l6⟩ := J5H.out.chg M6.chg (fun q => q (.inr r5))
  have BW := Hid.intro (BH.out.trans ((M4H.out.rebase B5H.out M6 (fun k hk => .inl (G4H.out k hk))).out BH.out.size (fun k hk => hk)))
  have P6 := qlleft L6
  rw [ed4.2.2.1] at P6
  have P6H := Hid.intro P6
  clear P5H s6 j6 L6 M6 P6 K5H J5H M4H B5H BH g6 G4H r4 r5 r6 d1 d2 d3 d4 d5 l0 l1 l2 l3 l4 l5
  go_wp2_with fail
  refine P6H.out.mono ?_
  rintro e w7 ⟨rfl, B7⟩
  have BW7 := Hid.intro (BW.out.trans (B7.mono BW.out.size))
  have P7 := emay_any jbE w7
  rw [ed4.2.2.2.1] at P7
  have P7H := Hid.intro P7
  clear P6H B7 P7 BW d0 d6 l6
  go_wp2_with fail
  refine P7H.out.mono ?_
  rintro e w8 ⟨rfl, B8⟩
  have BW8 := Hid.intro (BW7.out.trans (B8.mono BW7.out.size))
  have P8 := emay_any jbF w8
  rw [ed4.2.2.2.2] at P8
  have P8H := Hid.intro P8
  clear P7H B8 P8 BW7
  go_wp2_with fail
  refine P8H.out.mono ?_
  rintro e w9 ⟨rfl, B9⟩
  have BW9 := Hid.intro (BW8.out.trans (B9.mono BW8.out.size))
  clear P8H B9 BW8
  go_wp2
  go_ret
  exact ⟨rfl, BW9.out⟩

end Go.Proofs.Ytgcpkploeobafaa
