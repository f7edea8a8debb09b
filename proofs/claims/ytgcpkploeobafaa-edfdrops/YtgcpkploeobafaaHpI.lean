/- container/heap over jobs: Init. -/
import Derived.Test.YtgcpkploeobafaaHpD
namespace Go.Proofs.Ytgcpkploeobafaa
open Go.RowKit
open Bt

set_option maxRecDepth 100000 in
set_option maxHeartbeats 1000000 in
theorem hinit_any {b o : Nat} {S : Nat → Prop} {HM : World → (Nat → It) → Nat → Prop} (HC : HeapC b o S HM) (h : Nat → It) (n : Nat) (hn : n ≤ 900) (w : World) (hw : HM w h n) :
    Calls Try.prog 29 #[hpV b o] w fun e w' => e = .returned (.tuple #[]) ∧ Sift S HM w w' h n 0 n := by
  have HCH := Hid.intro HC
  obtain ⟨v, hml, hl⟩ := HC.len w h n hw
  have LN := Hid.intro hl
  have hd : (n : Int).tdiv 2 = ((n / 2 : Nat) : Int) := by rw [Int.tdiv_eq_ediv_of_nonneg (by omega)]; omega
  have hd2 : (n : Int) / 2 = ((n / 2 : Nat) : Int) := by omega
  have HH := Hid.intro (heap_half (lt := ltI) (h := h) (n := n))
  obtain ⟨q, hq⟩ : ∃ q, q = n / 2 := ⟨_, rfl⟩
  rw [← hq] at hd hd2 HH
  have hqn : q ≤ n := by omega
  clear hl hw HC hq
  go_enter Try.func29, Try.ntmps29
  go_wp2_with fail
  refine LN.out.mono ?_
  rintro e w1 ⟨rfl, M1, C1⟩
  have M1H := Hid.intro M1
  have C1H := Hid.intro C1
  clear LN M1 C1 hml
  go_wp2_with fail
  go_loopw [3] (fun iv ws => ∃ (m : Nat) (X : Int) (g : Nat → It), m ≤ q ∧ X = (m : Int) - 1 ∧ iv = .int .i64 X ∧ HM ws g n ∧ HeapF ltI m g n ∧ ((List.range n).map g).Perm ((List.range n).map h) ∧ (∀ k, n ≤ k → g k = h k) ∧ Chg S w ws) (fun iv _ => (intOf iv + 1).toNat)
  case atStart => exact ⟨q, _, h, by omega, rfl, rfl, M1H.out, HH.out, List.Perm.refl _, fun _ _ => rfl, C1H.out⟩
  case round =>
    obtain ⟨m, X, g, hmq, hX, rfl, hM, hF, hP, hR, hC⟩ := hrel
    have MH := Hid.intro hM
    have FH := Hid.intro hF
    have PH := Hid.intro hP
    have RH := Hid.intro hR
    have CH := Hid.intro hC
    clear hM hF hP hR hC
    by_cases h0 : m = 0
    · have x0 : X = -1 := by omega
      subst x0
      subst h0
      have FIN : Hid (Sift S HM w wr h n 0 n) := ⟨g, MH.out, FH.out, PH.out, RH.out, CH.out⟩
      clear hX
      go_wp2
      go_end0
      exact ⟨rfl, FIN.out⟩
    · obtain ⟨p, rfl⟩ : ∃ p, m = p + 1 := ⟨m - 1, by omega⟩
      have xp : X = (p : Int) := by omega
      subst xp
      have p0 : (0 : Int) ≤ (p : Int) := by omega
      have DN := Hid.intro (hdown_any HCH.out g p p n n (by omega) (by omega) (by omega) (dn_init FH.out) wr MH.out)
      clear hX h0
      go_wp2_with fail
      refine DN.out.mono ?_
      rintro e w2 ⟨bb, rfl, h', M2, F2, P2, R2, C2⟩
      have FX : Hid (HM w2 h' n ∧ HeapF ltI p h' n ∧ ((List.range n).map h').Perm ((List.range n).map h) ∧ (∀ k, n ≤ k → h' k = h k) ∧ Chg S w w2) := ⟨M2, F2, P2.trans PH.out, fun k hk => (R2 k hk).trans (RH.out k hk), CH.out.trans C2 (fun _ q _ => q)⟩
      clear DN M2 F2 P2 R2 C2
      go_wp2
      go_roundw
      case rel => exact ⟨p, _, h', by omega, rfl, rfl, FX.out⟩
      case measure => simp [intOf]

end Go.Proofs.Ytgcpkploeobafaa
