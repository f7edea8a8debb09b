/- container/heap over jobs: down. -/
import Derived.Test.YtgcpkploeobafaaHpK
namespace Go.Proofs.Ytgcpkploeobafaa
open Go.RowKit
open Bt

/-- What down leaves, beside a yes or no. -/
def SiftB (S : Nat → Prop) (HM : World → (Nat → It) → Nat → Prop) (w : World) (h : Nat → It) (N m n : Nat) (e : Ending) (w' : World) : Prop := ∃ bb : Bool, e = .returned (.bool bb) ∧ Sift S HM w w' h N m n

theorem par_kid {c k : Nat} (h0 : 0 < c) (h : par c = k) : c = 2 * k + 1 ∨ c = 2 * k + 2 := by unfold par at h; omega

set_option maxRecDepth 100000 in
set_option maxHeartbeats 2000000 in
theorem hdown_any {b o : Nat} {S : Nat → Prop} {HM : World → (Nat → It) → Nat → Prop} (HC : HeapC b o S HM) (h : Nat → It) (m i0 n N : Nat) (hN : N ≤ 1000) (hnN : n ≤ N) (hi : i0 ≤ n) (hD : DnI ltI m h n i0) (w : World) (hw : HM w h N) :
    Calls Try.prog 36 #[hpV b o, .int .i64 (i0 : Int), .int .i64 (n : Int)] w (SiftB S HM w h N m n) := by
  have HW := Hid.intro hw
  have HDI := Hid.intro hD
  have HCH := Hid.intro HC
  clear hw hD HC
  go_enter Try.func36, Try.ntmps36
  go_wp2_with fail
  go_loopw [7] (fun iv ws => ∃ (k : Nat) (g : Nat → It), k ≤ n ∧ i0 ≤ k ∧ iv = .int .i64 k ∧ HM ws g N ∧ DnI ltI m g n k ∧ ((List.range n).map g).Perm ((List.range n).map h) ∧ (∀ k, n ≤ k → g k = h k) ∧ Chg S w ws) (fun iv _ => n - (intOf iv).toNat)
  case atStart => exact ⟨i0, h, hi, Nat.le_refl _, rfl, HW.out, HDI.out, List.Perm.refl _, fun _ _ => rfl, Chg.refl _ _⟩
  case round =>
    obtain ⟨k, g, hk, hik, rfl, hM, hI, hP, hR, hC⟩ := hrel
    have MH := Hid.intro hM
    have IH := Hid.intro hI
    have PH := Hid.intro hP
    have RH := Hid.intro hR
    have CH := Hid.intro hC
    clear hM hI hP hR hC
    obtain ⟨j1, hj1⟩ : ∃ j1, j1 = 2 * k + 1 := ⟨_, rfl⟩
    have e1 : 2 * (k : Int) + 1 = (j1 : Int) := by omega
    have J1 : 2 * k + 1 ≤ j1 ∧ j1 ≤ 2 * k + 1 := by omega
    have jb : j1 ≤ 2001 := by omega
    clear hj1
    by_cases hlt : j1 < n
    case neg =>
      have FIN : Hid (Sift S HM w wr h N m n) := ⟨g, MH.out, dn_end IH.out (fun c c0 c1 c2 => by rcases par_kid c0 c2 with q | q <;> omega), PH.out, RH.out, CH.out⟩
      have g1 : (n : Int) ≤ (j1 : Int) := by omega
      have J1H := Hid.intro J1
      clear J1
      go_wp2
      go_ret
      exact ⟨_, rfl, FIN.out⟩
    have g1 : ¬ (n : Int) ≤ (j1 : Int) := by omega
    have g0 : ¬ (j1 : Int) < 0 := by omega
    obtain ⟨j2, hj2⟩ : ∃ j2, j2 = j1 + 1 := ⟨_, rfl⟩
    have e2 : (j1 : Int) + 1 = (j2 : Int) := by omega
    have P1 : par j1 = k := by unfold par; omega
    have P2 : par j2 = k := by unfold par; omega
    have J2 : j1 + 1 ≤ j2 ∧ j2 ≤ j1 + 1 := by omega
    clear hj2
    by_cases hl2 : j2 < n
    · have g2 : (j2 : Int) < (n : Int) := by omega
      obtain ⟨v, hm, hl⟩ := HCH.out.less wr g N MH.out
      have LS := Hid.intro (hl j2 j1 (by omega) (by omega))
      have CA := Hid.intro (fun (e : ltI (g j2) (g j1) = false) (c : Nat) (c0 : 0 < c) (_ : c < n) (c2 : par c = k) => (show ltI (g c) (g j1) = false from by
        rcases par_kid c0 c2 with q | q
        · obtain rfl : c = j1 := by omega
          exact ltI_rf _
        · obtain rfl : c = j2 := by omega
          exact e))
      have CB := Hid.intro (fun (e : ltI (g j2) (g j1) = true) (c : Nat) (c0 : 0 < c) (_ : c < n) (c2 : par c = k) => (show ltI (g c) (g j2) = false from by
        rcases par_kid c0 c2 with q | q
        · obtain rfl : c = j1 := by omega
          exact ltI_as _ _ e
        · obtain rfl : c = j2 := by omega
          exact ltI_rf _))
      clear hl
      generalize ltI (g j2) (g j1) = lt0 at *
      cases lt0 with
      | false =>
        have HCD := Hid.intro (CA.out rfl)
        have HPJ := Hid.intro P1
        clear CA CB P1 P2
        have J1H := Hid.intro J1
        have J2H := Hid.intro J2
        clear J1 J2
        go_wp2_with fail
        refine LS.out.mono ?_
        rintro e wq ⟨rfl, M2, C2⟩
        have MQ := Hid.intro M2
        have CQ := Hid.intro (CH.out.trans C2 (fun _ q _ => q))
        clear LS M2 C2 hm
        have J1 := J1H.out
        have J2 := J2H.out
        obtain ⟨v2, hm2, hl2⟩ := HCH.out.less wq g N MQ.out
        have LS2 := Hid.intro (hl2 j1 k (by omega) (by omega))
        have END := Hid.intro (fun (e : ltI (g j1) (g k) = false) (W : World) (hW : HM W g N) (hC : Chg S wq W) => (⟨g, hW, dn_end IH.out (fun c c0 c1 c2 => ltI_tr (g k) (g j1) (g c) e (HCD.out c c0 c1 c2)), PH.out, RH.out, CQ.out.trans hC (fun _ q _ => q)⟩ : Sift S HM w W h N m n))
        have STP := Hid.intro (fun (e : ltI (g j1) (g k) = true) => dn_step ltI_as (show 0 < j1 by omega) (by omega) HPJ.out IH.out e HCD.out)
        have jb1 : k < j1 ∧ j1 < n ∧ i0 ≤ j1 := by omega
        clear hl2 J1 J2
        generalize ltI (g j1) (g k) = lt at *
        cases lt with
        | false =>
          have E0 := Hid.intro (END.out rfl)
          clear END STP
          go_wp2_with fail
          refine LS2.out.mono ?_
          rintro e w3 ⟨rfl, M3, C3⟩
          have FIN := Hid.intro (E0.out w3 M3 C3)
          clear LS2 M3 C3 E0
          go_wp2
          go_ret
          exact ⟨_, rfl, FIN.out⟩
        | true =>
          have NX := Hid.intro (STP.out rfl)
          clear END STP
          go_wp2_with fail
          refine LS2.out.mono ?_
          rintro e w3 ⟨rfl, M3, C3⟩
          obtain ⟨v3, hm3, hs⟩ := HCH.out.swap w3 g N M3
          have SW := Hid.intro (hs k j1 (by omega) (by omega))
          have C3H := Hid.intro (CQ.out.trans C3 (fun _ q _ => q))
          have PP := Hid.intro ((swp_perm g (show k < n by omega) (show j1 < n by omega)).trans PH.out)
          have RR : Hid (∀ q, n ≤ q → swp g k j1 q = h q) := fun q hq => by
            unfold swp
            rw [if_neg (by omega), if_neg (by omega)]
            exact RH.out q hq
          clear LS2 M3 C3 hs
          go_wp2_with fail
          refine SW.out.mono ?_
          rintro e w4 ⟨rfl, M4, C4⟩
          have M4H := Hid.intro M4
          have C4H := Hid.intro (C3H.out.trans C4 (fun _ q _ => q))
          clear SW M4 C4
          go_wp2
          go_roundw
          case rel => exact ⟨j1, _, by omega, by omega, by go_num, M4H.out, NX.out, PP.out, RR.out, C4H.out⟩
          case measure => simp [intOf]; omega
      | true =>
        have HCD := Hid.intro (CB.out rfl)
        have HPJ := Hid.intro P2
        clear CA CB P1 P2
        have J1H := Hid.intro J1
        have J2H := Hid.intro J2
        clear J1 J2
        go_wp2_with fail
        refine LS.out.mono ?_
        rintro e wq ⟨rfl, M2, C2⟩
        have MQ := Hid.intro M2
        have CQ := Hid.intro (CH.out.trans C2 (fun _ q _ => q))
        clear LS M2 C2 hm
        have J1 := J1H.out
        have J2 := J2H.out
        obtain ⟨v2, hm2, hl2⟩ := HCH.out.less wq g N MQ.out
        have LS2 := Hid.intro (hl2 j2 k (by omega) (by omega))
        have END := Hid.intro (fun (e : ltI (g j2) (g k) = false) (W : World) (hW : HM W g N) (hC : Chg S wq W) => (⟨g, hW, dn_end IH.out (fun c c0 c1 c2 => ltI_tr (g k) (g j2) (g c) e (HCD.out c c0 c1 c2)), PH.out, RH.out, CQ.out.trans hC (fun _ q _ => q)⟩ : Sift S HM w W h N m n))
        have STP := Hid.intro (fun (e : ltI (g j2) (g k) = true) => dn_step ltI_as (show 0 < j2 by omega) (by omega) HPJ.out IH.out e HCD.out)
        have jb1 : k < j2 ∧ j2 < n ∧ i0 ≤ j2 := by omega
        clear hl2 J1 J2
        generalize ltI (g j2) (g k) = lt at *
        cases lt with
        | false =>
          have E0 := Hid.intro (END.out rfl)
          clear END STP
          go_wp2_with fail
          refine LS2.out.mono ?_
          rintro e w3 ⟨rfl, M3, C3⟩
          have FIN := Hid.intro (E0.out w3 M3 C3)
          clear LS2 M3 C3 E0
          go_wp2
          go_ret
          exact ⟨_, rfl, FIN.out⟩
        | true =>
          have NX := Hid.intro (STP.out rfl)
          clear END STP
          go_wp2_with fail
          refine LS2.out.mono ?_
          rintro e w3 ⟨rfl, M3, C3⟩
          obtain ⟨v3, hm3, hs⟩ := HCH.out.swap w3 g N M3
          have SW := Hid.intro (hs k j2 (by omega) (by omega))
          have C3H := Hid.intro (CQ.out.trans C3 (fun _ q _ => q))
          have PP := Hid.intro ((swp_perm g (show k < n by omega) (show j2 < n by omega)).trans PH.out)
          have RR : Hid (∀ q, n ≤ q → swp g k j2 q = h q) := fun q hq => by
            unfold swp
            rw [if_neg (by omega), if_neg (by omega)]
            exact RH.out q hq
          clear LS2 M3 C3 hs
          go_wp2_with fail
          refine SW.out.mono ?_
          rintro e w4 ⟨rfl, M4, C4⟩
          have M4H := Hid.intro M4
          have C4H := Hid.intro (C3H.out.trans C4 (fun _ q _ => q))
          clear SW M4 C4
          go_wp2
          go_roundw
          case rel => exact ⟨j2, _, by omega, by omega, by go_num, M4H.out, NX.out, PP.out, RR.out, C4H.out⟩
          case measure => simp [intOf]; omega
    · have g2 : ¬ (j2 : Int) < (n : Int) := by omega
      have HCD : Hid (∀ c, 0 < c → c < n → par c = k → ltI (g c) (g j1) = false) := fun c c0 c1 c2 => by
        rcases par_kid c0 c2 with q | q
        · obtain rfl : c = j1 := by omega
          exact ltI_rf _
        · omega
      have HPJ := Hid.intro P1
      obtain ⟨wq, hwq⟩ : ∃ wq, wq = wr := ⟨_, rfl⟩
      have MQ := Hid.intro MH.out
      have CQ := Hid.intro CH.out
      rw [← hwq] at MQ CQ
      subst hwq
      clear P1 P2
      obtain ⟨v2, hm2, hl2⟩ := HCH.out.less wq g N MQ.out
      have LS2 := Hid.intro (hl2 j1 k (by omega) (by omega))
      have END := Hid.intro (fun (e : ltI (g j1) (g k) = false) (W : World) (hW : HM W g N) (hC : Chg S wq W) => (⟨g, hW, dn_end IH.out (fun c c0 c1 c2 => ltI_tr (g k) (g j1) (g c) e (HCD.out c c0 c1 c2)), PH.out, RH.out, CQ.out.trans hC (fun _ q _ => q)⟩ : Sift S HM w W h N m n))
      have STP := Hid.intro (fun (e : ltI (g j1) (g k) = true) => dn_step ltI_as (show 0 < j1 by omega) (by omega) HPJ.out IH.out e HCD.out)
      have jb1 : k < j1 ∧ j1 < n ∧ i0 ≤ j1 := by omega
      clear hl2 J1 J2
      generalize ltI (g j1) (g k) = lt at *
      cases lt with
      | false =>
        have E0 := Hid.intro (END.out rfl)
        clear END STP
        go_wp2_with fail
        refine LS2.out.mono ?_
        rintro e w3 ⟨rfl, M3, C3⟩
        have FIN := Hid.intro (E0.out w3 M3 C3)
        clear LS2 M3 C3 E0
        go_wp2
        go_ret
        exact ⟨_, rfl, FIN.out⟩
      | true =>
        have NX := Hid.intro (STP.out rfl)
        clear END STP
        go_wp2_with fail
        refine LS2.out.mono ?_
        rintro e w3 ⟨rfl, M3, C3⟩
        obtain ⟨v3, hm3, hs⟩ := HCH.out.swap w3 g N M3
        have SW := Hid.intro (hs k j1 (by omega) (by omega))
        have C3H := Hid.intro (CQ.out.trans C3 (fun _ q _ => q))
        have PP := Hid.intro ((swp_perm g (show k < n by omega) (show j1 < n by omega)).trans PH.out)
        have RR : Hid (∀ q, n ≤ q → swp g k j1 q = h q) := fun q hq => by
          unfold swp
          rw [if_neg (by omega), if_neg (by omega)]
          exact RH.out q hq
        clear LS2 M3 C3 hs
        go_wp2_with fail
        refine SW.out.mono ?_
        rintro e w4 ⟨rfl, M4, C4⟩
        have M4H := Hid.intro M4
        have C4H := Hid.intro (C3H.out.trans C4 (fun _ q _ => q))
        clear SW M4 C4
        go_wp2
        go_roundw
        case rel => exact ⟨j1, _, by omega, by omega, by go_num, M4H.out, NX.out, PP.out, RR.out, C4H.out⟩
        case measure => simp [intOf]; omega

end Go.Proofs.Ytgcpkploeobafaa
