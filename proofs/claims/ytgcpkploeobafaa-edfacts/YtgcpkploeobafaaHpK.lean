/- container/heap over jobs: up, down, by the contracts of Less and Swap. -/
import Derived.Test.YtgcpkploeobafaaEdRep
import Derived.Test.YtgcpkploeobafaaHpM
namespace Go.Proofs.Ytgcpkploeobafaa
open Go.RowKit
open Bt

/-- The heap's own interface value. -/
abbrev hpV (b o : Nat) : Value := .iface 61 (.pointer (some ⟨b, o, none⟩))

/-- What is known of the methods: HM w h n: n jobs lie there, as h tells; what they write lies in S. -/
structure HeapC (b o : Nat) (S : Nat → Prop) (HM : World → (Nat → It) → Nat → Prop) : Prop where
  less : ∀ W h n, HM W h n → ∃ v, (∀ fuel, (method (fuel + 1) 61 (.pointer (some ⟨b, o, none⟩)) "Less").run Try.prog W = .ok (55, v) W) ∧ ∀ i j : Nat, i < n → j < n → Calls Try.prog 55 #[v, .int .i64 (i : Int), .int .i64 (j : Int)] W fun e w' => e = .returned (.bool (ltI (h i) (h j))) ∧ HM w' h n ∧ Chg S W w'
  swap : ∀ W h n, HM W h n → ∃ v, (∀ fuel, (method (fuel + 1) 61 (.pointer (some ⟨b, o, none⟩)) "Swap").run Try.prog W = .ok (56, v) W) ∧ ∀ i j : Nat, i < n → j < n → Calls Try.prog 56 #[v, .int .i64 (i : Int), .int .i64 (j : Int)] W fun e w' => e = .returned (.tuple #[]) ∧ HM w' (swp h i j) n ∧ Chg S W w'
  len : ∀ W h n, HM W h n → ∃ v, (∀ fuel, (method (fuel + 1) 61 (.pointer (some ⟨b, o, none⟩)) "Len").run Try.prog W = .ok (54, v) W) ∧ Calls Try.prog 54 #[v] W fun e w' => e = .returned (.int .i64 (n : Int)) ∧ HM w' h n ∧ Chg S W w'

/-- What a sift leaves. -/
def Sift (S : Nat → Prop) (HM : World → (Nat → It) → Nat → Prop) (w w' : World) (h : Nat → It) (N : Nat) (m n : Nat) : Prop := ∃ h', HM w' h' N ∧ HeapF ltI m h' n ∧ ((List.range n).map h').Perm ((List.range n).map h) ∧ (∀ k, n ≤ k → h' k = h k) ∧ Chg S w w'

set_option maxRecDepth 100000 in
set_option maxHeartbeats 1000000 in
theorem hup_any {b o : Nat} {S : Nat → Prop} {HM : World → (Nat → It) → Nat → Prop} (HC : HeapC b o S HM) (h : Nat → It) (j n : Nat) (hn : n ≤ 1000) (hj : j < n) (hU : UpI ltI h n j) (w : World) (hw : HM w h n) :
    Calls Try.prog 37 #[hpV b o, .int .i64 (j : Int)] w fun e w' => e = .returned (.tuple #[]) ∧ Sift S HM w w' h n 0 n := by
  have HW := Hid.intro hw
  have HUI := Hid.intro hU
  have HCH := Hid.intro HC
  clear hw hU HC
  go_enter Try.func37, Try.ntmps37
  go_wp2_with fail
  go_loopw [1] (fun iv ws => ∃ (k : Nat) (g : Nat → It), k < n ∧ iv = .int .i64 k ∧ HM ws g n ∧ UpI ltI g n k ∧ ((List.range n).map g).Perm ((List.range n).map h) ∧ (∀ k, n ≤ k → g k = h k) ∧ Chg S w ws) (fun iv _ => (intOf iv).toNat)
  case atStart => exact ⟨j, h, hj, rfl, HW.out, HUI.out, List.Perm.refl _, fun _ _ => rfl, Chg.refl _ _⟩
  case round =>
    obtain ⟨k, g, hk, rfl, hM, hI, hP, hR, hC⟩ := hrel
    have MH := Hid.intro hM
    have IH := Hid.intro hI
    have PH := Hid.intro hP
    have RH := Hid.intro hR
    have CH := Hid.intro hC
    clear hM hI hP hR hC
    by_cases h0 : k = 0
    · subst h0
      have FIN : Hid (Sift S HM w wr h n 0 n) := ⟨g, MH.out, up_end IH.out (.inl rfl), PH.out, RH.out, CH.out⟩
      go_wp2
      go_end0
      exact ⟨rfl, FIN.out⟩
    · obtain ⟨p, hp⟩ : ∃ p, p = par k := ⟨_, rfl⟩
      have hpk : p < k := by rw [hp]; exact par_lt (by omega)
      have hpd : p = (k - 1) / 2 := by rw [hp]; rfl
      have h1 : ((k : Int) - 1) / 2 = (p : Int) := by omega
      have h3 : ((k : Int) - 1).tdiv 2 = (p : Int) := by rw [Int.tdiv_eq_ediv_of_nonneg (by omega)]; exact h1
      have h2 : ((p : Int) == (k : Int)) = false := by rw [beq_eq_false_iff_ne]; omega
      obtain ⟨v, hm, hl⟩ := HCH.out.less wr g n MH.out
      have LS := Hid.intro (hl k p hk (by omega))
      have END := Hid.intro (fun (e : ltI (g k) (g p) = false) (W : World) (hW : HM W g n) (hC : Chg S wr W) => (⟨g, hW, up_end IH.out (.inr (by rw [← hp]; exact e)), PH.out, RH.out, CH.out.trans hC (fun _ q _ => q)⟩ : Sift S HM w W h n 0 n))
      have STP := Hid.intro (fun (e : ltI (g k) (g p) = true) => up_step ltI_tr ltI_as (show 0 < k by omega) hk IH.out (by rw [← hp]; exact e))
      rw [← hp] at STP
      clear hl hpd
      generalize ltI (g k) (g p) = lt at *
      cases lt with
      | false =>
        have E0 := Hid.intro (END.out rfl)
        clear hp h0 END STP
        go_wp2_with fail
        refine LS.out.mono ?_
        rintro e w2 ⟨rfl, M2, C2⟩
        have FIN := Hid.intro (E0.out w2 M2 C2)
        clear LS M2 C2 E0
        go_wp2
        go_end0
        exact ⟨rfl, FIN.out⟩
      | true =>
        have NX := Hid.intro (STP.out rfl)
        clear hp h0 END STP
        go_wp2_with fail
        refine LS.out.mono ?_
        rintro e w2 ⟨rfl, M2, C2⟩
        obtain ⟨v2, hm2, hs⟩ := HCH.out.swap w2 g n M2
        have SW := Hid.intro (hs p k (by omega) hk)
        have C2H := Hid.intro (CH.out.trans C2 (fun _ q _ => q))
        have PP := Hid.intro ((swp_perm g (show p < n by omega) hk).trans PH.out)
        have RR : Hid (∀ q, n ≤ q → swp g p k q = h q) := fun q hq => by
          unfold swp
          rw [if_neg (by omega), if_neg (by omega)]
          exact RH.out q hq
        clear LS M2 C2 hs hm v
        go_wp2_with fail
        refine SW.out.mono ?_
        rintro e w3 ⟨rfl, M3, C3⟩
        have M3H := Hid.intro M3
        have C3H := Hid.intro (C2H.out.trans C3 (fun _ q _ => q))
        clear SW M3 C3
        go_wp2
        go_roundw
        case rel => exact ⟨p, _, by omega, rfl, M3H.out, NX.out, PP.out, RR.out, C3H.out⟩
        case measure => simp [intOf]; omega

end Go.Proofs.Ytgcpkploeobafaa
