/- Package rs: cut, areSized, firstThere. -/
import Derived.Test.YtebjkbhidpdpfaaRsK3
namespace Go.Proofs.Ytebjkbhidpdpfaa
open Go.RowKit
open Bt

theorem info_rowK : (Try.prog.info? 24).map (fun i => (i.zero, i.size, i.bytes)) = some (some (.slice none 0 0), 1, 24) := by kernel_rfl

/-- A slice's length. -/
def lenK : Value → Nat
  | .slice _ n _ => n
  | _ => 0

/-- A text's pieces, as values. -/
def cutV (bb off S cap : Nat) (r : Nat) : Value := .slice (some ⟨bb, off + r * S, none⟩) S (cap - r * S)

set_option maxRecDepth 100000 in
set_option maxHeartbeats 1000000 in
theorem cut_any (K S : Nat) (hS : 1 ≤ S) (bb off cap L : Nat) (hL : L = K * S) (hlb : L ≤ 1000) (hcap : L ≤ cap) (w : World) :
    Calls Try.prog 27 #[.slice (some ⟨bb, off, none⟩) L cap, .int .i64 (S : Int)] w fun e w' => ∃ v, e = .returned v ∧ w'.ownsRow 0 24 1 v K ((List.range K).map (cutV bb off S cap)) ∧ (∀ j, v.ownBlock = some j → w.heap.size ≤ j) ∧ Below w.heap.size w w' := by
  obtain ⟨iR, hiR, hzR0, hzR1, hzR2⟩ := info_parts info_rowK
  have HL := Hid.intro hL
  clear hL
  go_enter Try.func27, Try.ntmps27
  go_wp2_with fail
  go_loopw [0, 5] (fun b v wr => ∃ (t : Nat) (A : Option Addr) (C : Nat), t ≤ K ∧ b = .slice A (L - t * S) C ∧ (t < K → A = some ⟨bb, off + t * S, none⟩ ∧ C = cap - t * S) ∧ wr.ownsRow 0 24 1 v t ((List.range t).map (cutV bb off S cap)) ∧ (∀ j, v.ownBlock = some j → w.heap.size ≤ j) ∧ Below w.heap.size w wr) (fun b _ _ => lenK b)
  case atStart => exact ⟨0, some ⟨bb, off, none⟩, cap, by omega, by simp, fun _ => ⟨by simp, by simp⟩, World.ownsRow_nil _ _ _ _, nil_own _, Below.refl _ _⟩
  case round =>
    obtain ⟨t, A, C, ht, rfl, hA, hO, hN, hB⟩ := hrel
    by_cases hlt : t < K
    · obtain ⟨rfl, rfl⟩ := hA hlt
      have h1 : t * S + S ≤ L := by rw [HL.out, ← Nat.succ_mul]; exact Nat.mul_le_mul_right _ hlt
      have h2 : (t + 1) * S = t * S + S := Nat.succ_mul t S
      have tb : t ≤ 1000 := by
        have := Nat.mul_le_mul_left t hS
        omega
      obtain ⟨X, hX⟩ : ∃ X, X = t * S := ⟨_, rfl⟩
      rw [← hX] at h1 h2 ⊢
      have HX := Hid.intro hX
      clear hX
      obtain ⟨M, hM⟩ : ∃ M, M = L - X := ⟨_, rfl⟩
      obtain ⟨C, hC⟩ : ∃ C, C = cap - X := ⟨_, rfl⟩
      rw [← hM, ← hC]
      have l0 : 0 < M := by omega
      have l1 : (0 : Int) < (M : Int) := by omega
      have s0 : (0 : Int) ≤ (S : Int) := by omega
      have s1 : (S : Int) ≤ (C : Int) := by omega
      have s2 : (S : Int) ≤ (M : Int) := by omega
      have s3 : S ≤ C := by omega
      have s4 : S ≤ M := by omega
      have HM := Hid.intro hM
      have HC := Hid.intro hC
      have H2 := Hid.intro h2
      have OH := Hid.intro (hO.alloc (.cells #[.slice (some ⟨bb, off + X, none⟩) S C] 24))
      have NH := Hid.intro hN
      have BH := Hid.intro hB
      clear hM hC hO hN hB h1 h2 hA
      go_wp2_with (at_builtin; refine wpList_append_lies _ rfl _ _ 26 rfl 0 24 iR (.slice none 0 0) 1 24 Try.underlying26 hiR hzR0 hzR1 hzR2 rfl (by decide) u5 t _ rfl OH.out ⟨wr.heap.size, 0, none⟩ 1 1 [.slice (some ⟨bb, off + X, none⟩) S C] rfl rfl (World.news_of_block (cs := #[.slice (some ⟨bb, off + X, none⟩) S C]) (t := 24) (fr := (0, 0)) (heap_alloc_new wr _)) (by simp [Value.oneCell']) (by decide) (by unfold maxLen; omega) (by omega) (Nat.zero_le _) (wr.heap.size + 1) (by simp) ?_)
      intro g7 cp7 w7 hown hgrow hat hgl
      have C7 : Chg (fun q => u5.ownBlock = some q) wr w7 := ((Chg.refl _ wr).alloc _).grown hgrow (fun q hq _ => hq)
      have B7 := BH.out.trans (C7.below BH.out.size (fun q hq => NH.out q hq))
      have N7 : ∀ q, (Value.slice (some ⟨g7, 0, none⟩) (t + 1) cp7).ownBlock = some q → w.heap.size ≤ q := by
        intro q hq
        have e : g7 = q := by simpa [Value.ownBlock] using hq
        subst e
        rcases hat with hat | hat
        · exact NH.out g7 hat
        · have := BH.out.size; omega
      have R7 : w7.ownsRow 0 24 1 (.slice (some ⟨g7, 0, none⟩) (t + 1) cp7) (t + 1) ((List.range (t + 1)).map (cutV bb off S cap)) := by
        rw [List.range_succ, List.map_append]
        have e : cutV bb off S cap t = .slice (some ⟨bb, off + X, none⟩) S C := by unfold cutV; rw [← HX.out, ← HC.out]
        rw [List.map_singleton, e]
        exact hown
      have R7H := Hid.intro R7
      have N7H := Hid.intro N7
      have B7H := Hid.intro B7
      clear hown hgrow hat R7 N7 C7 B7 OH NH BH
      have s5 : (S : Int) ≤ (M : Int) := s2
      go_wp2
      go_roundw
      case rel =>
        have e1 : M - S = L - (t + 1) * S := by rw [H2.out, HM.out]; omega
        refine ⟨t + 1, _, _, by omega, by rw [e1], fun hq => ?_, R7H.out, N7H.out, B7H.out⟩
        have h3 : X + S + S ≤ L := by
          have := Nat.mul_le_mul_right S (show t + 1 + 1 ≤ K from hq)
          rw [Nat.succ_mul, H2.out, ← HL.out] at this
          exact this
        have hC := HC.out
        rw [if_neg (by omega), H2.out, Nat.add_assoc]
        exact ⟨rfl, by omega⟩
      case measure => simp [lenK]; omega
    · have hte : K = t := by omega
      have e : L - t * S = 0 := by rw [← hte, HL.out]; omega
      rw [e]
      subst hte
      clear e hA ht hlt
      go_wp2
      go_ret
      exact ⟨_, rfl, hO, hN, hB⟩

/-- Are there so many, of a size that may be? -/
def sizedB (N S : Nat) (L : List (List Nat)) : Bool := decide (L.length = N) && L.all (fun r => decide (r.length = 0) || decide (r.length = S))

theorem sizedB_iff {N S : Nat} {L : List (List Nat)} : sizedB N S L = true ↔ L.length = N ∧ ∀ r, r < L.length → (L.getD r []).length = 0 ∨ (L.getD r []).length = S := by
  unfold sizedB
  rw [Bool.and_eq_true, decide_eq_true_iff, List.all_eq_true]
  refine and_congr_right fun _ => ⟨fun h r hr => ?_, fun h x hx => ?_⟩
  · rw [← List.getElem_eq_getD (h := hr) []]
    have := h _ (List.getElem_mem hr)
    simpa only [Bool.or_eq_true, decide_eq_true_eq] using this
  · obtain ⟨j, hj, rfl⟩ := List.mem_iff_getElem.1 hx
    have := h j hj
    rw [← List.getElem_eq_getD (h := hj) []] at this
    simpa only [Bool.or_eq_true, decide_eq_true_eq] using this

set_option maxRecDepth 100000 in
set_option maxHeartbeats 1000000 in
theorem areSized_any (K N S : Nat) (hS : 1 ≤ S) (hN : N ≤ 1000) (hS2 : S ≤ 1000) (ao : Option Addr) (cap : Nat) (L : List (List Nat)) (hl : L.length ≤ 1000) (hm : ∀ r, (L.getD r []).length ≤ 1000) (w : World) (hr : ReadsL w ao L) :
    Calls Try.prog 31 #[Cd K N S, .slice ao L.length cap] w fun e w' => e = .returned (.bool (sizedB N S L)) ∧ Below w.heap.size w w' := by
  obtain ⟨R, hR⟩ : ∃ R, R = sizedB N S L := ⟨_, rfl⟩
  rw [← hR]
  have SZ : Hid (R = true ↔ L.length = N ∧ ∀ r, r < L.length → (L.getD r []).length = 0 ∨ (L.getD r []).length = S) := by
    show _ ↔ _
    rw [hR]; exact sizedB_iff
  clear hR
  have b0 := heap_alloc_new w (.cells #[.int .i64 (K : Int), .int .i64 (N : Int), .int .i64 (S : Int)] 23)
  have HB0 := Hid.intro b0
  have HM := Hid.intro hm
  have HR := Hid.intro hr
  have BA := Hid.intro ((Below.refl _ w).alloc (Nat.le_refl _) (.cells #[.int .i64 (K : Int), .int .i64 (N : Int), .int .i64 (S : Int)] 23))
  clear b0 hr hm
  obtain ⟨n, hn⟩ : ∃ n, n = L.length := ⟨_, rfl⟩
  rw [← hn] at hl ⊢
  have HLN := Hid.intro hn
  clear hn
  by_cases hN2 : n = N
  · subst hN2
    have q0 : ((n : Int) != (n : Int)) = false := by simp
    go_enter Try.func31, Try.ntmps31
    go_wp2_with fail
    go_loopw [14] (fun i wr => ∃ t : Nat, t ≤ n ∧ i = .int .i64 t ∧ (∀ r, r < t → (L.getD r []).length = 0 ∨ (L.getD r []).length = S) ∧ wr.heap[w.heap.size]? = some (.cells #[.int .i64 (K : Int), .int .i64 (n : Int), .int .i64 (S : Int)] 23 (0, 0)) ∧ Below w.heap.size w wr) (fun i _ => n - (intOf i).toNat)
    case atStart => exact ⟨0, by omega, rfl, fun r h => absurd h (by omega), HB0.out, BA.out⟩
    case round =>
      obtain ⟨t, ht, rfl, hA, hb, hB⟩ := hrel
      have HA := Hid.intro hA
      have HBW := Hid.intro hB
      have HBB := Hid.intro hb
      have c2 : wr.cell? ⟨w.heap.size, 2, none⟩ = some (.int .i64 (S : Int)) := by rw [cell_of_row wr _ 2 _ _ _ hb]; rfl
      clear hA hb hB
      by_cases hlt : t < n
      · have hlt' : t < L.length := by rw [← HLN.out]; exact hlt
        obtain ⟨lb, lo, rfl, hrow⟩ := HR.out (by omega)
        obtain ⟨ra, rc, hcell, _, _⟩ := hrow t hlt'
        have ct : wr.cell? ⟨lb, lo + t, none⟩ = some (.slice ra (L.getD t []).length rc) := cellK HBW.out hcell
        have hml := HM.out t
        have t0 : (0 : Int) ≤ (t : Int) := by omega
        have t1 : (t : Int) < (n : Int) := by omega
        have HX : Hid (∀ r, (L.getD t []).length = r → (r = 0 ∨ r = S) → ∀ q, q < t + 1 → (L.getD q []).length = 0 ∨ (L.getD q []).length = S) := fun r h1 h2 q hq => by
          by_cases e : q = t
          · subst e; rw [h1]; exact h2
          · exact HA.out q (by omega)
        have HY : Hid (∀ r, (L.getD t []).length = r → ¬ (r = 0 ∨ r = S) → ¬ ∀ q, q < L.length → (L.getD q []).length = 0 ∨ (L.getD q []).length = S) := fun r h1 h2 h3 => h2 (h1 ▸ h3 t hlt')
        have HZ := Hid.intro (show (L.getD t []).length = (L.getD t []).length from rfl)
        clear hcell hrow hlt'
        obtain ⟨r, hrr⟩ : ∃ r, r = (L.getD t []).length := ⟨_, rfl⟩
        rw [← hrr] at ct hml
        have HRR := Hid.intro hrr.symm
        clear hrr HZ
        by_cases r0 : r = 0
        · subst r0
          have d0 : (((0 : Nat) : Int) != 0) = false := by simp
          go_wp2
          go_roundw
          case rel => exact ⟨t + 1, by omega, by go_num, HX.out 0 HRR.out (.inl rfl), HBB.out, HBW.out⟩
          case measure => simp [intOf]; omega
        · have d0 : ((r : Int) != 0) = true := by rw [bne_iff_ne]; omega
          by_cases r1 : r = S
          · subst r1
            have d1 : ((r : Int) != (r : Int)) = false := by simp
            go_wp2
            go_roundw
            case rel => exact ⟨t + 1, by omega, by go_num, HX.out r HRR.out (.inr rfl), HBB.out, HBW.out⟩
            case measure => simp [intOf]; omega
          · have d1 : ((r : Int) != (S : Int)) = true := by rw [bne_iff_ne]; omega
            go_wp2
            go_ret
            have e : R = false := by
              rcases hq : R with _ | _
              · rfl
              · exact absurd (SZ.out.1 hq).2 (HY.out r HRR.out (by omega))
            rw [e]
            exact ⟨rfl, HBW.out⟩
      · have hte : n = t := by omega
        have t1 : ¬ (t : Int) < (n : Int) := by omega
        subst hte
        clear hlt ht
        go_wp2
        go_ret
        have e : R = true := SZ.out.2 ⟨HLN.out.symm, fun r hr => HA.out r (by rw [HLN.out]; exact hr)⟩
        rw [e]
        exact ⟨rfl, HBW.out⟩
  · have q0 : ((n : Int) != (N : Int)) = true := by rw [bne_iff_ne]; omega
    go_enter Try.func31, Try.ntmps31
    go_wp2
    go_ret
    have e : R = false := by
      rcases hq : R with _ | _
      · rfl
      · exact absurd (HLN.out.trans (SZ.out.1 hq).1) hN2
    rw [e]
    exact ⟨rfl, BA.out⟩

end Go.Proofs.Ytebjkbhidpdpfaa
