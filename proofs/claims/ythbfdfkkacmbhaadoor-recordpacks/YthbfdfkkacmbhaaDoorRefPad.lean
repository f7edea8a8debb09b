/- The contract of the document's own Pad of layer 5. -/
import Derived.Test.YthbfdfkkacmbhaaDoorRefMay
namespace Go.Proofs.YthbfdfkkacmbhaaDoor
open Go.RowKit
open Bt

/-- A slice's length. -/
def lenV : Value → Nat
  | .slice _ n _ => n
  | _ => 0

set_option maxRecDepth 100000 in
set_option maxHeartbeats 1000000 in
theorem refPad_any (k n s : Int) (ao : Option Addr) (cap : Nat) (bs : List Nat) (hl : bs.length ≤ 300) (w : World) (hr : Reads w ao bs) (hao : ao = none → cap = 0) :
    Calls Tryd.prog 32 #[Cd k n s, .slice ao bs.length cap] w fun e w' => ∃ v, e = .returned v ∧ w'.ownsRow 0 5 1 v (padB k n s bs).length ((padB k n s bs).map U) ∧ (∀ j, v.ownBlock = some j → w.heap.size ≤ j) ∧ Below w.heap.size w w' := by
  obtain ⟨i8, hi8, hz80, hz81, hz82⟩ := info_parts info_u8
  have HR := Hid.intro hr
  have HAO := Hid.intro hao
  clear hr hao
  have HM := Hid.intro (fun w => refMay_any k n s w)
  rcases hmay : mayC k n s with _ | _
  · have e : padB k n s bs = [] := by unfold padB; rw [if_neg (by rw [hmay]; simp)]
    rw [e]
    rw [hmay] at HM
    clear e
    go_enter Tryd.func32, Tryd.ntmps32
    go_wp2_with fail
    refine (HM.out _).mono ?_
    rintro e1 w1 ⟨rfl, B1⟩
    go_wp2
    go_ret
    exact ⟨_, rfl, World.ownsRow_nil _ _ _ _, nil_own _, ((Below.refl _ _).alloc (Nat.le_refl _) _).trans ((below_chg B1).below (by simp) (fun _ f => f.elim))⟩
  · obtain ⟨h1, h2, h3, h4, h5, h6⟩ := mayC_true hmay
    obtain ⟨K, rfl⟩ := Int.eq_ofNat_of_zero_le (show 0 ≤ k by omega)
    obtain ⟨S, rfl⟩ := Int.eq_ofNat_of_zero_le (show 0 ≤ s by omega)
    have hKS : K * S ≤ 144 := by
      calc K * S ≤ 6 * S := Nat.mul_le_mul_right _ (by omega)
        _ ≤ 6 * 24 := Nat.mul_le_mul_left _ (by omega)
    have hks : (K : Int) * (S : Int) = ((K * S : Nat) : Int) := by simp
    have hw : IntKind.i64.wrap ((K : Int) * (S : Int)) = ((K * S : Nat) : Int) := by rw [hks]; exact IntWalk.i64_in _ (by omega)
    rw [hmay] at HM
    obtain ⟨L, hL⟩ : ∃ L, L = K * S := ⟨_, rfl⟩
    rw [← hL] at hw hks hKS
    by_cases hle : bs.length ≤ L
    · have e : padB K n S bs = bs ++ List.replicate (L - bs.length) 0 := by
        unfold padB; rw [if_pos ⟨hmay, by omega⟩, hks, Int.toNat_natCast]
      rw [e]
      clear e hL hks
      go_enter Tryd.func32, Tryd.ntmps32
      go_wp2_with fail
      refine (HM.out _).mono ?_
      rintro e1 w1 ⟨rfl, B1⟩
      clear HM
      have b1 : w1.heap[w.heap.size]? = some (.cells #[.int .i64 (K : Int), .int .i64 n, .int .i64 (S : Int)] 23 (0, 0)) := by
        rw [B1.block _ (by simp)]; exact heap_alloc_new w _
      have BH := Hid.intro b1
      have B1w : Below w.heap.size w w1 := ((Below.refl _ _).alloc (Nat.le_refl _) _).trans ((below_chg B1).below (by simp) (fun _ f => f.elim))
      have hw1 : w.heap.size < w1.heap.size := lt_of_heap b1
      have HW1 := Hid.intro hw1
      have c0 : w1.cell? ⟨w.heap.size, 0, none⟩ = some (.int .i64 (K : Int)) := by rw [cell_of_row w1 _ 0 _ _ _ b1]; rfl
      have c2 : w1.cell? ⟨w.heap.size, 2, none⟩ = some (.int .i64 (S : Int)) := by rw [cell_of_row w1 _ 2 _ _ _ b1]; rfl
      clear b1 hw1 B1
      have l0 : ¬ (L : Int) < (bs.length : Int) := by omega
      have l1 : ¬ L < bs.length := by omega
      have E1 := Hid.intro (empty_row w1)
      have B2 := B1w.alloc B1w.size (.cells #[] 5)
      have hR2 := Hid.intro (HR.out.below B2)
      go_wp2_with (at_builtin; refine append_bytes rfl _ _ rfl _ [] rfl E1.out ao bs.length cap bs rfl rfl hR2.out HAO.out (by simp; omega) ?_)
      intro v3 w3 hown hgrow hat
      replace hown : w3.ownsRow 0 5 1 v3 bs.length (bs.map U) := hown
      have C3 : Chg (fun q => False) w1 w3 := ((Chg.refl _ _).alloc _).grown hgrow (fun q hq hlt => by
        have e : w1.heap.size = q := by simpa [Value.ownBlock] using hq
        omega)
      have N3 : ∀ q, v3.ownBlock = some q → w1.heap.size ≤ q := by
        intro q hq
        rcases hat with h | h
        · rw [hq] at h
          have e : q = w1.heap.size := by simpa [Value.ownBlock] using h
          omega
        · rw [hq] at h
          have e : q = (w1.alloc (.cells #[] 5)).heap.size := by simpa using h
          simp at e
          omega
      have R3H := Hid.intro hown
      have N3H := Hid.intro N3
      have C3H := Hid.intro C3
      clear hown hgrow hat N3 C3 E1 hR2 B2 c0 c2
      go_wp2_with fail
      go_loopw [5] (fun v wr => ∃ t : Nat, bs.length ≤ t ∧ t ≤ L ∧ lenV v = t ∧ wr.ownsRow 0 5 1 v t ((bs ++ List.replicate (t - bs.length) 0).map U) ∧ (∀ q, v.ownBlock = some q → w1.heap.size ≤ q) ∧ Below w1.heap.size w1 wr) (fun v _ => L - lenV v)
      case atStart =>
        obtain ⟨a3, c3, e3, _⟩ := ownsRow_form R3H.out
        exact ⟨bs.length, Nat.le_refl _, hle, by rw [e3]; rfl, by simpa using R3H.out, N3H.out, C3H.out.below (Nat.le_refl _) (fun _ f => f.elim)⟩
      case round =>
        clear R3H N3H C3H
        obtain ⟨t, ht1, ht2, hlen, RT, NT, BT⟩ := hrel
        obtain ⟨at3, ct3, e3, _⟩ := ownsRow_form RT
        subst e3
        clear hlen
        have c0 : wr.cell? ⟨w.heap.size, 0, none⟩ = some (.int .i64 (K : Int)) := by rw [cell_of_row wr _ 0 _ _ _ ((BT.block _ HW1.out).trans BH.out)]; rfl
        have c2 : wr.cell? ⟨w.heap.size, 2, none⟩ = some (.int .i64 (S : Int)) := by rw [cell_of_row wr _ 2 _ _ _ ((BT.block _ HW1.out).trans BH.out)]; rfl
        have RTH := Hid.intro RT
        have NTH := Hid.intro NT
        clear RT NT
        by_cases htl : t < L
        · have t1 : (t : Int) < (L : Int) := by omega
          have TS := Hid.intro (show bs ++ List.replicate (t + 1 - bs.length) 0 = (bs ++ List.replicate (t - bs.length) 0) ++ [0] by
            rw [show t + 1 - bs.length = (t - bs.length) + 1 from by omega, List.replicate_succ', List.append_assoc])
          have R6H := Hid.intro (RTH.out.alloc (.cells #[U 0] 5))
          go_wp2_with (at_builtin; refine wpList_append_lies _ rfl _ _ 30 rfl 0 5 i8 (.int .u8 0) 1 1 Tryd.underlying30 hi8 hz80 hz81 hz82 rfl (by decide) (.slice at3 t ct3) _ _ rfl R6H.out ⟨wr.heap.size, 0, none⟩ 1 1 [U 0] rfl rfl (World.news_of_block (cs := #[U 0]) (t := 5) (fr := (0, 0)) (heap_alloc_new wr _)) (by simp [Value.oneCell', U]) (by decide) (by unfold maxLen; omega) (by omega) (Nat.zero_le _) (wr.heap.size + 1) (by simp) ?_)
          intro g7 cp7 w7 hown hgrow hat hgl
          have C7 : Chg (fun q => (Value.slice at3 t ct3).ownBlock = some q) wr w7 := ((Chg.refl _ _).alloc _).grown hgrow (fun q hq _ => hq)
          have B7 := BT.trans (C7.below BT.size (fun q hq => NTH.out q hq))
          have N7 : ∀ q, (Value.slice (some ⟨g7, 0, none⟩) (t + 1) cp7).ownBlock = some q → w1.heap.size ≤ q := by
            intro q hq
            have e : g7 = q := by simpa [Value.ownBlock] using hq
            subst e
            rcases hat with hat | hat
            · exact NTH.out g7 hat
            · have := BT.size; omega
          have R7 : w7.ownsRow 0 5 1 (.slice (some ⟨g7, 0, none⟩) (t + 1) cp7) (t + 1) ((bs ++ List.replicate (t + 1 - bs.length) 0).map U) := by
            rw [TS.out, List.map_append]
            simpa using hown
          have R7H := Hid.intro R7
          have N7H := Hid.intro N7
          clear hown hgrow hat R7 N7 C7 BT R6H NTH RTH c0 c2
          go_wp2
          go_roundw
          case rel => exact ⟨t + 1, by omega, by omega, rfl, R7H.out, N7H.out, B7⟩
          case measure => simp [lenV]; omega
        · have hte : t = L := by omega
          subst hte
          have BL : Below w.heap.size w wr := B1w.trans ((below_chg BT).below B1w.size (fun _ f => f.elim))
          clear BT
          go_wp2
          go_ret
          refine ⟨_, rfl, ?_, fun q hq => Nat.le_trans B1w.size (NTH.out q hq), BL⟩
          have e : (bs ++ List.replicate (t - bs.length) 0).length = t := by simp; omega
          rw [e]
          exact RTH.out
    · have e : padB K n S bs = [] := by unfold padB; rw [if_neg (by rw [hks]; omega)]
      rw [e]
      clear e hL hks
      go_enter Tryd.func32, Tryd.ntmps32
      go_wp2_with fail
      refine (HM.out _).mono ?_
      rintro e1 w1 ⟨rfl, B1⟩
      have b1 : w1.heap[w.heap.size]? = some (.cells #[.int .i64 (K : Int), .int .i64 n, .int .i64 (S : Int)] 23 (0, 0)) := by
        rw [B1.block _ (by simp)]; exact heap_alloc_new w _
      have c0 : w1.cell? ⟨w.heap.size, 0, none⟩ = some (.int .i64 (K : Int)) := by rw [cell_of_row w1 _ 0 _ _ _ b1]; rfl
      have c2 : w1.cell? ⟨w.heap.size, 2, none⟩ = some (.int .i64 (S : Int)) := by rw [cell_of_row w1 _ 2 _ _ _ b1]; rfl
      have l0 : (L : Int) < (bs.length : Int) := by omega
      have l1 : L < bs.length := by omega
      clear b1
      go_wp2
      go_ret
      exact ⟨_, rfl, World.ownsRow_nil _ _ _ _, nil_own _, ((Below.refl _ _).alloc (Nat.le_refl _) _).trans ((below_chg B1).below (by simp) (fun _ f => f.elim))⟩

end Go.Proofs.YthbfdfkkacmbhaaDoor
