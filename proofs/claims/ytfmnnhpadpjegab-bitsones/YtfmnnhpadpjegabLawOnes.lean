/- BitsOnes: whatever bytes come in, it returns true: bytes are as many fields of one bit as they have bits, and no more; no condition. -/
import Derived.Test.YtfmnnhpadpjegabArgs
namespace Go.Proofs.Ytfmnnhpadpjegab.LawOnes
open Go.ChangeShapes Go.WideShapes Go.ChangeAt Go.RowKit
open Bt

theorem get1 (bs : List Nat) (k : Nat) (h : k < 8 * bs.length) : getOk bs k 1 = true ∧ getN bs k 1 = (unpack bs).getD k 0 ∧ getP bs k 1 = k + 1 := by
  have h1 : getOk bs k 1 = true := by
    simp only [getOk, Bool.and_eq_true, decide_eq_true_eq]
    exact ⟨by decide, by omega⟩
  refine ⟨h1, ?_, ?_⟩
  · simp only [getN, h1, if_true]
    have := num_take_succ (unpack bs) k 0 (by rw [unpack_length]; omega)
    rw [show (1 : Int).toNat = 0 + 1 from rfl, this]
    simp [num_nil]
  · simp only [getP, h1, if_true]; rfl

theorem get_end (bs : List Nat) : getOk bs (8 * bs.length) 1 = false := by
  have : ¬ ((1 : Int) ≤ ((8 * bs.length - 8 * bs.length : Nat) : Int)) := by omega
  simp only [getOk, this, decide_false, Bool.and_false]

theorem put1 (b : Nat) (h : b < 2) : isF (b : Int) 1 = true ∧ putB (b : Int) 1 = [b] := by
  have h1 : isF (b : Int) 1 = true := isF_nat (N := b) (M := 1) (by decide) (by decide) h
  refine ⟨h1, ?_⟩
  simp only [putB, h1, if_true]
  rw [show (1 : Int).toNat = 1 from rfl, Int.toNat_natCast]
  simp [fld, Nat.mod_eq_of_lt h]

theorem take_bit (u : List Nat) (k : Nat) (h : k < u.length) : u.take (k + 1) = u.take k ++ [u.getD k 0] := by
  rw [List.take_succ_eq_append_getElem h, List.getD_eq_getElem?_getD, List.getElem?_eq_getElem h]; rfl

theorem walk_far (a : Option Addr) (len cap : Nat) (w : World) (hlen : len ≤ maxLen) (h : 100 < len) :
    Calls Try.prog 3 #[.slice a len cap] w fun e w' => e = .returned (.bool true) ∧ Below w.heap.size w w' := by
  unfold maxLen at hlen
  go_enter Try.func3, Try.ntmps3
  go_wp2_with (go_at_call 4; refine (alive_any _).mono ?_; rintro e w1 ⟨rfl, B1⟩)
  go_ret
  exact ⟨rfl, B1⟩

set_option maxHeartbeats 1000000 in
theorem walk_pos (bb off cap : Nat) (bs : List Nat) (w : World) (h1 : 0 < bs.length) (h2 : bs.length ≤ 100) (h256 : ∀ b ∈ bs, b < 256)
    (hr : Reads w (some ⟨bb, off, none⟩) bs) (hc : ∀ j, (hj : j < bs.length) → w.cell? ⟨bb, off + j, none⟩ = some (U bs[j])) :
    Calls Try.prog 3 #[.slice (some ⟨bb, off, none⟩) bs.length cap] w fun e w' => e = .returned (.bool true) ∧ Below w.heap.size w w' := by
  have HR := Hid.intro hr
  have HC := Hid.intro hc
  have H256 := Hid.intro h256
  clear hr hc h256
  have hdec : decide ((100 : Int) < (bs.length : Int)) = false := by simp; omega
  go_enter Try.func3, Try.ntmps3
  go_wp2_with (go_at_call 4; refine (alive_any _).mono ?_; rintro e w1 ⟨rfl, B1⟩)
  refine (look_any (some ⟨bb, off, none⟩) cap bs (by omega) H256.out w1 (HR.out.below B1)).mono ?_
  rintro e w2 ⟨eb, ge, rfl, hge, heb, E2, C2⟩
  have B2 := B1.trans ((C2.below (Nat.le_refl _) (fun _ h => h.elim)).mono B1.size)
  have hebw : w.heap.size ≤ eb := by have := B1.size; omega
  clear C2 B1 hge heb
  go_wp2_with fail
  have P3 := pen_new w2
  have E3 : EyeAt (w2.alloc (.cells #[.slice none 0 0, .int .i64 0] 27)) eb ge bs 0 := E2.kept ((Chg.refl (fun _ => False) _).alloc _) (fun h => h) (fun h => h)
  have B3 := B2.alloc B2.size (.cells #[.slice none 0 0, .int .i64 0] 27)
  have hpb := B2.size
  have hl1 := E2.lt
  have hl2 := E2.row.lt
  have X3 : ∀ k, penFoot w2.heap.size (.slice none 0 0) k → k ≠ eb ∧ k ≠ ge := by
    intro k hk
    rcases hk with hk | hk
    · omega
    · cases hk
  generalize hpbe : w2.heap.size = pb at P3 hpb X3 ⊢
  generalize w2.alloc (.cells #[.slice none 0 0, .int .i64 0] 27) = w3 at P3 B3 E3 ⊢
  have X3H := Hid.intro X3
  clear X3 B2 E2 hpbe hl1 hl2
  go_loopw [5] (fun i wr => ∃ k : Nat, k ≤ 8 * bs.length ∧ i = .int .i64 k ∧ ∃ v, PenAt wr pb v ((unpack bs).take k) ∧ EyeAt wr eb ge bs k ∧ Own w.heap.size pb v ∧ (∀ k, penFoot pb v k → k ≠ eb ∧ k ≠ ge) ∧ Below w.heap.size w wr)
    (fun i _ => 8 * bs.length - (intOf i).toNat)
  case atStart => exact ⟨0, by omega, rfl, _, by simpa [unpack] using P3, E3, own_new _ _ hpb, X3H.out, B3⟩
  case round =>
    obtain ⟨k, hk, rfl, v, PK, EK, OK, XK, BK⟩ := hrel
    have XKH := Hid.intro XK
    clear XK E3 P3 B3
    by_cases hlt : k < 8 * bs.length
    · have hb := getD_bit (unpack bs) (unpack_bits bs) k
      have G := Hid.intro (get1 bs k hlt)
      have T := Hid.intro (take_bit (unpack bs) k (by rw [unpack_length]; exact hlt))
      generalize (unpack bs).getD k 0 = b at hb G T
      have F := Hid.intro (put1 b hb)
      have b0 : (0 : Int) ≤ (b : Int) := by omega
      have b1 : (b : Int) ≤ 1 := by omega
      go_wp2_with fail
      refine (get_any eb ge bs k 1 wr EK).mono ?_
      rintro e w4 ⟨rfl, E4, C4⟩
      rw [G.out.1, G.out.2.1]
      rw [G.out.2.2] at E4
      have P4 := PK.kept C4 (fun j hj e => (XKH.out j hj).1 e)
      have B4 := BK.trans (C4.below BK.size (fun j e => by rw [e]; exact hebw))
      clear PK EK BK C4
      go_wp2_with fail
      refine (put_any pb b 1 v _ (by simp; omega) w4 P4).mono ?_
      rintro e w5 ⟨rfl, v5, P5, C5, K5⟩
      rw [F.out.1]
      rw [F.out.2, ← T.out] at P5
      have E5 := E4.kept C5 (fun h => (XKH.out eb h).1 rfl) (fun h => (XKH.out ge h).2 rfl)
      have B5 := B4.trans ((OK.chg C5).below B4.size fun _ h => h)
      have O5 := OK.next B4.size K5
      have X5 : ∀ j, penFoot pb v5 j → j ≠ eb ∧ j ≠ ge := by
        intro j hj
        rcases hj with hj | hj
        · exact XKH.out j (.inl hj)
        · rcases K5 j hj with h | h
          · exact XKH.out j (.inr h)
          · have e1 := E4.lt
            have e2 := E4.row.lt
            omega
      have X5H := Hid.intro X5
      clear X5 E4 P4 B4 OK C5 K5 XKH
      go_wp2
      go_roundw
      case rel => exact ⟨k + 1, by omega, by go_num, v5, P5, E5, O5, X5H.out, B5⟩
      case measure => simp [intOf]; omega
    · have hke : k = 8 * bs.length := by omega
      have EK' : EyeAt wr eb ge bs (8 * bs.length) := by rw [← hke]; exact EK
      have PK' : PenAt wr pb v (unpack bs) := by rw [hke, List.take_of_length_le (by rw [unpack_length]; exact Nat.le_refl _)] at PK; exact PK
      have PU := Hid.intro (pack_unpack bs H256.out)
      have GE := Hid.intro (get_end bs)
      clear EK PK hke
      go_wp2_with fail
      refine (get_any eb ge bs (8 * bs.length) 1 wr EK').mono ?_
      rintro e w6 ⟨rfl, E6, C6⟩
      rw [GE.out]
      have P6 := PK'.kept C6 (fun j hj e => (XKH.out j hj).1 e)
      have B6 := BK.trans (C6.below BK.size (fun j e => by rw [e]; exact hebw))
      generalize getN bs (8 * bs.length) 1 = n6
      clear EK' PK' BK C6 E6
      go_wp2_with fail
      refine (bytes_any pb v (unpack bs) (by rw [unpack_length]; omega) w6 P6).mono ?_
      rintro e w7 ⟨g7, rfl, hg7, R7, C7⟩
      rw [PU.out] at R7 ⊢
      have B7 := B6.trans ((C7.below (Nat.le_refl _) (fun _ h => h.elim)).mono B6.size)
      clear C7 P6 B6 hg7
      go_wp2_with fail
      refine (same_true (some ⟨g7, 0, none⟩) (some ⟨bb, off, none⟩) _ _ bs (by omega) w7 R7.reads (HR.out.below B7)).mono ?_
      rintro e w8 ⟨rfl, n8, rfl⟩
      go_wp2
      go_ret
      exact ⟨rfl, ⟨B7.os, B7.tape, B7.output, B7.size, B7.block⟩⟩

theorem walk_zero (a : Option Addr) (cap : Nat) (w : World) :
    Calls Try.prog 3 #[.slice a 0 cap] w fun e w' => e = .returned (.bool true) ∧ Below w.heap.size w w' := by
  go_enter Try.func3, Try.ntmps3
  go_wp2_with (go_at_call 4; refine (alive_any _).mono ?_; rintro e w1 ⟨rfl, B1⟩)
  refine (look_any a cap [] (by decide) (by decide) w1 (fun h => absurd h (by decide))).mono ?_
  rintro e w2 ⟨eb, ge, rfl, hge, heb, E2, C2⟩
  have B2 := B1.trans ((C2.below (Nat.le_refl _) (fun _ h => h.elim)).mono B1.size)
  have hebw : w.heap.size ≤ eb := by have := B1.size; omega
  clear C2 B1 hge heb
  go_wp2_with fail
  have P3 := pen_new w2
  have E3 : EyeAt (w2.alloc (.cells #[.slice none 0 0, .int .i64 0] 27)) eb ge [] 0 := E2.kept ((Chg.refl (fun _ => False) _).alloc _) (fun h => h) (fun h => h)
  have B3 := B2.alloc B2.size (.cells #[.slice none 0 0, .int .i64 0] 27)
  have hne : ¬ w2.heap.size = eb := by have := E2.lt; omega
  generalize w2.heap.size = pb at P3 hne ⊢
  generalize w2.alloc (.cells #[.slice none 0 0, .int .i64 0] 27) = w3 at P3 B3 E3 ⊢
  clear B2 E2
  refine wp_loop_rounds 1 ?_
  rw [rounds_succ]
  go_wp2_with fail
  refine (get_any eb ge [] 0 1 w3 E3).mono ?_
  rintro e w6 ⟨rfl, E6, C6⟩
  rw [show getN [] 0 1 = 0 from by decide, show getOk [] 0 1 = false from by decide]
  have P6 := P3.kept C6 (fun k hk e => by
    rcases hk with hk | hk
    · exact hne (hk.symm.trans e)
    · cases hk)
  have B6 := B3.trans (C6.below B3.size (fun j e => by rw [e]; exact hebw))
  clear E6 C6 P3 B3 E3
  go_wp2_with fail
  refine (bytes_any pb (.slice none 0 0) [] (by decide) w6 P6).mono ?_
  rintro e w7 ⟨g7, rfl, hg7, R7, C7⟩
  rw [pack_nil] at R7 ⊢
  have B7 := B6.trans ((C7.below (Nat.le_refl _) (fun _ h => h.elim)).mono B6.size)
  clear C7 P6 B6 hg7
  go_wp2_with fail
  refine (same_zero (some ⟨g7, 0, none⟩) a _ _ w7).mono ?_
  rintro e w8 ⟨rfl, rfl⟩
  go_wp2
  go_ret
  exact ⟨rfl, B7⟩

theorem walk (a : Option Addr) (len cap : Nat) (zs : List Int) (w : World) (h : IsRow .u8 w a len cap zs) :
    Calls Try.prog 3 #[.slice a len cap] w fun e w' => e = .returned (.bool true) ∧ Below w.heap.size w w' := by
  by_cases h100 : 100 < len
  · exact walk_far a len cap w h.len h100
  · obtain ⟨bs, hl, h256, hr⟩ := h.bytes
    subst hl
    by_cases h0 : bs.length = 0
    · rw [h0]; exact walk_zero a cap w
    · obtain ⟨bb, off, rfl, hc⟩ := reads_at hr (by omega)
      exact walk_pos bb off cap bs w (by omega) (by omega) h256 hr hc

set_option maxRecDepth 100000 in
theorem lifted (os : Os) (started : os.Started) (H : Type) (enc : TypeId × Value → H) :
    ReturnsInHanded {} Try.checked os 3 .any (Rows.bitsOnesSpec.pre6 enc Try.prog Try.f3 Rows.bitsOnesRow.domain false) (Rows.bitsOnesSpec.post enc Try.prog Try.f3 false true false false) := by
  refine returnsInHanded_of_change (C := Try.checked) own started (by kernel_rfl) Try.func3
    (ChangeSpec.witness6 (enc := enc) (C := Try.checked) false ⟨#[], #[.slice none 0 0], []⟩ 8 (by kernel_rfl) (by kernel_rfl) (by kernel_rfl) (by kernel_rfl)) ?_
  intro W base args ds gs before hval0 hW hcnd _
  have hval : ∀ (j : Nat) t v, Try.f3.params[j]? = some t → args[j]? = some v → Value.okWide Try.prog W .any base t v := hval0
  have hW' := hW
  obtain ⟨p, q, hA0, hV, rfl, hfz, hnd⟩ := hW
  have hA : DataW.TrodAll enc Try.prog W 0 (fun _ => true) true Try.f3.params.toList args.toList ds p := hA0
  rw [Try.params3] at hA hval
  obtain ⟨v0, vs0, d0, ds0, p0, q0, hargs, rfl, rfl, h0, r0⟩ := trodAll_cons hA
  obtain ⟨rfl, rfl, rfl⟩ := trodAll_nil r0
  obtain rfl : args = #[v0] := by cases args; simp_all
  obtain ⟨rfl, rfl⟩ := trodVars_none hV
  obtain ⟨a0, len0, cap0, rfl⟩ := okWide_slice Try.underlying22 (hval 0 22 v0 rfl rfl)
  have k0 := h0
  have lt0 : ∀ x ∈ p0, x.block < W.heap.size := by obtain ⟨m, hm⟩ := k0; exact DataW.trod_lt m _ _ _ hm
  obtain ⟨z0, w0⟩ : ∃ zs, IsRow .u8 W a0 len0 cap0 zs := by
    obtain ⟨fuel, hf⟩ := h0
    rcases open_ints Try.underlying22 Try.underlying5 (by kernel_rfl) hf with ⟨hcs, _⟩ | ⟨x, l, c, zs, hcs, _, hl, hm, hz, _, hcell, hwz⟩
    · simp [Value.cells] at hcs
      obtain ⟨rfl, rfl, rfl⟩ := hcs
      exact ⟨[], .inl ⟨rfl, rfl, rfl, rfl⟩⟩
    · simp [Value.cells] at hcs
      obtain ⟨rfl, rfl, rfl⟩ := hcs
      exact ⟨zs, .inr ⟨_, rfl, hl, hm, by simpa using hz, hcell, hwz⟩⟩
  clear hA0 hval0
  refine (walk a0 len0 cap0 z0 W w0).mono fun e W' ⟨he, bel⟩ => ?_
  subst he
  exact ⟨_, rfl, _, _, _, [], _, [], hW', trodAll_mk1 (shut_bool Try.underlying4 _), (trodAll_cons_mk (Below.trod laidOut (by kernel_rfl) (of_decide_eq_true (by kernel_rfl)) k0 bel lt0) trodAll_mk0), rfl, bel.frame _, fun h => by cases h⟩

theorem over : Rows.bitsOnesRow.holds Try.pinned (OpenSpec.ofChange Rows.bitsOnesSpec) :=
  OpenClaim.holds_of_wide 3 Try.f3 rfl rfl rfl rfl rfl rfl rfl ⟨rfl, rfl, rfl, rfl, rfl⟩ rfl rfl rfl rfl rfl (by kernel_rfl) Try.func3 (by kernel_rfl)
    (of_decide_eq_true (by kernel_rfl)) (by unfold Func.isWrapper; first | (rw [if_pos (by decide +kernel)]; kernel_rfl) | (rw [if_neg (by decide +kernel)]; exact ⟨rfl, rfl⟩))
    (fun os started H enc _ => lifted os started H enc)

end Go.Proofs.Ytfmnnhpadpjegab.LawOnes

namespace Go.Proofs.Ytfmnnhpadpjegab
theorem bitsOnes_holds : Rows.BitsOnesSaid := LawOnes.over
#print axioms bitsOnes_holds
end Go.Proofs.Ytfmnnhpadpjegab
