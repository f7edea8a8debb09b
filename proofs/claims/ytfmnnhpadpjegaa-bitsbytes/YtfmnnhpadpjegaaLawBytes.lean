/- BitsBytes: whatever bytes come in, it returns true: bytes that are put as fields of eight are the same bytes; no condition. -/
import Derived.Test.YtfmnnhpadpjegaaArgs
namespace Go.Proofs.Ytfmnnhpadpjegaa.LawBytes
open Go.ChangeShapes Go.WideShapes Go.ChangeAt Go.RowKit
open Bt

theorem get8 (bs : List Nat) (k : Nat) (h : k < bs.length) (hb : bs[k] < 256) : getOk bs (8 * k) 8 = true ∧ getN bs (8 * k) 8 = bs[k] ∧ getP bs (8 * k) 8 = 8 * (k + 1) := by
  have h1 : getOk bs (8 * k) 8 = true := by
    simp only [getOk, Bool.and_eq_true, decide_eq_true_eq]
    exact ⟨by decide, by omega⟩
  refine ⟨h1, ?_, ?_⟩
  · simp only [getN, h1, if_true]
    rw [show (8 : Int).toNat = 8 from rfl, unpack_chunk bs k h, num_fld]
    exact Nat.mod_eq_of_lt hb
  · simp only [getP, h1, if_true]
    rw [show (8 : Int).toNat = 8 from rfl]; omega

theorem put8 (b : Nat) (h : b < 256) : isF (b : Int) 8 = true ∧ putB (b : Int) 8 = fld 8 b := by
  have h1 : isF (b : Int) 8 = true := isF_nat (N := b) (M := 8) (by decide) (by decide) h
  exact ⟨h1, by simp [putB, h1]⟩

theorem walk_far (a : Option Addr) (len cap : Nat) (w : World) (hlen : len ≤ maxLen) (h : 200 < len) :
    Calls Try.prog 8 #[.slice a len cap] w fun e w' => e = .returned (.bool true) ∧ Below w.heap.size w w' := by
  unfold maxLen at hlen
  go_enter Try.func8, Try.ntmps8
  go_wp2_with (go_at_call 9; refine (alive_any _).mono ?_; rintro e w1 ⟨rfl, B1⟩)
  go_ret
  exact ⟨rfl, B1⟩

set_option maxHeartbeats 1000000 in
theorem walk_pos (bb off cap : Nat) (bs : List Nat) (w : World) (h1 : 0 < bs.length) (h2 : bs.length ≤ 200) (h256 : ∀ b ∈ bs, b < 256)
    (hr : Reads w (some ⟨bb, off, none⟩) bs) (hc : ∀ j, (hj : j < bs.length) → w.cell? ⟨bb, off + j, none⟩ = some (U bs[j])) :
    Calls Try.prog 8 #[.slice (some ⟨bb, off, none⟩) bs.length cap] w fun e w' => e = .returned (.bool true) ∧ Below w.heap.size w w' := by
  have HR := Hid.intro hr
  have HC := Hid.intro hc
  have H256 := Hid.intro h256
  clear hr hc h256
  have hdec : decide ((200 : Int) < (bs.length : Int)) = false := by simp; omega
  go_enter Try.func8, Try.ntmps8
  go_wp2_with (go_at_call 9; refine (alive_any _).mono ?_; rintro e w1 ⟨rfl, B1⟩)
  have P2 := pen_new w1
  have B2 := B1.alloc B1.size (.cells #[.slice none 0 0, .int .i64 0] 26)
  have hpb := B1.size
  generalize hpbe : w1.heap.size = pb at P2 hpb ⊢
  generalize w1.alloc (.cells #[.slice none 0 0, .int .i64 0] 26) = w2 at P2 B2 ⊢
  clear B1 hpbe
  refine (look_any (some ⟨bb, off, none⟩) cap bs (by omega) H256.out w2 (HR.out.below B2)).mono ?_
  rintro e w3 ⟨eb, ge, rfl, hge, heb, E3, C3⟩
  have P3 := P2.kept C3 (fun _ _ h => h)
  have B3 := B2.trans ((C3.below (Nat.le_refl _) (fun _ h => h.elim)).mono B2.size)
  have hlt := P2.lt
  have X3 : ∀ k, penFoot pb (.slice none 0 0) k → k ≠ eb ∧ k ≠ ge := by
    intro k hk
    rcases hk with hk | hk
    · omega
    · cases hk
  have hebw : w.heap.size ≤ eb := by have := B2.size; omega
  have X3H := Hid.intro X3
  clear X3 C3 P2 B2 hge heb hlt
  go_wp2_with fail
  go_loopw [5] (fun i wr => ∃ k : Nat, k ≤ bs.length ∧ i = .int .i64 k ∧ ∃ v, PenAt wr pb v (unpack (bs.take k)) ∧ EyeAt wr eb ge bs (8 * k) ∧ Own w.heap.size pb v ∧ (∀ k, penFoot pb v k → k ≠ eb ∧ k ≠ ge) ∧ Below w.heap.size w wr)
    (fun i _ => bs.length - (intOf i).toNat)
  case atStart => exact ⟨0, by omega, rfl, _, by simpa [unpack] using P3, E3, own_new _ _ hpb, X3H.out, B3⟩
  case round =>
    obtain ⟨k, hk, rfl, v, PK, EK, OK, XK, BK⟩ := hrel
    have XKH := Hid.intro XK
    clear XK E3 P3 B3
    by_cases hlt : k < bs.length
    · have hb := H256.out bs[k] (List.getElem_mem hlt)
      have G := Hid.intro (get8 bs k hlt hb)
      have F := Hid.intro (put8 bs[k] hb)
      have T := Hid.intro (unpack_take_succ bs k hlt)
      have c1 := Hid.intro (HC.out k hlt)
      have i0 : (0 : Int) ≤ (k : Int) := by omega
      have i1 : (k : Int) < (bs.length : Int) := by omega
      go_wp2_with fail
      refine (get_any eb ge bs (8 * k) 8 wr EK).mono ?_
      rintro e w4 ⟨rfl, E4, C4⟩
      rw [G.out.1, G.out.2.1]
      rw [G.out.2.2] at E4
      have P4 := PK.kept C4 (fun j hj e => (XKH.out j hj).1 e)
      have B4 := BK.trans (C4.below BK.size (fun j e => by rw [e]; exact hebw))
      have c2 : w4.cell? ⟨bb, off + k, none⟩ = some (U bs[k]) := (B4.cell (cell_lt c1.out)).trans c1.out
      clear PK EK BK C4 c1
      generalize bs[k] = b at hb F T c2 ⊢
      have hbb : ((b : Int) != (b : Int)) = false := by simp
      go_wp2_with fail
      refine (put_any pb b 8 v _ (by rw [unpack_length]; simp; omega) w4 P4).mono ?_
      rintro e w5 ⟨rfl, v5, P5, C5, K5⟩
      rw [F.out.1]
      rw [F.out.2, ← T.out] at P5
      have E5 := E4.kept C5 (fun h => (XKH.out eb h).1 rfl) (fun h => (XKH.out ge h).2 rfl)
      have B5 := B4.trans ((OK.chg C5).below B4.size fun _ h => h)
      have O5 := OK.next B4.size K5
      have X5 : ∀ j, penFoot pb v5 j → j ≠ eb ∧ j ≠ ge := by
        intro j hj
        rcases hj with hj | hj
        · exact XKH.out j (.inl hj)
        · rcases K5 j hj with h | h
          · exact XKH.out j (.inr h)
          · have e1 := E4.lt
            have e2 := E4.row.lt
            omega
      have X5H := Hid.intro X5
      clear X5 E4 P4 B4 OK C5 K5 XKH
      go_wp2
      go_roundw
      case rel => exact ⟨k + 1, by omega, by go_num, v5, P5, E5, O5, X5H.out, B5⟩
      case measure => simp [intOf]; omega
    · have hke : k = bs.length := by omega
      have EK' : EyeAt wr eb ge bs (8 * bs.length) := by rw [← hke]; exact EK
      have PK' : PenAt wr pb v (unpack bs) := by rw [hke, List.take_length] at PK; exact PK
      have PU := Hid.intro (pack_unpack bs H256.out)
      clear EK PK hke
      go_wp2_with fail
      refine (left_any eb ge bs (8 * bs.length) wr EK').mono ?_
      rintro e w6 ⟨rfl, n6, rfl⟩
      rw [Nat.sub_self]
      have P6 : PenAt (wr.drewN n6) pb v (unpack bs) := PK'.kept ((Chg.refl (fun _ => False) _).drewN n6) (fun _ _ h => h)
      have B6 : Below w.heap.size w (wr.drewN n6) := ⟨BK.os, BK.tape, BK.output, BK.size, BK.block⟩
      generalize wr.drewN n6 = w6 at P6 B6 ⊢
      clear EK' PK' BK
      go_wp2_with fail
      refine (bytes_any pb v (unpack bs) (by rw [unpack_length]; omega) w6 P6).mono ?_
      rintro e w7 ⟨g7, rfl, hg7, R7, C7⟩
      rw [PU.out] at R7 ⊢
      have B7 := B6.trans ((C7.below (Nat.le_refl _) (fun _ h => h.elim)).mono B6.size)
      clear C7 P6 B6 hg7
      go_wp2_with fail
      refine (same_true (some ⟨g7, 0, none⟩) (some ⟨bb, off, none⟩) _ _ bs (by omega) w7 R7.reads (HR.out.below B7)).mono ?_
      rintro e w8 ⟨rfl, n8, rfl⟩
      go_wp2
      go_ret
      exact ⟨rfl, ⟨B7.os, B7.tape, B7.output, B7.size, B7.block⟩⟩

theorem walk_zero (a : Option Addr) (cap : Nat) (w : World) :
    Calls Try.prog 8 #[.slice a 0 cap] w fun e w' => e = .returned (.bool true) ∧ Below w.heap.size w w' := by
  go_enter Try.func8, Try.ntmps8
  go_wp2_with (go_at_call 9; refine (alive_any _).mono ?_; rintro e w1 ⟨rfl, B1⟩)
  have P2 := pen_new w1
  have B2 := B1.alloc B1.size (.cells #[.slice none 0 0, .int .i64 0] 26)
  have hpb := B1.size
  generalize hpbe : w1.heap.size = pb at P2 hpb ⊢
  generalize w1.alloc (.cells #[.slice none 0 0, .int .i64 0] 26) = w2 at P2 B2 ⊢
  clear B1 hpbe
  refine (look_any a cap [] (by decide) (by decide) w2 (fun h => absurd h (by decide))).mono ?_
  rintro e w3 ⟨eb, ge, rfl, hge, heb, E3, C3⟩
  have P3 := P2.kept C3 (fun _ _ h => h)
  have B3 := B2.trans ((C3.below (Nat.le_refl _) (fun _ h => h.elim)).mono B2.size)
  clear C3 P2 B2 hge heb
  go_wp2_with fail
  refine wp_loop_rounds 1 ?_
  rw [rounds_succ]
  go_wp2_with fail
  refine (left_any eb ge [] 0 w3 E3).mono ?_
  rintro e w6 ⟨rfl, n6, rfl⟩
  have P6 : PenAt (w3.drewN n6) pb (.slice none 0 0) [] := P3.kept ((Chg.refl (fun _ => False) _).drewN n6) (fun _ _ h => h)
  have B6 : Below w.heap.size w (w3.drewN n6) := ⟨B3.os, B3.tape, B3.output, B3.size, B3.block⟩
  generalize w3.drewN n6 = w6 at P6 B6 ⊢
  clear E3 P3 B3
  go_wp2_with fail
  refine (bytes_any pb (.slice none 0 0) [] (by decide) w6 P6).mono ?_
  rintro e w7 ⟨g7, rfl, hg7, R7, C7⟩
  rw [pack_nil] at R7 ⊢
  have B7 := B6.trans ((C7.below (Nat.le_refl _) (fun _ h => h.elim)).mono B6.size)
  clear C7 P6 B6 hg7
  go_wp2_with fail
  refine (same_zero (some ⟨g7, 0, none⟩) a _ _ w7).mono ?_
  rintro e w8 ⟨rfl, rfl⟩
  go_wp2
  go_ret
  exact ⟨rfl, B7⟩

theorem walk (a : Option Addr) (len cap : Nat) (zs : List Int) (w : World) (h : IsRow .u8 w a len cap zs) :
    Calls Try.prog 8 #[.slice a len cap] w fun e w' => e = .returned (.bool true) ∧ Below w.heap.size w w' := by
  by_cases h200 : 200 < len
  · exact walk_far a len cap w h.len h200
  · obtain ⟨bs, hl, h256, hr⟩ := h.bytes
    subst hl
    by_cases h0 : bs.length = 0
    · rw [h0]; exact walk_zero a cap w
    · obtain ⟨bb, off, rfl, hc⟩ := reads_at hr (by omega)
      exact walk_pos bb off cap bs w (by omega) (by omega) h256 hr hc

set_option maxRecDepth 100000 in
theorem lifted (os : Os) (started : os.Started) (H : Type) (enc : TypeId × Value → H) :
    ReturnsInHanded {} Try.checked os 8 .any (Rows.bitsBytesSpec.pre6 enc Try.prog Try.f8 Rows.bitsBytesRow.domain false) (Rows.bitsBytesSpec.post enc Try.prog Try.f8 false true false false) := by
  refine returnsInHanded_of_change (C := Try.checked) own started (by kernel_rfl) Try.func8
    (ChangeSpec.witness6 (enc := enc) (C := Try.checked) false ⟨#[], #[.slice none 0 0], []⟩ 8 (by kernel_rfl) (by kernel_rfl) (by kernel_rfl) (by kernel_rfl)) ?_
  intro W base args ds gs before hval0 hW hcnd _
  have hval : ∀ (j : Nat) t v, Try.f8.params[j]? = some t → args[j]? = some v → Value.okWide Try.prog W .any base t v := hval0
  have hW' := hW
  obtain ⟨p, q, hA0, hV, rfl, hfz, hnd⟩ := hW
  have hA : DataW.TrodAll enc Try.prog W 0 (fun _ => true) true Try.f8.params.toList args.toList ds p := hA0
  rw [Try.params8] at hA hval
  obtain ⟨v0, vs0, d0, ds0, p0, q0, hargs, rfl, rfl, h0, r0⟩ := trodAll_cons hA
  obtain ⟨rfl, rfl, rfl⟩ := trodAll_nil r0
  obtain rfl : args = #[v0] := by cases args; simp_all
  obtain ⟨rfl, rfl⟩ := trodVars_none hV
  obtain ⟨a0, len0, cap0, rfl⟩ := okWide_slice Try.underlying24 (hval 0 24 v0 rfl rfl)
  have k0 := h0
  have lt0 : ∀ x ∈ p0, x.block < W.heap.size := by obtain ⟨m, hm⟩ := k0; exact DataW.trod_lt m _ _ _ hm
  obtain ⟨z0, w0⟩ : ∃ zs, IsRow .u8 W a0 len0 cap0 zs := by
    obtain ⟨fuel, hf⟩ := h0
    rcases open_ints Try.underlying24 Try.underlying5 (by kernel_rfl) hf with ⟨hcs, _⟩ | ⟨x, l, c, zs, hcs, _, hl, hm, hz, _, hcell, hwz⟩
    · simp [Value.cells] at hcs
      obtain ⟨rfl, rfl, rfl⟩ := hcs
      exact ⟨[], .inl ⟨rfl, rfl, rfl, rfl⟩⟩
    · simp [Value.cells] at hcs
      obtain ⟨rfl, rfl, rfl⟩ := hcs
      exact ⟨zs, .inr ⟨_, rfl, hl, hm, by simpa using hz, hcell, hwz⟩⟩
  clear hA0 hval0
  refine (walk a0 len0 cap0 z0 W w0).mono fun e W' ⟨he, bel⟩ => ?_
  subst he
  exact ⟨_, rfl, _, _, _, [], _, [], hW', trodAll_mk1 (shut_bool Try.underlying4 _), (trodAll_cons_mk (Below.trod laidOut (by kernel_rfl) (of_decide_eq_true (by kernel_rfl)) k0 bel lt0) trodAll_mk0), rfl, bel.frame _, fun h => by cases h⟩

theorem over : Rows.bitsBytesRow.holds Try.pinned (OpenSpec.ofChange Rows.bitsBytesSpec) :=
  OpenClaim.holds_of_wide 8 Try.f8 rfl rfl rfl rfl rfl rfl rfl ⟨rfl, rfl, rfl, rfl, rfl⟩ rfl rfl rfl rfl rfl (by kernel_rfl) Try.func8 (by kernel_rfl)
    (of_decide_eq_true (by kernel_rfl)) (by unfold Func.isWrapper; first | (rw [if_pos (by decide +kernel)]; kernel_rfl) | (rw [if_neg (by decide +kernel)]; exact ⟨rfl, rfl⟩))
    (fun os started H enc _ => lifted os started H enc)

end Go.Proofs.Ytfmnnhpadpjegaa.LawBytes

namespace Go.Proofs.Ytfmnnhpadpjegaa
theorem bitsBytes_holds : Rows.BitsBytesSaid := LawBytes.over
#print axioms bitsBytes_holds
end Go.Proofs.Ytfmnnhpadpjegaa
