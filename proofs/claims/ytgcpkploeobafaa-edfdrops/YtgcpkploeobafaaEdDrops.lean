/- The statement EdfDrops: a bed's jobs go, and the others stand as they stood. -/
import Derived.Test.YtgcpkploeobafaaEdAlive
import Derived.Test.YtgcpkploeobafaaEdArg
import Derived.Test.YtgcpkploeobafaaEdFill
import Derived.Test.YtgcpkploeobafaaEdTwoQ
import Derived.Test.YtgcpkploeobafaaEdConD
import Derived.Test.YtgcpkploeobafaaEdRefS
namespace Go.Proofs.Ytgcpkploeobafaa
open Go.ChangeShapes Go.WideShapes Go.ChangeAt Go.RowKit Go.Joins
open Bt

namespace LEdfDrops

theorem twoq_drop {R : Nat → Prop} {B : Nat} {w : World} {a b : Nat} {x y : List Jb} (bed : Int) {n : Nat} (h : TwoQ R B w a b x y n) (hR : ∀ k, R k → k < w.heap.size) (hB : B ≤ w.heap.size) :
    Calls Try.prog 13 #[.pointer (some ⟨a, 0, none⟩), .int .i64 bed] w fun e w' => e = .returned (.int .i64 (dropN x bed : Int)) ∧ TwoQ R B w' a b (dropR x bed) y n ∧ Chg (fun k => B ≤ k ∧ ¬ R k) w w' := by
  obtain ⟨S, T, h1, h2, h3, h4, h5⟩ := h
  refine (edrop_any a bed S x n w h1).mono ?_
  rintro e w' ⟨rfl, hl⟩
  exact ⟨rfl, TwoQ.left h2 h3 h4 h5 hR hB hl⟩

theorem out {B : Nat} {w0 w w' : World} (h0 : Below B w0 w) (hB : B ≤ w0.heap.size) (h : Chg (fun k => B ≤ k ∧ ¬ False) w w') : Below B w0 w' := h0.trans (h.below (Nat.le_trans hB h0.size) (fun _ hk => hk.1))

set_option maxRecDepth 100000 in
set_option maxHeartbeats 4000000 in
theorem walk_main (ao : Option Addr) (c : Nat) (l : List Jb) (bed : Int) (w : World) (h : JsAt (fun _ => True) w (.slice ao l.length c) l) :
    Calls Try.prog 8 #[.slice ao l.length c, .int .i64 bed] w fun e w' => e = .returned (.bool true) ∧ Below w.heap.size w w' := by
  have AL := Hid.intro (alive12_any w)
  obtain ⟨ao', c', e0, _, hs⟩ := h
  simp only [Value.slice.injEq] at e0
  obtain ⟨rfl, _, rfl⟩ := e0
  have HS := Hid.intro hs
  obtain ⟨L, hL⟩ : ∃ L, L = l.length := ⟨_, rfl⟩
  have HL := Hid.intro hL
  rw [← hL]
  clear hL hs
  go_enter Try.func8, Try.ntmps8
  go_wp2_with fail
  refine AL.out.mono ?_
  rintro e w1 ⟨rfl, B1⟩
  have B1H := Hid.intro B1
  clear AL B1
  by_cases hl : 60 < L
  · have hl' : (60 : Int) < (L : Int) := by omega
    go_wp2
    go_ret
    exact ⟨rfl, B1H.out⟩
  have hl' : ¬ (60 : Int) < (L : Int) := by omega
  go_wp2_with fail
  refine (enew_any w1).mono ?_
  rintro e w2 ⟨a, F, rfl, hS, hF, B2⟩
  have S2 := Hid.intro hS
  have F2 := Hid.intro hF
  have B2H := Hid.intro B2
  clear hS hF B2
  go_wp2_with fail
  refine (enew_any w2).mono ?_
  rintro e w3 ⟨b, G, rfl, hS, hF, B3⟩
  have Q3 := Hid.intro (twoq_new (B := w1.heap.size) (Nat.le_refl _) S2.out F2.out B2H.out hS hF B3)
  have O3 := Hid.intro (B2H.out.trans (B3.mono B2H.out.size))
  clear hS hF B3 S2 F2 B2H
  go_wp2_with fail
  go_loopw [7, 8] (fun nv iv ws => ∃ (k n : Nat), k ≤ L ∧ n ≤ k ∧ iv = .int .i64 k ∧ nv = .int .i64 n ∧ n = dropN (fillK l k) bed ∧ TwoQ (fun _ => False) w1.heap.size ws a b (fillK l k) (dropR (fillK l k) bed) (2 * k) ∧ Below w1.heap.size w1 ws) (fun _ iv _ => L - (intOf iv).toNat)
  case atStart => exact ⟨0, 0, by omega, by omega, rfl, rfl, rfl, Q3.out, O3.out⟩
  case round =>
    obtain ⟨k, n, hk, hnk, rfl, rfl, hn, hQ, hB⟩ := hrel
    have HN := Hid.intro hn
    have QH := Hid.intro hQ
    have BH := Hid.intro hB
    have hsz := hB.size
    clear hn hQ hB
    by_cases hlt : k < L
    · have hlt' : k < l.length := by rw [← HL.out]; exact hlt
      have k0 : (0 : Int) ≤ (k : Int) := by omega
      have k1 : (k : Int) < (L : Int) := by omega
      obtain ⟨pb, off, rfl, _, hc⟩ := HS.out (by omega)
      have J := Hid.intro (fun (W : World) (hW : Below w1.heap.size w1 W) => ((hc k hlt').below B1H.out).below hW)
      obtain ⟨c0, c1, c2, c3, c4, c5, c6⟩ := J.out _ BH.out
      have ST := Hid.intro (fillK_step l hlt')
      have OK := Hid.intro (fillK_ok l k)
      have PU := Hid.intro (twoq_push l[k] QH.out (fun _ f => f.elim) hsz)
      have NO := Hid.intro (fun (e : pushE' (fillK l k) l[k] ≠ 0) => drop_push_no (bed := bed) e)
      have OWN := Hid.intro (fun (e : pushE' (fillK l k) l[k] = 0) (e2 : l[k].bed = bed) => drop_push_own e e2)
      have OTH := Hid.intro (fun (e : pushE' (fillK l k) l[k] = 0) (e2 : l[k].bed ≠ bed) => drop_push_other OK.out e e2)
      generalize l[k] = jb at *
      generalize hpq : pushE' (fillK l k) jb = pe at *
      clear hc hpq OK
      go_wp2_with fail
      refine PU.out.mono ?_
      rintro e w4 ⟨rfl, Q4, C4⟩
      have B4H := Hid.intro (out BH.out (Nat.le_refl _) C4)
      have Q4H := Hid.intro Q4
      obtain ⟨d0, d1, d2, d3, d4, d5, d6⟩ := J.out _ B4H.out
      clear PU Q4 C4 c0 c1 c2 c3 c4 c5 c6 QH
      by_cases hpe : pe = 0
      · subst hpe
        by_cases hd : jb.bed = bed
        · obtain ⟨e1, e2⟩ := OWN.out rfl hd
          have NX : Hid (n + 1 = dropN (fillK l (k + 1)) bed) := by rw [Hid, ST.out, e1, HN.out]
          have QX : Hid (TwoQ (fun _ => False) w1.heap.size w4 a b (fillK l (k + 1)) (dropR (fillK l (k + 1)) bed) (2 * (k + 1))) := by rw [Hid, ST.out, e2]; exact Q4H.out.more (by omega)
          have hdb : (jb.bed == bed) = true := by rw [beq_iff_eq]; exact hd
          clear NO OWN OTH e1 e2 Q4H ST hd
          go_wp2
          go_roundw
          case rel => exact ⟨k + 1, n + 1, by omega, by omega, by go_num, by go_num, NX.out, QX.out, B4H.out⟩
          case measure => simp [intOf]; omega
        · obtain ⟨e1, e2⟩ := OTH.out rfl hd
          have PB := twoq_pushB jb Q4H.out (fun _ f => f.elim) B4H.out.size
          have NX : Hid (n = dropN (fillK l (k + 1)) bed) := by rw [Hid, ST.out, e1, HN.out]
          rw [← e2, ← ST.out] at PB
          have PBH := Hid.intro PB
          have hdb : (jb.bed == bed) = false := by rw [beq_eq_false_iff_ne]; exact hd
          clear NO OWN OTH e1 e2 Q4H ST PB hd
          go_wp2_with fail
          refine PBH.out.mono ?_
          rintro e w5 ⟨rfl, Q5, C5⟩
          have B5H := Hid.intro (out B4H.out (Nat.le_refl _) C5)
          have Q5H := Hid.intro Q5
          clear PBH Q5 C5 d0 d1 d2 d3 d4 d5 d6
          go_wp2
          go_roundw
          case rel => exact ⟨k + 1, n, by omega, by omega, by go_num, rfl, NX.out, Q5H.out, B5H.out⟩
          case measure => simp [intOf]; omega
      · obtain ⟨e1, e2⟩ := NO.out hpe
        have hpb : (pe != 0) = true := by rw [bne_iff_ne]; exact hpe
        have NX : Hid (n = dropN (fillK l (k + 1)) bed) := by rw [Hid, ST.out, e1, HN.out]
        have QX : Hid (TwoQ (fun _ => False) w1.heap.size w4 a b (fillK l (k + 1)) (dropR (fillK l (k + 1)) bed) (2 * (k + 1))) := by rw [Hid, ST.out, e2]; rw [ST.out] at *; exact Q4H.out.more (by omega)
        clear NO OWN OTH e1 e2 Q4H ST
        go_wp2
        go_roundw
        case rel => exact ⟨k + 1, n, by omega, by omega, by go_num, rfl, NX.out, QX.out, B4H.out⟩
        case measure => simp [intOf]; omega
    · obtain rfl : k = L := by omega
      have k1 : ¬ (k : Int) < (k : Int) := by omega
      have DR := twoq_drop bed QH.out (fun _ f => f.elim) hsz
      rw [← HN.out] at DR
      have DRH := Hid.intro DR
      have few : (dropR (fillK l k) bed).length ≤ 40 := (dropR_ok (fillK_ok l k) bed).few
      generalize dropR (fillK l k) bed = x at *
      clear DR QH HN
      have b1 : ((n : Int) == (n : Int)) = true := by simp
      go_wp2_with fail
      refine DRH.out.mono ?_
      rintro e w4 ⟨rfl, Q4, C4⟩
      have B4H := Hid.intro (out BH.out (Nat.le_refl _) C4)
      have LI := Hid.intro (twoq_list Q4)
      have Q4H := Hid.intro Q4
      clear DRH Q4 C4 BH
      go_wp2_with fail
      refine LI.out.mono ?_
      rintro e w5 ⟨v5, rfl, s5, B5⟩
      have B5H := Hid.intro (B4H.out.trans (B5.mono B4H.out.size))
      have Q5H := Hid.intro (Q4H.out.below B5)
      have S5H := Hid.intro s5
      have LI := Hid.intro (twoq_listB Q5H.out)
      obtain ⟨a5, c5, rfl⟩ := s5.len
      clear s5 B5 B4H Q4H
      go_wp2_with fail
      refine LI.out.mono ?_
      rintro e w6 ⟨v6, rfl, s6, B6⟩
      have B6H := Hid.intro (B5H.out.trans (B6.mono B5H.out.size))
      have Q6H := Hid.intro (Q5H.out.below B6)
      have SA := refSame12_any _ _ _ _ x x (by omega) (by omega) w6 (S5H.out.below B6) s6
      rw [decide_eq_true (rfl : x = x)] at SA
      have SAH := Hid.intro SA
      obtain ⟨a6, c6, rfl⟩ := s6.len
      clear LI s6 B6 B5H Q5H S5H SA
      go_wp2_with fail
      refine SAH.out.mono ?_
      rintro e w7 ⟨rfl, B7⟩
      have B7H := Hid.intro (B6H.out.trans (B7.mono B6H.out.size))
      have Q7H := Hid.intro (Q6H.out.below B7)
      have LE := Hid.intro (twoq_left Q7H.out)
      clear SAH B7 B6H Q6H
      go_wp2_with fail
      refine LE.out.mono ?_
      rintro e w8 ⟨rfl, B8⟩
      have B8H := Hid.intro (B7H.out.trans (B8.mono B7H.out.size))
      have LE := Hid.intro (twoq_leftB (Q7H.out.below B8))
      clear B8 B7H Q7H
      go_wp2_with fail
      refine LE.out.mono ?_
      rintro e w9 ⟨rfl, B9⟩
      have B9H := Hid.intro (B1H.out.trans ((B8H.out.trans (B9.mono B8H.out.size)).mono B1H.out.size))
      have b2 : (leftQ x == leftQ x) = true := by simp
      generalize leftQ x = lx at *
      clear LE B9 B8H
      go_wp2
      go_ret
      exact ⟨rfl, B9H.out⟩

theorem walk (ao : Option Addr) (len c : Nat) (l : List Jb) (bed : Int) (w : World) (hz : l.length = len ∧ JsAt (fun _ => True) w (.slice ao len c) l ∧ (∀ j ∈ l, JWf j) ∧ c ≤ maxLen) (_ : (Lit.int .i64 bed).wf = true) :
    Calls Try.prog 8 #[.slice ao len c, .int .i64 bed] w fun e w' => e = .returned (.bool true) ∧ Below w.heap.size w w' := by
  obtain ⟨hl, hr, _, _⟩ := hz
  subst hl
  exact walk_main ao c l bed w hr

set_option maxRecDepth 100000 in
theorem lifted (os : Os) (started : os.Started) (H : Type) (enc : TypeId × Value → H) :
    ReturnsInHanded {} Try.checked os 8 .any (Rows.edfDropsSpec.pre6 enc Try.prog Try.f8 Rows.edfDropsRow.domain false) (Rows.edfDropsSpec.post enc Try.prog Try.f8 false true false false) := by
  refine returnsInHanded_of_change (C := Try.checked) own started (by kernel_rfl) Try.func8
    (ChangeSpec.witness6 (enc := enc) (C := Try.checked) false ⟨#[], #[.slice none 0 0, .int .i64 0], []⟩ 8 (by kernel_rfl) (by kernel_rfl) (by kernel_rfl) (by kernel_rfl)) ?_
  intro W base args ds gs before hval0 hW hcnd _
  have hval : ∀ (j : Nat) t v, Try.f8.params[j]? = some t → args[j]? = some v → Value.okWide Try.prog W .any base t v := hval0
  have hW' := hW
  obtain ⟨p, q, hA0, hV, rfl, hfz, hnd⟩ := hW
  have hA : DataW.TrodAll enc Try.prog W 0 (fun _ => true) true Try.f8.params.toList args.toList ds p := hA0
  rw [Try.params8] at hA hval
  obtain ⟨v0, vs0, d0, ds0, p0, q0, hargs, rfl, rfl, h0, r0⟩ := trodAll_cons hA
  obtain ⟨v1, vs1, d1, ds1, p1, q1, rfl, rfl, rfl, h1, r1⟩ := trodAll_cons r0
  obtain ⟨rfl, rfl, rfl⟩ := trodAll_nil r1
  obtain rfl : args = #[v0, v1] := by cases args; simp_all
  obtain ⟨rfl, rfl⟩ := trodVars_none hV
  have k0 := h0
  have lt0 : ∀ x ∈ p0, x.block < W.heap.size := by obtain ⟨m, hm⟩ := k0; exact DataW.trod_lt m _ _ _ hm
  obtain ⟨a0, len0, cap0, rfl⟩ := okWide_slice Try.underlying26 (hval 0 26 v0 rfl rfl)
  obtain ⟨z0, w0⟩ := open_jobs h0
  obtain ⟨a1, rfl, rfl, rfl, w1⟩ := open_int Try.underlying3 (hval 1 3 v1 rfl rfl) h1
  clear hA0 hval0
  refine (walk a0 len0 cap0 z0 a1 W w0 w1).mono fun e W' ⟨he, bel⟩ => ?_
  subst he
  exact ⟨_, rfl, _, _, _, [], _, [], hW', trodAll_mk1 (shut_bool Try.underlying4 _), (trodAll_cons_mk (Below.trod laidOut (by kernel_rfl) (of_decide_eq_true (by kernel_rfl)) k0 bel lt0) (trodAll_cons_mk (shut_int Try.underlying3 w1) trodAll_mk0)), rfl, bel.frame _, fun h => by cases h⟩

theorem over : Rows.edfDropsRow.holds Try.pinned (OpenSpec.ofChange Rows.edfDropsSpec) :=
  OpenClaim.holds_of_wide 8 Try.f8 rfl rfl rfl rfl rfl rfl rfl ⟨rfl, rfl, rfl, rfl, rfl⟩ rfl rfl rfl rfl rfl (by kernel_rfl) Try.func8 (by kernel_rfl)
    (of_decide_eq_true (by kernel_rfl)) (by unfold Func.isWrapper; first | (rw [if_pos (by decide +kernel)]; kernel_rfl) | (rw [if_neg (by decide +kernel)]; exact ⟨rfl, rfl⟩))
    (fun os started H enc _ => lifted os started H enc)

end Go.Proofs.Ytgcpkploeobafaa.LEdfDrops

namespace Go.Proofs.Ytgcpkploeobafaa
theorem edfDrops_holds : Rows.EdfDropsSaid := LEdfDrops.over
#print axioms edfDrops_holds
end Go.Proofs.Ytgcpkploeobafaa
