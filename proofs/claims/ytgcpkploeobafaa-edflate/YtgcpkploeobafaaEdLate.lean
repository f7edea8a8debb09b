/- The statement EdfLate: who is late goes, and nobody else; behind it none is. -/
import Derived.Test.YtgcpkploeobafaaEdAlive
import Derived.Test.YtgcpkploeobafaaEdArg
import Derived.Test.YtgcpkploeobafaaEdFill
namespace Go.Proofs.Ytgcpkploeobafaa
open Go.ChangeShapes Go.WideShapes Go.ChangeAt Go.RowKit Go.Joins
open Bt

namespace LEdfLate

set_option maxRecDepth 100000 in
set_option maxHeartbeats 4000000 in
theorem walk_main (ao : Option Addr) (c : Nat) (l : List Jb) (now : Int) (w : World) (h : JsAt (fun _ => True) w (.slice ao l.length c) l) :
    Calls Try.prog 7 #[.slice ao l.length c, .int .i64 now] w fun e w' => e = .returned (.bool true) ∧ Below w.heap.size w w' := by
  have AL := Hid.intro (alive12_any w)
  obtain ⟨ao', c', e0, _, hs⟩ := h
  simp only [Value.slice.injEq] at e0
  obtain ⟨rfl, _, rfl⟩ := e0
  have HS := Hid.intro hs
  obtain ⟨L, hL⟩ : ∃ L, L = l.length := ⟨_, rfl⟩
  have HL := Hid.intro hL
  rw [← hL]
  clear hL hs
  go_enter Try.func7, Try.ntmps7
  go_wp2_with fail
  refine AL.out.mono ?_
  rintro e w1 ⟨rfl, B1⟩
  have B1H := Hid.intro B1
  clear AL B1
  by_cases hl : 60 < L
  · have hl' : (60 : Int) < (L : Int) := by omega
    go_wp2
    go_ret
    exact ⟨rfl, B1H.out⟩
  have hl' : ¬ (60 : Int) < (L : Int) := by omega
  go_wp2_with fail
  refine (enew_any w1).mono ?_
  rintro e w2 ⟨b, F, rfl, hS, hF, B2⟩
  have L2 := Hid.intro (ql_new hS hF B2)
  have B2H := Hid.intro B2
  clear hS hF B2
  go_wp2_with fail
  go_loopw [6, 7] (fun nv iv ws => ∃ (k n : Nat), k ≤ L ∧ n ≤ k ∧ iv = .int .i64 k ∧ nv = .int .i64 n ∧ n = (lateD (fillK l k) now).length ∧ QL (fun k => k < w1.heap.size) w2 ws b (fillK l k) k) (fun _ iv _ => L - (intOf iv).toNat)
  case atStart => exact ⟨0, 0, by omega, by omega, rfl, rfl, rfl, L2.out⟩
  case round =>
    obtain ⟨k, n, hk, hnk, rfl, rfl, hn, hQ⟩ := hrel
    have HN := Hid.intro hn
    have QH := Hid.intro hQ
    clear hn hQ
    by_cases hlt : k < L
    · have hlt' : k < l.length := by rw [← HL.out]; exact hlt
      have k0 : (0 : Int) ≤ (k : Int) := by omega
      have k1 : (k : Int) < (L : Int) := by omega
      obtain ⟨pb, off, rfl, _, hc⟩ := HS.out (by omega)
      have j0 := (hc k hlt').below B1H.out
      have blt : pb < w1.heap.size := cell_lt j0.1
      have j1 := Hid.intro ((j0.below B2H.out).chg QH.out.chg (fun q => q blt))
      obtain ⟨c0, c1, c2, c3, c4, c5, c6⟩ := j1.out
      have ST := Hid.intro (fillK_step l hlt')
      have PU := Hid.intro (qlpush l[k] QH.out)
      have YES := Hid.intro (fun (e : pushE' (fillK l k) l[k] = 0) => late_push_yes (now := now) e)
      have NO := Hid.intro (fun (e : pushE' (fillK l k) l[k] ≠ 0) => late_push_no (now := now) e)
      have J2 : Hid (∀ W, QL (fun k => k < w1.heap.size) w2 W b (pushQ (fillK l k) l[k]) (k + 1) → JobAt W pb (off + k * 7) l[k]) := fun W hW => (j0.below B2H.out).chg hW.chg (fun q => q blt)
      generalize l[k] = jb at *
      generalize pushE' (fillK l k) jb = pe at *
      clear hc j0 j1
      go_wp2_with fail
      refine PU.out.mono ?_
      rintro e w4 ⟨rfl, Q4⟩
      obtain ⟨d0, d1, d2, d3, d4, d5, d6⟩ := J2.out _ Q4
      have Q4H := Hid.intro Q4
      clear PU Q4 J2 c0 c1 c2 c3 c4 c5 c6
      by_cases hpe : pe = 0
      · have e1 := YES.out hpe
        subst hpe
        by_cases hd : jb.dl ≤ now
        · rw [if_pos hd] at e1
          have NX : Hid (n + 1 = (lateD (fillK l (k + 1)) now).length) := by rw [Hid, ST.out, e1, HN.out]
          have QX : Hid (QL (fun k => k < w1.heap.size) w2 w4 b (fillK l (k + 1)) (k + 1)) := by rw [Hid, ST.out]; exact Q4H.out
          clear YES NO e1 Q4H ST
          go_wp2
          go_roundw
          case rel => exact ⟨k + 1, n + 1, by omega, by omega, by go_num, by go_num, NX.out, QX.out⟩
          case measure => simp [intOf]; omega
        · rw [if_neg hd] at e1
          have NX : Hid (n = (lateD (fillK l (k + 1)) now).length) := by rw [Hid, ST.out, e1, HN.out]; rfl
          have QX : Hid (QL (fun k => k < w1.heap.size) w2 w4 b (fillK l (k + 1)) (k + 1)) := by rw [Hid, ST.out]; exact Q4H.out
          clear YES NO e1 Q4H ST
          go_wp2
          go_roundw
          case rel => exact ⟨k + 1, n, by omega, by omega, by go_num, rfl, NX.out, QX.out⟩
          case measure => simp [intOf]; omega
      · have e1 := NO.out hpe
        have hpb : (pe == 0) = false := by rw [beq_eq_false_iff_ne]; exact hpe
        have NX : Hid (n = (lateD (fillK l (k + 1)) now).length) := by rw [Hid, ST.out, e1, HN.out]
        have QX : Hid (QL (fun k => k < w1.heap.size) w2 w4 b (fillK l (k + 1)) (k + 1)) := by rw [Hid, ST.out]; exact Q4H.out
        clear YES NO e1 Q4H ST
        go_wp2
        go_roundw
        case rel => exact ⟨k + 1, n, by omega, by omega, by go_num, rfl, NX.out, QX.out⟩
        case measure => simp [intOf]; omega
    · obtain rfl : k = L := by omega
      have k1 : ¬ (k : Int) < (k : Int) := by omega
      have LI := Hid.intro (qllist QH.out)
      have HO := Hid.intro (fillK_ok l k)
      have LEN := Hid.intro (late_len (fillK l k) now)
      have AG := Hid.intro (late_again (fillK l k) now)
      have AB := Hid.intro (fun (a : Jb) => lateR_above (x := fillK l k) (now := now) (a := a))
      have few : (fillK l k).length ≤ 40 := HO.out.few
      generalize fillK l k = x at *
      clear HO
      go_wp2_with fail
      refine LI.out.mono ?_
      rintro e w4 ⟨v4, rfl, s4, B4⟩
      obtain ⟨a4, c4, rfl⟩ := s4.len
      have Q4 := QH.out.below B4
      have LA := Hid.intro (qllate now Q4)
      clear LI s4 B4 Q4 QH
      go_wp2_with fail
      refine LA.out.mono ?_
      rintro e w5 ⟨v5, G5, rfl, _, s5, L5, M5⟩
      obtain ⟨a5, c5, rfl⟩ := s5.len
      have LI := Hid.intro (qllist M5)
      have M5H := Hid.intro M5
      clear LA s5 L5 M5
      go_wp2_with fail
      refine LI.out.mono ?_
      rintro e w6 ⟨v6, rfl, s6, B6⟩
      have L6 := M5H.out.grow B6
      have S6H := Hid.intro s6
      have B6H := Hid.intro B6
      have LA := qllate now L6
      rw [AG.out.1, AG.out.2] at LA
      have LAH := Hid.intro LA
      obtain ⟨a6, c6, rfl⟩ := s6.len
      have hlen := LEN.out
      have few2 : (lateR x now).length ≤ 40 := by omega
      have few1 : (lateD x now).length ≤ 40 := by omega
      have HND := HN.out
      obtain ⟨D, hD⟩ : ∃ D, D = (lateD x now).length := ⟨_, rfl⟩
      obtain ⟨E, hE⟩ : ∃ E, E = (lateR x now).length := ⟨_, rfl⟩
      rw [← hD] at HND hlen few1 ⊢
      rw [← hE] at hlen few2 ⊢
      obtain rfl : n = D := HND
      obtain ⟨X, hX⟩ : ∃ X, X = x.length := ⟨_, rfl⟩
      rw [← hX] at hlen few ⊢
      have HE := Hid.intro hE
      have b1 : ((n : Int) != (n : Int)) = false := by simp
      have w1' : (X : Int) - (n : Int) = (E : Int) := by omega
      have b2 : ((E : Int) != (E : Int)) = false := by simp
      clear LI s6 B6 L6 LA hD hE hX LEN AG HN hlen
      go_wp2_with fail
      refine LAH.out.mono ?_
      rintro e w7 ⟨v7, G7, rfl, _, s7, L7, M7⟩
      obtain ⟨a7, c7, rfl⟩ := s7.len
      have S7H := Hid.intro (S6H.out.kept M7.chg (fun k hk q => q (.inr hk)))
      have BW := Hid.intro (B1H.out.trans ((B2H.out.mono B1H.out.size).trans ((M5H.out.rebase B6H.out M7 (fun k hk => .inl hk)).out (B := w.heap.size) (Nat.le_trans B1H.out.size B2H.out.size) (fun k hk => Nat.lt_of_lt_of_le hk B1H.out.size))))
      clear LAH s7 L7 M7 M5H B6H S6H
      go_wp2_with fail
      go_loop [11] (fun iv => ∃ t : Nat, t ≤ E ∧ iv = .int .i64 t) (fun iv => E - (intOf iv).toNat)
      case atStart => exact ⟨0, by omega, rfl⟩
      case round =>
        obtain ⟨t, ht, rfl⟩ := hrel
        by_cases htl : t < E
        · have htl' : t < (lateR x now).length := by rw [← HE.out]; exact htl
          have t0 : (0 : Int) ≤ (t : Int) := by omega
          have t1 : (t : Int) < (E : Int) := by omega
          obtain ⟨ao7, c7', e7, _, hs7⟩ := S7H.out
          simp only [Value.slice.injEq] at e7
          obtain ⟨rfl, _, rfl⟩ := e7
          obtain ⟨p7, o7, rfl, _, hc7⟩ := hs7 (by omega)
          obtain ⟨d0, d1, d2, d3, d4, d5, d6⟩ := hc7 t htl'
          have nb := AB.out _ (List.getElem_mem htl')
          generalize (lateR x now)[t] = jb at *
          clear hs7 hc7
          go_wp2
          go_round
          case rel => exact ⟨t + 1, by omega, by go_num⟩
          case measure => simp [intOf]; omega
        · obtain rfl : t = E := by omega
          have t1 : ¬ (t : Int) < (t : Int) := by omega
          go_wp2
          go_ret
          exact ⟨rfl, BW.out⟩

theorem walk (ao : Option Addr) (len c : Nat) (l : List Jb) (now : Int) (w : World) (hz : l.length = len ∧ JsAt (fun _ => True) w (.slice ao len c) l ∧ (∀ j ∈ l, JWf j) ∧ c ≤ maxLen) (_ : (Lit.int .i64 now).wf = true) :
    Calls Try.prog 7 #[.slice ao len c, .int .i64 now] w fun e w' => e = .returned (.bool true) ∧ Below w.heap.size w w' := by
  obtain ⟨hl, hr, _, _⟩ := hz
  subst hl
  exact walk_main ao c l now w hr

set_option maxRecDepth 100000 in
theorem lifted (os : Os) (started : os.Started) (H : Type) (enc : TypeId × Value → H) :
    ReturnsInHanded {} Try.checked os 7 .any (Rows.edfLateSpec.pre6 enc Try.prog Try.f7 Rows.edfLateRow.domain false) (Rows.edfLateSpec.post enc Try.prog Try.f7 false true false false) := by
  refine returnsInHanded_of_change (C := Try.checked) own started (by kernel_rfl) Try.func7
    (ChangeSpec.witness6 (enc := enc) (C := Try.checked) false ⟨#[], #[.slice none 0 0, .int .i64 0], []⟩ 8 (by kernel_rfl) (by kernel_rfl) (by kernel_rfl) (by kernel_rfl)) ?_
  intro W base args ds gs before hval0 hW hcnd _
  have hval : ∀ (j : Nat) t v, Try.f7.params[j]? = some t → args[j]? = some v → Value.okWide Try.prog W .any base t v := hval0
  have hW' := hW
  obtain ⟨p, q, hA0, hV, rfl, hfz, hnd⟩ := hW
  have hA : DataW.TrodAll enc Try.prog W 0 (fun _ => true) true Try.f7.params.toList args.toList ds p := hA0
  rw [Try.params7] at hA hval
  obtain ⟨v0, vs0, d0, ds0, p0, q0, hargs, rfl, rfl, h0, r0⟩ := trodAll_cons hA
  obtain ⟨v1, vs1, d1, ds1, p1, q1, rfl, rfl, rfl, h1, r1⟩ := trodAll_cons r0
  obtain ⟨rfl, rfl, rfl⟩ := trodAll_nil r1
  obtain rfl : args = #[v0, v1] := by cases args; simp_all
  obtain ⟨rfl, rfl⟩ := trodVars_none hV
  have k0 := h0
  have lt0 : ∀ x ∈ p0, x.block < W.heap.size := by obtain ⟨m, hm⟩ := k0; exact DataW.trod_lt m _ _ _ hm
  obtain ⟨a0, len0, cap0, rfl⟩ := okWide_slice Try.underlying26 (hval 0 26 v0 rfl rfl)
  obtain ⟨z0, w0⟩ := open_jobs h0
  obtain ⟨a1, rfl, rfl, rfl, w1⟩ := open_int Try.underlying3 (hval 1 3 v1 rfl rfl) h1
  clear hA0 hval0
  refine (walk a0 len0 cap0 z0 a1 W w0 w1).mono fun e W' ⟨he, bel⟩ => ?_
  subst he
  exact ⟨_, rfl, _, _, _, [], _, [], hW', trodAll_mk1 (shut_bool Try.underlying4 _), (trodAll_cons_mk (Below.trod laidOut (by kernel_rfl) (of_decide_eq_true (by kernel_rfl)) k0 bel lt0) (trodAll_cons_mk (shut_int Try.underlying3 w1) trodAll_mk0)), rfl, bel.frame _, fun h => by cases h⟩

theorem over : Rows.edfLateRow.holds Try.pinned (OpenSpec.ofChange Rows.edfLateSpec) :=
  OpenClaim.holds_of_wide 7 Try.f7 rfl rfl rfl rfl rfl rfl rfl ⟨rfl, rfl, rfl, rfl, rfl⟩ rfl rfl rfl rfl rfl (by kernel_rfl) Try.func7 (by kernel_rfl)
    (of_decide_eq_true (by kernel_rfl)) (by unfold Func.isWrapper; first | (rw [if_pos (by decide +kernel)]; kernel_rfl) | (rw [if_neg (by decide +kernel)]; exact ⟨rfl, rfl⟩))
    (fun os started H enc _ => lifted os started H enc)

end Go.Proofs.Ytgcpkploeobafaa.LEdfLate

namespace Go.Proofs.Ytgcpkploeobafaa
theorem edfLate_holds : Rows.EdfLateSaid := LEdfLate.over
#print axioms edfLate_holds
end Go.Proofs.Ytgcpkploeobafaa
