/- The statement EdfSorted: all that wait are done in the order in which they are listed, whenever it is worked. -/
import Derived.Test.YtgcpkploeobafabEdAlive
import Derived.Test.YtgcpkploeobafabEdArg
import Derived.Test.YtgcpkploeobafabEdFill
import Derived.Test.YtgcpkploeobafabEdEq
import Derived.BigQuiet
namespace Go.Proofs.Ytgcpkploeobafab
open Go.ChangeShapes Go.WideShapes Go.ChangeAt Go.RowKit Go.Joins
open Bt

namespace LEdfSorted

theorem left_push_yes {x : List Jb} {j : Jb} (h : pushE' x j = 0) : leftQ (pushQ x j) = leftQ x + j.left := by rw [pushQ_yes h, leftQ_ins]
theorem left_push_no {x : List Jb} {j : Jb} (h : pushE' x j ≠ 0) : leftQ (pushQ x j) = leftQ x := by rw [pushQ_no h]

theorem cells_of {R : Nat → Prop} {w : World} {ao : Option Addr} {n c : Nat} {l : List Jb} (h : JsAt R w (.slice ao n c) l) (h0 : 0 < l.length) : ∃ pb off, ao = some ⟨pb, off, none⟩ ∧ R pb ∧ ∀ t, (ht : t < l.length) → JobAt w pb (off + t * 7) l[t] := by
  obtain ⟨ao', c', e, _, hp⟩ := h
  simp only [Value.slice.injEq] at e
  obtain ⟨rfl, _, rfl⟩ := e
  exact hp h0

set_option maxRecDepth 100000 in
set_option maxHeartbeats 4000000 in
theorem walk_main (ao : Option Addr) (c : Nat) (l : List Jb) (w : World) (h : JsAt (fun _ => True) w (.slice ao l.length c) l) :
    Calls Try.prog 3 #[.slice ao l.length c] w fun e w' => e = .returned (.bool true) ∧ Below w.heap.size w w' := by
  have AL := Hid.intro (alive12_any w)
  obtain ⟨ao', c', e0, _, hs⟩ := h
  simp only [Value.slice.injEq] at e0
  obtain ⟨rfl, _, rfl⟩ := e0
  have HS := Hid.intro hs
  obtain ⟨L, hL⟩ : ∃ L, L = l.length := ⟨_, rfl⟩
  have HL := Hid.intro hL
  rw [← hL]
  clear hL hs
  go_enter Try.func3, Try.ntmps3
  go_wp2_with fail
  refine AL.out.mono ?_
  rintro e w1 ⟨rfl, B1⟩
  have B1H := Hid.intro B1
  clear AL B1
  by_cases hl : 40 < L
  · have hl' : (40 : Int) < (L : Int) := by omega
    go_wp2
    go_ret
    exact ⟨rfl, B1H.out⟩
  have hl' : ¬ (40 : Int) < (L : Int) := by omega
  go_wp2_with fail
  refine (enew_any w1).mono ?_
  rintro e w2 ⟨b, F, rfl, hS, hF, B2⟩
  have L2 := Hid.intro (ql_new hS hF B2)
  have B2H := Hid.intro B2
  clear hS hF B2
  go_wp2_with fail
  go_loopw [4, 5] (fun nv iv ws => ∃ (k n : Nat), k ≤ L ∧ n ≤ 40000 ∧ iv = .int .i64 k ∧ nv = .int .i64 n ∧ (n : Int) = leftQ (fillK l k) ∧ QL (fun k => k < w1.heap.size) w2 ws b (fillK l k) k) (fun _ iv _ => L - (intOf iv).toNat)
  case atStart => exact ⟨0, 0, by omega, by omega, rfl, rfl, rfl, L2.out⟩
  case round =>
    obtain ⟨k, n, hk, hnk, rfl, rfl, hn, hQ⟩ := hrel
    have HN := Hid.intro hn
    have QH := Hid.intro hQ
    clear hn hQ
    by_cases hlt : k < L
    · have hlt' : k < l.length := by rw [← HL.out]; exact hlt
      have k0 : (0 : Int) ≤ (k : Int) := by omega
      have k1 : (k : Int) < (L : Int) := by omega
      obtain ⟨pb, off, rfl, _, hc⟩ := HS.out (by omega)
      have j0 := (hc k hlt').below B1H.out
      have blt : pb < w1.heap.size := cell_lt j0.1
      obtain ⟨c0, c1, c2, c3, c4, c5, c6⟩ := (j0.below B2H.out).chg QH.out.chg (fun q => q blt)
      have ST := Hid.intro (fillK_step l hlt')
      have OK1 := Hid.intro (fillK_ok l (k + 1))
      have PU := Hid.intro (qlpush l[k] QH.out)
      have YES := Hid.intro (fun (e : pushE' (fillK l k) l[k] = 0) => And.intro (push_parts e).1 (left_push_yes e))
      have NO := Hid.intro (fun (e : pushE' (fillK l k) l[k] ≠ 0) => left_push_no e)
      have J2 : Hid (∀ W, QL (fun k => k < w1.heap.size) w2 W b (pushQ (fillK l k) l[k]) (k + 1) → JobAt W pb (off + k * 7) l[k]) := fun W hW => (j0.below B2H.out).chg hW.chg (fun q => q blt)
      generalize l[k] = jb at *
      generalize pushE' (fillK l k) jb = pe at *
      clear hc j0
      go_wp2_with fail
      refine PU.out.mono ?_
      rintro e w4 ⟨rfl, Q4⟩
      obtain ⟨d0, d1, d2, d3, d4, d5, d6⟩ := J2.out _ Q4
      have QX : Hid (QL (fun k => k < w1.heap.size) w2 w4 b (fillK l (k + 1)) (k + 1)) := by rw [Hid, ST.out]; exact Q4
      clear PU Q4 J2 c0 c1 c2 c3 c4 c5 c6
      by_cases hpe : pe = 0
      · obtain ⟨hm, e1⟩ := YES.out hpe
        subst hpe
        have hm1 := (mayJ_true hm).1
        obtain ⟨A, hA⟩ := Int.eq_ofNat_of_zero_le (show 0 ≤ jb.left by omega)
        rw [hA] at d6
        have NX : Hid (((n + A : Nat) : Int) = leftQ (fillK l (k + 1))) := by rw [Hid, ST.out, e1, ← HN.out, hA]; push_cast; rfl
        have hb : n + A ≤ 40000 := by
          have f1 := leftQ_bound OK1.out.all
          have f2 := OK1.out.few
          have := NX.out
          omega
        have hA1 : A ≤ 1000 := by omega
        clear YES NO e1 ST OK1 hm hm1 hA
        go_wp2
        go_roundw
        case rel => exact ⟨k + 1, n + A, by omega, by omega, by go_num, by go_num, NX.out, QX.out⟩
        case measure => simp [intOf]; omega
      · have e1 := NO.out hpe
        have hpb : (pe == 0) = false := by rw [beq_eq_false_iff_ne]; exact hpe
        have NX : Hid ((n : Int) = leftQ (fillK l (k + 1))) := by rw [Hid, ST.out, e1, HN.out]
        clear YES NO e1 ST OK1
        go_wp2
        go_roundw
        case rel => exact ⟨k + 1, n, by omega, by omega, by go_num, rfl, NX.out, QX.out⟩
        case measure => simp [intOf]; omega
    · obtain rfl : k = L := by omega
      have k1 : ¬ (k : Int) < (k : Int) := by omega
      have HO := Hid.intro (fillK_ok l k)
      have LI := Hid.intro (qllist QH.out)
      generalize fillK l k = x at *
      have WA := work_all HO.out.all
      have few := HO.out.few
      have e0 : (leftQ x).toNat = n := by rw [← HN.out]; rfl
      rw [e0] at WA
      have WAH := Hid.intro WA
      clear WA e0
      go_wp2_with fail
      refine LI.out.mono ?_
      rintro e w4 ⟨v4, rfl, s4, B4⟩
      have Q4 := QH.out.grow B4
      have Q4' := Hid.intro (QH.out.below B4)
      have WK := qlwork (n : Int) Q4
      rw [Int.toNat_natCast, WAH.out.1, WAH.out.2.1, WAH.out.2.2] at WK
      have WKH := Hid.intro WK
      have S4H := Hid.intro s4
      obtain ⟨a4, c4, rfl⟩ := s4.len
      have B4H := Hid.intro B4
      clear LI s4 B4 Q4 WK
      go_wp2_with fail
      refine WKH.out.mono ?_
      rintro e w5 ⟨v5, G5, rfl, g5, s5, L5, M5⟩
      have X5 := Hid.intro (S4H.out.kept M5.chg (fun k hk q => q (.inr hk)))
      have D5 := Hid.intro s5
      have BW := Hid.intro (B1H.out.trans ((B2H.out.mono B1H.out.size).trans ((QH.out.rebase B4H.out M5 (fun k hk => .inl hk)).out (B := w.heap.size) (Nat.le_trans B1H.out.size B2H.out.size) (fun k hk => Nat.lt_of_lt_of_le hk B1H.out.size))))
      have LE := Hid.intro (qlleft L5)
      obtain ⟨a5, c5, rfl⟩ := s5.len
      obtain ⟨X, hX⟩ : ∃ X, X = x.length := ⟨_, rfl⟩
      have HX := Hid.intro hX
      have hml : (x.map zeroJ).length = X := by rw [List.length_map, hX]
      rw [hml] at D5 ⊢
      rw [← hX] at few X5 ⊢
      have b1 : ((X : Int) != (X : Int)) = false := by simp
      clear WKH g5 s5 L5 M5 hX S4H B4H Q4' WAH HN hml
      go_wp2_with fail
      refine LE.out.mono ?_
      rintro e w6 ⟨rfl, B6⟩
      have X6 := Hid.intro (X5.out.below B6)
      have D6 := Hid.intro (D5.out.below B6)
      have BW6 := Hid.intro (BW.out.trans (B6.mono BW.out.size))
      clear LE B6 X5 D5 BW
      go_wp2_with fail
      go_loopw [9] (fun iv ws => ∃ (t : Nat), t ≤ X ∧ iv = .int .i64 t ∧ Below w6.heap.size w6 ws) (fun iv _ => X - (intOf iv).toNat)
      case atStart => exact ⟨0, by omega, rfl, Below.refl _ _⟩
      case round =>
        obtain ⟨t, ht, rfl, hB⟩ := hrel
        have BH := Hid.intro hB
        clear hB
        by_cases htx : t < X
        · have htx' : t < x.length := by rw [← HX.out]; exact htx
          have t0 : (0 : Int) ≤ (t : Int) := by omega
          have t1 : (t : Int) < (X : Int) := by omega
          have htm : t < (x.map zeroJ).length := by rw [List.length_map]; exact htx'
          obtain ⟨px, ox, ex, _, hcx⟩ := cells_of X6.out (by omega)
          obtain ⟨pd, od, ed, _, hcd⟩ := cells_of D6.out (by omega)
          subst ex ed
          obtain ⟨c0, c1, c2, c3, c4, c5, c6⟩ := (hcx t htx').below BH.out
          have jd := (hcd t htm).below BH.out
          rw [List.getElem_map] at jd
          generalize x[t] = jb at *
          obtain ⟨b0, b1, b2, b3, b4, b5, b6⟩ := jb
          simp only at c0 c1 c2 c3 c4 c5 c6
          have BA := (Below.refl _ wr).alloc (Nat.le_refl _) (.cells #[.int .i64 b0, .int .i64 b1, .int .i64 b2, .int .i64 b3, .int .i64 b4, .int .i64 b5, .int .i64 0] 31)
          have nb := heap_alloc_new wr (.cells #[.int .i64 b0, .int .i64 b1, .int .i64 b2, .int .i64 b3, .int .i64 b4, .int .i64 b5, .int .i64 0] 31)
          obtain ⟨A, hA⟩ : ∃ A, A = wr.alloc (.cells #[.int .i64 b0, .int .i64 b1, .int .i64 b2, .int .i64 b3, .int .i64 b4, .int .i64 b5, .int .i64 0] 31) := ⟨_, rfl⟩
          have HA := Hid.intro hA
          rw [← hA] at BA nb
          have y0 : A.cell? ⟨wr.heap.size, 0, none⟩ = some (.int .i64 b0) := by rw [cell_of_row _ _ 0 _ _ _ nb]; rfl
          have y1 : A.cell? ⟨wr.heap.size, 1, none⟩ = some (.int .i64 b1) := by rw [cell_of_row _ _ 1 _ _ _ nb]; rfl
          have y2 : A.cell? ⟨wr.heap.size, 2, none⟩ = some (.int .i64 b2) := by rw [cell_of_row _ _ 2 _ _ _ nb]; rfl
          have y3 : A.cell? ⟨wr.heap.size, 3, none⟩ = some (.int .i64 b3) := by rw [cell_of_row _ _ 3 _ _ _ nb]; rfl
          have y4 : A.cell? ⟨wr.heap.size, 4, none⟩ = some (.int .i64 b4) := by rw [cell_of_row _ _ 4 _ _ _ nb]; rfl
          have y5 : A.cell? ⟨wr.heap.size, 5, none⟩ = some (.int .i64 b5) := by rw [cell_of_row _ _ 5 _ _ _ nb]; rfl
          have y6 : A.cell? ⟨wr.heap.size, 6, none⟩ = some (.int .i64 0) := by rw [cell_of_row _ _ 6 _ _ _ nb]; rfl
          obtain ⟨z0, z1, z2, z3, z4, z5, z6⟩ := jd.below BA
          simp only [zeroJ] at z0 z1 z2 z3 z4 z5 z6
          have se := fun (W : World) => job_eq b0 b1 b2 b3 b4 b5 0 b0 b1 b2 b3 b4 b5 0 W
          have sb : (b0 == b0 && ((b1 == b1 && (b2 == b2 && b3 == b3)) && (b4 == b4 && (b5 == b5 && (0 : Int) == 0)))) = true := by simp
          rw [sb] at se
          have BX := Hid.intro (BH.out.trans (BA.mono BH.out.size))
          clear hcx hcd jd nb BA hA sb
          go_wp2_with fail
          rw [← HA.out]
          go_big_quiet (fail)
          have BQ : Hid (Below w6.heap.size w6 (A.drewN nq)) := ⟨BX.out.os, BX.out.tape, BX.out.output, BX.out.size, BX.out.block⟩
          clear BX
          go_wp2
          go_roundw
          case rel => exact ⟨t + 1, by omega, by go_num, BQ.out⟩
          case measure => simp [intOf]; omega
        · obtain rfl : t = X := by omega
          have t1 : ¬ (t : Int) < (t : Int) := by omega
          go_wp2
          go_ret
          exact ⟨rfl, BW6.out.trans (BH.out.mono BW6.out.size)⟩

theorem walk (ao : Option Addr) (len c : Nat) (l : List Jb) (w : World) (hz : l.length = len ∧ JsAt (fun _ => True) w (.slice ao len c) l ∧ (∀ j ∈ l, JWf j) ∧ c ≤ maxLen) :
    Calls Try.prog 3 #[.slice ao len c] w fun e w' => e = .returned (.bool true) ∧ Below w.heap.size w w' := by
  obtain ⟨hl, hr, _, _⟩ := hz
  subst hl
  exact walk_main ao c l w hr

set_option maxRecDepth 100000 in
theorem lifted (os : Os) (started : os.Started) (H : Type) (enc : TypeId × Value → H) :
    ReturnsInHanded {} Try.checked os 3 .any (Rows.edfSortedSpec.pre6 enc Try.prog Try.f3 Rows.edfSortedRow.domain false) (Rows.edfSortedSpec.post enc Try.prog Try.f3 false true false false) := by
  refine returnsInHanded_of_change (C := Try.checked) own started (by kernel_rfl) Try.func3
    (ChangeSpec.witness6 (enc := enc) (C := Try.checked) false ⟨#[], #[.slice none 0 0], []⟩ 8 (by kernel_rfl) (by kernel_rfl) (by kernel_rfl) (by kernel_rfl)) ?_
  intro W base args ds gs before hval0 hW hcnd _
  have hval : ∀ (j : Nat) t v, Try.f3.params[j]? = some t → args[j]? = some v → Value.okWide Try.prog W .any base t v := hval0
  have hW' := hW
  obtain ⟨p, q, hA0, hV, rfl, hfz, hnd⟩ := hW
  have hA : DataW.TrodAll enc Try.prog W 0 (fun _ => true) true Try.f3.params.toList args.toList ds p := hA0
  rw [Try.params3] at hA hval
  obtain ⟨v0, vs0, d0, ds0, p0, q0, hargs, rfl, rfl, h0, r0⟩ := trodAll_cons hA
  obtain ⟨rfl, rfl, rfl⟩ := trodAll_nil r0
  obtain rfl : args = #[v0] := by cases args; simp_all
  obtain ⟨rfl, rfl⟩ := trodVars_none hV
  have k0 := h0
  have lt0 : ∀ x ∈ p0, x.block < W.heap.size := by obtain ⟨m, hm⟩ := k0; exact DataW.trod_lt m _ _ _ hm
  obtain ⟨a0, len0, cap0, rfl⟩ := okWide_slice Try.underlying22 (hval 0 22 v0 rfl rfl)
  obtain ⟨z0, w0⟩ := open_jobs h0
  clear hA0 hval0
  refine (walk a0 len0 cap0 z0 W w0).mono fun e W' ⟨he, bel⟩ => ?_
  subst he
  exact ⟨_, rfl, _, _, _, [], _, [], hW', trodAll_mk1 (shut_bool Try.underlying4 _), (trodAll_cons_mk (Below.trod laidOut (by kernel_rfl) (of_decide_eq_true (by kernel_rfl)) k0 bel lt0) trodAll_mk0), rfl, bel.frame _, fun h => by cases h⟩

theorem over : Rows.edfSortedRow.holds Try.pinned (OpenSpec.ofChange Rows.edfSortedSpec) :=
  OpenClaim.holds_of_wide 3 Try.f3 rfl rfl rfl rfl rfl rfl rfl ⟨rfl, rfl, rfl, rfl, rfl⟩ rfl rfl rfl rfl rfl (by kernel_rfl) Try.func3 (by kernel_rfl)
    (of_decide_eq_true (by kernel_rfl)) (by unfold Func.isWrapper; first | (rw [if_pos (by decide +kernel)]; kernel_rfl) | (rw [if_neg (by decide +kernel)]; exact ⟨rfl, rfl⟩))
    (fun os started H enc _ => lifted os started H enc)

end Go.Proofs.Ytgcpkploeobafab.LEdfSorted

namespace Go.Proofs.Ytgcpkploeobafab
theorem edfSorted_holds : Rows.EdfSortedSaid := LEdfSorted.over
#print axioms edfSorted_holds
end Go.Proofs.Ytgcpkploeobafab
