/- The statement EdfUnits: units that are worked one by one do the same as at once. -/
import Derived.Test.YtgcpkploeobafaaEdAlive
import Derived.Test.YtgcpkploeobafaaEdArg
import Derived.Test.YtgcpkploeobafaaEdFill
import Derived.Test.YtgcpkploeobafaaEdTwoQ
import Derived.Test.YtgcpkploeobafaaEdApp
import Derived.Test.YtgcpkploeobafaaEdRefS
import Derived.Deep.RegionHeld3
namespace Go.Proofs.Ytgcpkploeobafaa
open Go.ChangeShapes Go.WideShapes Go.ChangeAt Go.RowKit Go.Joins
open Bt

namespace LEdfUnits

theorem out {B : Nat} {R : Nat → Prop} {w0 w w' : World} (h0 : Below B w0 w) (hB : B ≤ w0.heap.size) (h : Chg (fun k => B ≤ k ∧ ¬ R k) w w') : Below B w0 w' := h0.trans (h.below (Nat.le_trans hB h0.size) (fun _ hk => hk.1))

/-- What stands behind t units. -/
structure Un (w1 : World) (B : Nat) (a b : Nat) (X : List Jb) (U : Nat) (N : Nat → Prop) (vx : Value) (t m : Nat) (yv : Value) (ws : World) : Prop where
  held : ∃ R : Nat → Prop, (∀ k, yv.ownBlock = some k → R k ∧ ¬ N k ∧ B ≤ k) ∧ (∀ k, N k → R k) ∧ (∀ k, R k → k < ws.heap.size) ∧ TwoQ R B ws a b (workR X U) (workR X t) 1000
  len : m = (workD X t).length
  own : ws.ownsRow 0 38 7 yv m (jcells (workD X t))
  xs : JsAt N ws vx (workD X U)
  low : Below B w1 ws

/-- The other queue works one unit. -/
theorem Un.work {w1 ws : World} {B a b : Nat} {X : List Jb} {U : Nat} {N : Nat → Prop} {vx : Value} {t m : Nat} {yv : Value} (hB : B ≤ w1.heap.size) (hX : QOk X) (h : Un w1 B a b X U N vx t m yv ws) :
    Calls Try.prog 11 #[.pointer (some ⟨b, 0, none⟩), .int .i64 1] ws fun e w' => ∃ ao c n n' ds, e = .returned (.tuple #[.slice ao n c, .int .i64 ((n' : Nat) : Int)]) ∧ n = List.length ds ∧ JsAt (fun _ => True) w' (.slice ao n c) ds ∧ (ao = none → c = 0) ∧ m + n ≤ 100000 ∧
      w'.ownsRow 0 38 7 yv m (jcells (workD X t)) ∧
      ∀ v' w'', w''.ownsRow 0 38 7 v' (m + n) (jcells (workD X t ++ ds)) → w'.grownBy w'' yv.ownBlock → (v'.ownBlock = yv.ownBlock ∨ v'.ownBlock = some w'.heap.size) → Un w1 B a b X U N vx (t + 1) (m + n) v' w'' := by
  obtain ⟨⟨R, r1, r2, r3, r4⟩, hlen, hown, hxs, hlow⟩ := h
  have hs := hlow.size
  refine (twoq_workB 1 r4 r3 (by omega)).mono ?_
  rintro e w' ⟨v, M, rfl, p1, p2, p3, p4⟩
  have hs' := p4.size
  rw [show (1 : Int).toNat = 1 from rfl] at p1 p3 ⊢
  obtain ⟨ao, c, rfl, hroom, hp⟩ := p1
  have add := work_add hX.all t 1
  have f1 := workD_len (workR X t) 1
  have f2 := r4.okY.few
  have f3 := workD_len X t
  have f4 := hX.few
  have own' : w'.ownsRow 0 38 7 yv m (jcells (workD X t)) := ownsRow_keep hown fun k hk => p4.block k (r3 k (r1 k hk).1) (fun q => q.2 (r1 k hk).1)
  refine ⟨ao, c, _, _, workD (workR X t) 1, rfl, rfl, ⟨ao, c, rfl, hroom, fun h0 => ?_⟩, hroom.2, by omega, own', fun v' w'' hown' hgrow hat => ?_⟩
  · obtain ⟨pb, off, e1, _, e3⟩ := hp h0
    exact ⟨pb, off, e1, trivial, e3⟩
  · have hs2 := hgrow.size
    refine ⟨⟨fun k => (R k ∨ M k) ∨ (w'.heap.size ≤ k ∧ k < w''.heap.size), fun k hk => ?_, fun k hk => .inl (.inl (r2 k hk)), fun k hk => ?_, ?_⟩, ?_, ?_, ?_, ?_⟩
    · rcases hat with q | q
      · rw [q] at hk
        obtain ⟨a1, a2, a3⟩ := r1 k hk
        exact ⟨.inl (.inl a1), a2, a3⟩
      · have hk2 := hk
        rw [q] at hk
        have e1 : w'.heap.size = k := by simpa using hk
        refine ⟨.inr ⟨by omega, (World.ownsRow.lt hown' k hk2).2⟩, fun z => ?_, by omega⟩
        have := r3 k (r2 k z)
        omega
    · rcases hk with (q | q) | q
      · have := r3 k q; omega
      · have := p2 k q; omega
      · exact q.2
    · have g := p3.grown (grown_chg hgrow) (fun k hk => .inl (r1 k hk).1)
      rw [add.2]
      exact g.less (fun k hk => by
        rcases hk with q | q
        · exact .inl q
        · exact .inr q.1)
    · rw [add.1, List.length_append, hlen]
    · rw [add.1]; exact hown'
    · exact (hxs.kept p4 (fun k hk q => q.2 (r2 k hk))).kept (grown_chg hgrow) (fun k hk q => (r1 k q).2.1 hk)
    · exact (out hlow hB p4).trans ((grown_chg hgrow).below (by omega) (fun k hk => (r1 k hk).2.2))

set_option maxRecDepth 100000 in
set_option maxHeartbeats 4000000 in
theorem walk_main (ao : Option Addr) (c : Nat) (l : List Jb) (U : Nat) (hU : U < 256) (w : World) (h : JsAt (fun _ => True) w (.slice ao l.length c) l) :
    Calls Try.prog 5 #[.slice ao l.length c, .int .u8 (U : Int)] w fun e w' => e = .returned (.bool true) ∧ Below w.heap.size w w' := by
  have AL := Hid.intro (alive12_any w)
  obtain ⟨ao', c', e0, _, hs⟩ := h
  simp only [Value.slice.injEq] at e0
  obtain ⟨rfl, _, rfl⟩ := e0
  have HS := Hid.intro hs
  obtain ⟨L, hL⟩ : ∃ L, L = l.length := ⟨_, rfl⟩
  have HL := Hid.intro hL
  rw [← hL]
  clear hL hs
  go_enter Try.func5, Try.ntmps5
  go_wp2_with fail
  refine AL.out.mono ?_
  rintro e w1 ⟨rfl, B1⟩
  have B1H := Hid.intro B1
  clear AL B1
  by_cases hl : 60 < L
  · have hl' : (60 : Int) < (L : Int) := by omega
    go_wp2
    go_ret
    exact ⟨rfl, B1H.out⟩
  have hl' : ¬ (60 : Int) < (L : Int) := by omega
  go_wp2_with fail
  refine (enew_any w1).mono ?_
  rintro e w2 ⟨a, F, rfl, hS, hF, B2⟩
  have S2 := Hid.intro hS
  have F2 := Hid.intro hF
  have B2H := Hid.intro B2
  clear hS hF B2
  go_wp2_with fail
  refine (enew_any w2).mono ?_
  rintro e w3 ⟨b, G, rfl, hS, hF, B3⟩
  have Q3 := Hid.intro (twoq_new (B := w1.heap.size) (Nat.le_refl _) S2.out F2.out B2H.out hS hF B3)
  have O3 := Hid.intro (B2H.out.trans (B3.mono B2H.out.size))
  clear hS hF B3 S2 F2 B2H
  go_wp2_with fail
  go_loopw [7] (fun iv ws => ∃ (k : Nat), k ≤ L ∧ iv = .int .i64 k ∧ TwoQ (fun _ => False) w1.heap.size ws a b (fillK l k) (fillK l k) (2 * k) ∧ Below w1.heap.size w1 ws) (fun iv _ => L - (intOf iv).toNat)
  case atStart => exact ⟨0, by omega, rfl, Q3.out, O3.out⟩
  case round =>
    obtain ⟨k, hk, rfl, hQ, hB⟩ := hrel
    have QH := Hid.intro hQ
    have BH := Hid.intro hB
    have hsz := hB.size
    clear hQ hB
    by_cases hlt : k < L
    · have hlt' : k < l.length := by rw [← HL.out]; exact hlt
      have k0 : (0 : Int) ≤ (k : Int) := by omega
      have k1 : (k : Int) < (L : Int) := by omega
      obtain ⟨pb, off, rfl, _, hc⟩ := HS.out (by omega)
      have J := Hid.intro (fun (W : World) (hW : Below w1.heap.size w1 W) => ((hc k hlt').below B1H.out).below hW)
      obtain ⟨c0, c1, c2, c3, c4, c5, c6⟩ := J.out _ BH.out
      have BD : Hid (Below w1.heap.size w1 wr.drew) := ⟨BH.out.os, BH.out.tape, BH.out.output, BH.out.size, BH.out.block⟩
      have PU := twoq_push l[k] (QH.out.below (w' := wr.drew) ⟨rfl, rfl, rfl, Nat.le_refl _, fun _ _ => rfl⟩) (fun _ f => f.elim) BD.out.size
      have PV := fun (W : World) (hQ : TwoQ (fun _ => False) w1.heap.size W a b (pushQ (fillK l k) l[k]) (fillK l k) (2 * k + 1)) (hB : w1.heap.size ≤ W.heap.size) => twoq_pushB l[k] hQ (fun _ f => f.elim) hB
      rw [← fillK_step l hlt'] at PU PV
      generalize l[k] = jb at *
      obtain ⟨b0, b1, b2, b3, b4, b5, b6⟩ := jb
      simp only at c0 c1 c2 c3 c4 c5 c6
      have KK : Hid (∀ W, Below w1.heap.size w1 W → W.cell? ⟨pb, off + k * 7, none⟩ = some (.int .i64 b0) ∧ W.cell? ⟨pb, off + k * 7 + 1, none⟩ = some (.int .i64 b1) ∧ W.cell? ⟨pb, off + k * 7 + 2, none⟩ = some (.int .i64 b2) ∧ W.cell? ⟨pb, off + k * 7 + 3, none⟩ = some (.int .i64 b3) ∧ W.cell? ⟨pb, off + k * 7 + 4, none⟩ = some (.int .i64 b4) ∧ W.cell? ⟨pb, off + k * 7 + 5, none⟩ = some (.int .i64 b5) ∧ W.cell? ⟨pb, off + k * 7 + 6, none⟩ = some (.int .i64 b6)) := fun W hW => J.out W hW
      have PUH := Hid.intro PU
      have PVH := Hid.intro PV
      generalize pushE' (fillK l k) ⟨b0, b1, b2, b3, b4, b5, b6⟩ = pe at *
      have peb : (pe != pe) = false := by simp
      clear PU PV J hc QH
      go_wp2_with fail
      go_region_held3 (fun W => W.cell? ⟨pb, off + k * 7, none⟩ = some (.int .i64 b0) ∧ W.cell? ⟨pb, off + k * 7 + 1, none⟩ = some (.int .i64 b1) ∧ W.cell? ⟨pb, off + k * 7 + 2, none⟩ = some (.int .i64 b2) ∧ W.cell? ⟨pb, off + k * 7 + 3, none⟩ = some (.int .i64 b3) ∧ W.cell? ⟨pb, off + k * 7 + 4, none⟩ = some (.int .i64 b4) ∧ W.cell? ⟨pb, off + k * 7 + 5, none⟩ = some (.int .i64 b5) ∧ W.cell? ⟨pb, off + k * 7 + 6, none⟩ = some (.int .i64 b6))
        (first | exact KK.out _ E5 | exact KK.out _ E4 | exact KK.out _ BD.out | go_keep)
        (first
          | (go_at_call 16; have _ := E4; refine (PVH.out _ Q4.out E4.size).mono ?_; rintro e w5 ⟨rfl, q5, d5⟩; have Q5 := Hid.intro q5; have E5 := out E4 (Nat.le_refl _) d5; clear q5 d5)
          | (go_at_call 16; refine PUH.out.mono ?_; rintro e w4 ⟨rfl, q4, d4⟩; have Q4 := Hid.intro q4; have E4 := out BD.out (Nat.le_refl _) d4; clear q4 d4)
          | fail)
      all_goals
        have E5H := Hid.intro E5
        clear E4 E5 KK PUH PVH c0 c1 c2 c3 c4 c5 c6 Q4 BD
        go_wp2
        go_roundw
        case rel => exact ⟨k + 1, by omega, by go_num, Q5.out, E5H.out⟩
        case measure => simp [intOf]; omega
    · obtain rfl : k = L := by omega
      have k1 : ¬ (k : Int) < (k : Int) := by omega
      have HO := Hid.intro (fillK_ok l k)
      generalize fillK l k = X at *
      have few := HO.out.few
      have dl1 := workD_len X U
      have WK := twoq_work (U : Int) QH.out (fun _ f => f.elim) hsz
      rw [Int.toNat_natCast] at WK
      have WKH := Hid.intro WK
      clear WK QH
      go_wp2_with fail
      refine WKH.out.mono ?_
      rintro e w4 ⟨v4, N, rfl, s4, n4, Q4, C4⟩
      have UN : Hid (Un w1 w1.heap.size a b X U N v4 0 0 (.slice none 0 0) w4) := by
        refine ⟨⟨N, (fun k hk => by simp [Value.ownBlock] at hk), fun _ h => h, fun k hk => (n4 k hk).2, ?_⟩, by rw [(work_zero X).1]; rfl, by rw [(work_zero X).1]; exact World.ownsRow_nil _ _ _ _, s4, out BH.out (Nat.le_refl _) C4⟩
        rw [(work_zero X).2.1]
        exact (Q4.less (fun k hk => .inr hk)).more (by omega)
      obtain ⟨a4, c4, rfl⟩ := s4.len
      clear WKH s4 n4 Q4 C4 BH
      go_wp2_with fail
      go_loopw [10, 11] (fun yv iv ws => ∃ (t m : Nat), t ≤ U ∧ iv = .int .i64 t ∧ Un w1 w1.heap.size a b X U N (.slice a4 (workD X U).length c4) t m yv ws) (fun _ iv _ => U - (intOf iv).toNat)
      case atStart => exact ⟨0, 0, by omega, rfl, UN.out⟩
      case round =>
        obtain ⟨t, m, ht, rfl, hU2⟩ := hrel
        have UH := Hid.intro hU2
        clear hU2
        obtain ⟨oa, oc, hov, _⟩ := ownsRow_form UH.out.own
        subst hov
        by_cases htu : t < U
        · have t1 : (t : Int) < (U : Int) := by omega
          have HLN := Hid.intro UH.out.len
          have WB := Hid.intro (UH.out.work (Nat.le_refl _) HO.out)
          generalize (workD X U).length = DU at *
          clear UH UN
          go_wp2_with fail
          refine WB.out.mono ?_
          rintro e w5 ⟨a5, c5, n5, n5', ds, rfl, l5, s5, z5, b5, o5, g5⟩
          have L5 := Hid.intro l5
          have S5 := Hid.intro s5
          have Z5 := Hid.intro z5
          have O5 := Hid.intro o5
          have G5 := Hid.intro g5
          clear WB l5 s5 z5 o5 g5
          go_wp2_with (refine append_jobs (by rfl) _ _ (by rfl) (.slice oa m oc) m (workD X t) HLN.out (by rfl) O5.out (fun _ => True) a5 n5 c5 ds L5.out (by rfl) S5.out Z5.out b5 ?_; intro v' wb hown hgrow hat; have UX := Hid.intro (G5.out v' wb hown hgrow hat); clear hown hgrow hat)
          exact ⟨⟨t + 1, m + n5, by omega, by go_num, UX.out⟩, by simp [intOf]; omega⟩
        · obtain rfl : t = U := by omega
          have t1 : ¬ (t : Int) < (t : Int) := by omega
          have HLN := UH.out.len
          have ys := js_of_owns (R := fun k => (Value.slice oa m oc).ownBlock = some k) (l := workD X t) (v := .slice oa m oc) (by rw [← HLN]; exact UH.out.own) (fun _ h => h)
          have SA := refSame12_any _ _ _ _ (workD X t) (workD X t) (by omega) (by omega) wr UH.out.xs ys
          rw [decide_eq_true rfl] at SA
          have SAH := Hid.intro SA
          obtain ⟨R, _, _, _, r4⟩ := UH.out.held
          have QH := Hid.intro r4
          have LOW := Hid.intro UH.out.low
          have rf := r4.okX.few
          generalize (workD X t).length = DU at *
          generalize workR X t = rs at *
          clear HLN ys SA r4 UH UN
          go_wp2_with fail
          refine SAH.out.mono ?_
          rintro e w5 ⟨rfl, B5⟩
          have Q5 := Hid.intro (QH.out.below B5)
          have LOW5 := Hid.intro (LOW.out.trans (B5.mono LOW.out.size))
          have LI := Hid.intro (twoq_list Q5.out)
          clear SAH B5 QH LOW
          go_wp2_with fail
          refine LI.out.mono ?_
          rintro e w6 ⟨v6, rfl, s6, B6⟩
          have Q6 := Hid.intro (Q5.out.below B6)
          have LOW6 := Hid.intro (LOW5.out.trans (B6.mono LOW5.out.size))
          have S6H := Hid.intro s6
          have LI := Hid.intro (twoq_listB Q6.out)
          obtain ⟨a6, c6, rfl⟩ := s6.len
          clear s6 B6 Q5 LOW5
          go_wp2_with fail
          refine LI.out.mono ?_
          rintro e w7 ⟨v7, rfl, s7, B7⟩
          have LOW7 := Hid.intro (LOW6.out.trans (B7.mono LOW6.out.size))
          have SB := refSame12_any _ _ _ _ rs rs (by omega) (by omega) w7 (S6H.out.below B7) s7
          rw [decide_eq_true rfl] at SB
          have SBH := Hid.intro SB
          obtain ⟨a7, c7, rfl⟩ := s7.len
          clear LI s7 B7 SB S6H Q6 LOW6
          go_wp2_with fail
          refine SBH.out.mono ?_
          rintro e w8 ⟨rfl, B8⟩
          have FIN := Hid.intro (B1H.out.trans ((LOW7.out.trans (B8.mono LOW7.out.size)).mono B1H.out.size))
          clear SBH B8 LOW7
          go_wp2
          go_ret
          exact ⟨rfl, FIN.out⟩

theorem walk (ao : Option Addr) (len c : Nat) (l : List Jb) (u : Int) (w : World) (hz : l.length = len ∧ JsAt (fun _ => True) w (.slice ao len c) l ∧ (∀ j ∈ l, JWf j) ∧ c ≤ maxLen) (hu : (Lit.int .u8 u).wf = true) :
    Calls Try.prog 5 #[.slice ao len c, .int .u8 u] w fun e w' => e = .returned (.bool true) ∧ Below w.heap.size w w' := by
  obtain ⟨hl, hr, _, _⟩ := hz
  subst hl
  have hu' : 0 ≤ u ∧ u ≤ 255 := by simpa [Lit.wf, IntKind.min, IntKind.max, IntKind.signed, IntKind.bits] using hu
  obtain ⟨U, rfl⟩ := Int.eq_ofNat_of_zero_le hu'.1
  exact walk_main ao c l U (by omega) w hr

set_option maxRecDepth 100000 in
theorem lifted (os : Os) (started : os.Started) (H : Type) (enc : TypeId × Value → H) :
    ReturnsInHanded {} Try.checked os 5 .any (Rows.edfUnitsSpec.pre6 enc Try.prog Try.f5 Rows.edfUnitsRow.domain false) (Rows.edfUnitsSpec.post enc Try.prog Try.f5 false true false false) := by
  refine returnsInHanded_of_change (C := Try.checked) own started (by kernel_rfl) Try.func5
    (ChangeSpec.witness6 (enc := enc) (C := Try.checked) false ⟨#[], #[.slice none 0 0, .int .u8 0], []⟩ 8 (by kernel_rfl) (by kernel_rfl) (by kernel_rfl) (by kernel_rfl)) ?_
  intro W base args ds gs before hval0 hW hcnd _
  have hval : ∀ (j : Nat) t v, Try.f5.params[j]? = some t → args[j]? = some v → Value.okWide Try.prog W .any base t v := hval0
  have hW' := hW
  obtain ⟨p, q, hA0, hV, rfl, hfz, hnd⟩ := hW
  have hA : DataW.TrodAll enc Try.prog W 0 (fun _ => true) true Try.f5.params.toList args.toList ds p := hA0
  rw [Try.params5] at hA hval
  obtain ⟨v0, vs0, d0, ds0, p0, q0, hargs, rfl, rfl, h0, r0⟩ := trodAll_cons hA
  obtain ⟨v1, vs1, d1, ds1, p1, q1, rfl, rfl, rfl, h1, r1⟩ := trodAll_cons r0
  obtain ⟨rfl, rfl, rfl⟩ := trodAll_nil r1
  obtain rfl : args = #[v0, v1] := by cases args; simp_all
  obtain ⟨rfl, rfl⟩ := trodVars_none hV
  have k0 := h0
  have lt0 : ∀ x ∈ p0, x.block < W.heap.size := by obtain ⟨m, hm⟩ := k0; exact DataW.trod_lt m _ _ _ hm
  obtain ⟨a0, len0, cap0, rfl⟩ := okWide_slice Try.underlying26 (hval 0 26 v0 rfl rfl)
  obtain ⟨z0, w0⟩ := open_jobs h0
  obtain ⟨a1, rfl, rfl, rfl, w1⟩ := open_int Try.underlying5 (hval 1 5 v1 rfl rfl) h1
  clear hA0 hval0
  refine (walk a0 len0 cap0 z0 a1 W w0 w1).mono fun e W' ⟨he, bel⟩ => ?_
  subst he
  exact ⟨_, rfl, _, _, _, [], _, [], hW', trodAll_mk1 (shut_bool Try.underlying4 _), (trodAll_cons_mk (Below.trod laidOut (by kernel_rfl) (of_decide_eq_true (by kernel_rfl)) k0 bel lt0) (trodAll_cons_mk (shut_int Try.underlying5 w1) trodAll_mk0)), rfl, bel.frame _, fun h => by cases h⟩

theorem over : Rows.edfUnitsRow.holds Try.pinned (OpenSpec.ofChange Rows.edfUnitsSpec) :=
  OpenClaim.holds_of_wide 5 Try.f5 rfl rfl rfl rfl rfl rfl rfl ⟨rfl, rfl, rfl, rfl, rfl⟩ rfl rfl rfl rfl rfl (by kernel_rfl) Try.func5 (by kernel_rfl)
    (of_decide_eq_true (by kernel_rfl)) (by unfold Func.isWrapper; first | (rw [if_pos (by decide +kernel)]; kernel_rfl) | (rw [if_neg (by decide +kernel)]; exact ⟨rfl, rfl⟩))
    (fun os started H enc _ => lifted os started H enc)

end Go.Proofs.Ytgcpkploeobafaa.LEdfUnits

namespace Go.Proofs.Ytgcpkploeobafaa
theorem edfUnits_holds : Rows.EdfUnitsSaid := LEdfUnits.over
#print axioms edfUnits_holds
end Go.Proofs.Ytgcpkploeobafaa
