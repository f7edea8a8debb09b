/- The statement EdfAhead: nothing is done ahead of what comes ahead of it, units are left over just if none waits, and as much is done as units went. -/
import Derived.Test.YtgcpkploeobafaaEdAlive
import Derived.Test.YtgcpkploeobafaaEdArg
import Derived.Test.YtgcpkploeobafaaEdFill
import Derived.BigQuiet
namespace Go.Proofs.Ytgcpkploeobafaa
open Go.ChangeShapes Go.WideShapes Go.ChangeAt Go.RowKit Go.Joins
open Bt

namespace LEdfAhead

theorem below_drewE {B : Nat} {w w' : World} (h : Below B w w') (n : Nat) : Below B w (w'.drewN n) := ⟨h.os, h.tape, h.output, h.size, h.block⟩

theorem done_zero {x : List Jb} {u : Nat} {a : Jb} (h : a ∈ workD x u) : a.left = 0 := by
  obtain ⟨j, _, rfl⟩ := workD_mem h
  rfl

theorem srt_at {x : List Jb} (h : SrtJ x) {i j : Nat} (hij : i < j) (hj : j < x.length) : (x[i]'(Nat.lt_trans hij hj)).dl ≤ x[j].dl := by
  have := (List.pairwise_iff_getElem.1 h) i j (Nat.lt_trans hij hj) hj hij
  rw [ahJ_false] at this
  omega

/-- A list of jobs, as the walk reads it. -/
theorem JsAt.cells {R : Nat → Prop} {w : World} {ao : Option Addr} {n c : Nat} {l : List Jb} (h : JsAt R w (.slice ao n c) l) (h0 : 0 < l.length) : ∃ pb off, ao = some ⟨pb, off, none⟩ ∧ R pb ∧ ∀ t, (ht : t < l.length) → JobAt w pb (off + t * 7) l[t] := by
  obtain ⟨ao', c', e, _, hp⟩ := h
  simp only [Value.slice.injEq] at e
  obtain ⟨rfl, _, rfl⟩ := e
  exact hp h0

set_option maxRecDepth 100000 in
set_option maxHeartbeats 4000000 in
theorem walk_main (ao : Option Addr) (c : Nat) (l : List Jb) (u : Int) (w : World) (h : JsAt (fun _ => True) w (.slice ao l.length c) l) :
    Calls Try.prog 4 #[.slice ao l.length c, .int .i64 u] w fun e w' => e = .returned (.bool true) ∧ Below w.heap.size w w' := by
  have AL := Hid.intro (alive12_any w)
  obtain ⟨ao', c', e0, _, hs⟩ := h
  simp only [Value.slice.injEq] at e0
  obtain ⟨rfl, _, rfl⟩ := e0
  have HS := Hid.intro hs
  obtain ⟨L, hL⟩ : ∃ L, L = l.length := ⟨_, rfl⟩
  have HL := Hid.intro hL
  rw [← hL]
  clear hL hs
  go_enter Try.func4, Try.ntmps4
  go_wp2_with fail
  refine AL.out.mono ?_
  rintro e w1 ⟨rfl, B1⟩
  have B1H := Hid.intro B1
  clear AL B1
  by_cases hl : 60 < L
  · have hl' : (60 : Int) < (L : Int) := by omega
    go_wp2
    go_ret
    exact ⟨rfl, B1H.out⟩
  have hl' : ¬ (60 : Int) < (L : Int) := by omega
  by_cases hu0 : u < 0
  · go_wp2
    go_ret
    exact ⟨rfl, B1H.out⟩
  by_cases hu1 : 100000 < u
  · go_wp2
    go_ret
    exact ⟨rfl, B1H.out⟩
  obtain ⟨U, rfl⟩ := Int.eq_ofNat_of_zero_le (show 0 ≤ u by omega)
  go_wp2_with fail
  refine (enew_any w1).mono ?_
  rintro e w2 ⟨b, F, rfl, hS, hF, B2⟩
  have L2 := Hid.intro (ql_new hS hF B2)
  have B2H := Hid.intro B2
  clear hS hF B2
  go_wp2_with fail
  go_loopw [6] (fun iv ws => ∃ (k : Nat), k ≤ L ∧ iv = .int .i64 k ∧ QL (fun k => k < w1.heap.size) w2 ws b (fillK l k) k) (fun iv _ => L - (intOf iv).toNat)
  case atStart => exact ⟨0, by omega, rfl, L2.out⟩
  case round =>
    obtain ⟨k, hk, rfl, hQ⟩ := hrel
    have QH := Hid.intro hQ
    clear hQ
    by_cases hlt : k < L
    · have hlt' : k < l.length := by rw [← HL.out]; exact hlt
      have k0 : (0 : Int) ≤ (k : Int) := by omega
      have k1 : (k : Int) < (L : Int) := by omega
      obtain ⟨pb, off, rfl, _, hc⟩ := HS.out (by omega)
      have j0 := (hc k hlt').below B1H.out
      have blt : pb < w1.heap.size := cell_lt j0.1
      obtain ⟨c0, c1, c2, c3, c4, c5, c6⟩ := (j0.below B2H.out).chg QH.out.chg (fun q => q blt)
      have PU := qlpush l[k] QH.out
      rw [← fillK_step l hlt'] at PU
      have PUH := Hid.intro PU
      generalize l[k] = jb at *
      generalize pushE' (fillK l k) jb = pe at *
      clear hc j0 PU
      go_wp2_with fail
      refine PUH.out.mono ?_
      rintro e w4 ⟨rfl, Q4⟩
      have Q4H := Hid.intro Q4
      clear PUH Q4 c0 c1 c2 c3 c4 c5 c6
      go_wp2
      go_roundw
      case rel => exact ⟨k + 1, by omega, by go_num, Q4H.out⟩
      case measure => simp [intOf]; omega
    · obtain rfl : k = L := by omega
      have k1 : ¬ (k : Int) < (k : Int) := by omega
      have HO := Hid.intro (fillK_ok l k)
      have LE := Hid.intro (qlleft QH.out)
      generalize fillK l k = x at *
      have WS := Hid.intro (work_sum HO.out.all U)
      have WO := Hid.intro (work_order HO.out.srt U)
      have RO := Hid.intro (workR_ok HO.out U)
      have lb0 := leftQ_nonneg HO.out.all
      have lb1 := leftQ_bound HO.out.all
      have few := HO.out.few
      have rb0 := leftQ_nonneg RO.out.all
      have rb1 := leftQ_bound RO.out.all
      have rfew := RO.out.few
      have lb2 : leftQ x ≤ 40000 := by omega
      have rb2 : leftQ (workR x U) ≤ 40000 := by omega
      go_wp2_with fail
      refine LE.out.mono ?_
      rintro e w4 ⟨rfl, B4⟩
      have WK := qlwork (U : Int) (QH.out.below B4)
      rw [Int.toNat_natCast] at WK
      have WKH := Hid.intro WK
      clear LE B4 WK QH
      go_wp2_with fail
      refine WKH.out.mono ?_
      rintro e w5 ⟨v5, G5, rfl, g5, s5, L5, M5⟩
      have LI := Hid.intro (qllist L5)
      have S5H := Hid.intro s5
      have L5H := Hid.intro L5
      have M5H := Hid.intro M5
      have DZ : Hid (∀ t, (ht : t < (workD x U).length) → (workD x U)[t].left = 0) := fun t ht => done_zero (List.getElem_mem ht)
      have dfew : (workD x U).length ≤ 40 := by
        have e : ∀ (x : List Jb) (u : Nat), (workD x u).length ≤ x.length := by
          intro x
          induction x with
          | nil => intro u; simp [workD]
          | cons j x ih =>
            intro u
            unfold workD
            split
            · simp
            · split
              · simp only [List.length_cons]
                have := ih (u - j.left.toNat)
                omega
              · simp
        have := e x U
        omega
      generalize workD x U = ds at *
      generalize workR x U = rs at *
      generalize workN x U = nn at *
      obtain ⟨a5, c5, rfl⟩ := s5.len
      clear WKH g5 s5 L5 M5
      go_wp2_with fail
      refine LI.out.mono ?_
      rintro e w6 ⟨v6, rfl, s6, B6⟩
      have S6H := Hid.intro s6
      have T6H := Hid.intro (S5H.out.below B6)
      have B6H := Hid.intro B6
      obtain ⟨a6, c6, rfl⟩ := s6.len
      obtain ⟨D, hD⟩ : ∃ D, D = ds.length := ⟨_, rfl⟩
      obtain ⟨R, hR⟩ : ∃ R, R = rs.length := ⟨_, rfl⟩
      have HD := Hid.intro hD
      have HR := Hid.intro hR
      rw [← hD] at dfew T6H ⊢
      rw [← hR] at rfew S6H ⊢
      have QF := Hid.intro (L5H.out.grow B6)
      have BW := Hid.intro (B1H.out.trans ((B2H.out.mono B1H.out.size).trans ((M5H.out.below B6).out (B := w.heap.size) (Nat.le_trans B1H.out.size B2H.out.size) (fun k hk => Nat.lt_of_lt_of_le hk B1H.out.size))))
      clear LI s6 B6 hD hR S5H L5H M5H B6H
      go_wp2_with fail
      go_loopw [11] (fun iv ws => ∃ (t q : Nat), t ≤ D ∧ iv = .int .i64 t ∧ ws = w6.drewN q) (fun iv _ => D - (intOf iv).toNat)
      case atStart => exact ⟨0, 0, by omega, rfl, rfl⟩
      case round =>
        obtain ⟨t, q, ht, rfl, hwr⟩ := hrel
        have HWR := Hid.intro hwr
        clear hwr
        by_cases htd : t < D
        · have htd' : t < ds.length := by rw [← HD.out]; exact htd
          have t0 : (0 : Int) ≤ (t : Int) := by omega
          have t1 : (t : Int) < (D : Int) := by omega
          obtain ⟨pd, od, ea, _, hcd⟩ := JsAt.cells T6H.out (by omega)
          subst ea
          have j0 : JobAt wr pd (od + t * 7) ds[t] := by rw [HWR.out]; exact hcd t htd'
          have z0 := DZ.out t htd'
          obtain ⟨d0, d1, d2, d3, d4, d5, d6⟩ := j0
          rw [z0] at d6
          have PD : Hid (∀ s, (hst : s < t) → (ds[s]'(Nat.lt_trans hst htd')).dl ≤ ds[t].dl) := fun s hst => (List.pairwise_iff_getElem.1 WO.out.1) s t _ htd' hst
          have PR : Hid (∀ a ∈ rs, ds[t].dl ≤ a.dl) := fun a ha => WO.out.2 ds[t] (List.getElem_mem htd') a ha
          have CS : Hid (∀ s, (hst : s < t) → JobAt wr pd (od + s * 7) (ds[s]'(Nat.lt_trans hst htd'))) := fun s hst => by rw [HWR.out]; exact hcd s _
          generalize hdl : ds[t].dl = dl at *
          clear hcd z0 d0 d1 d2 d3 d4 hdl
          by_cases hr0 : 0 < R
          · have r0 : (0 : Int) < (R : Int) := by omega
            have hr0' : 0 < rs.length := by rw [← HR.out]; exact hr0
            obtain ⟨pr, or_, er, _, hcr⟩ := JsAt.cells S6H.out hr0'
            subst er
            have jr : JobAt wr pr (or_ + 0 * 7) rs[0] := by rw [HWR.out]; exact hcr 0 hr0'
            rw [Nat.zero_mul, Nat.add_zero] at jr
            obtain ⟨f0, f1, f2, f3, f4, f5, f6⟩ := jr
            have le2 := PR.out rs[0] (List.getElem_mem hr0')
            generalize rs[0].dl = dr at *
            have g2 : ¬ dr < dl := by omega
            clear hcr f0 f1 f2 f3 f4 f6
            by_cases ht0 : t = 0
            · subst ht0
              go_wp2_with fail
              have g2' : ¬ dr < dl := by omega
              go_big_quiet (fail)
              go_wp2
              go_roundw
              case rel => exact ⟨0 + 1, q + nq, by omega, by go_num, by rw [HWR.out]; simp [World.drewN, Nat.add_assoc]⟩
              case measure => simp [intOf]; omega
            · obtain ⟨s, hs⟩ : ∃ s, t = s + 1 := ⟨t - 1, by omega⟩
              have hst : s < t := by omega
              obtain ⟨e0, e1, e2, e3, e4, e5, e6⟩ := CS.out s hst
              have le1 := PD.out s hst
              generalize (ds[s]'(Nat.lt_trans hst htd')).dl = ds1 at *
              have g1 : ¬ dl < ds1 := by omega
              have wr1 : IntKind.i64.wrap ((t : Int) - 1) = (s : Int) := by rw [IntKind.wrap_i64]; omega
              have s0 : (0 : Int) ≤ (s : Int) := by omega
              have s1 : (s : Int) < (D : Int) := by omega
              have tp : (0 : Int) < (t : Int) := by omega
              have tp2 : 0 < t := by omega
              clear e0 e1 e2 e3 e4 e6 PD PR CS hs hst le1 le2 ht0 tp
              go_wp2_with fail
              have g1' : ¬ dl < ds1 := by omega
              have g2' : ¬ dr < dl := by omega
              go_big_quiet (fail)
              go_wp2
              go_roundw
              case rel => exact ⟨t + 1, q + nq, by omega, by go_num, by rw [HWR.out]; simp [World.drewN, Nat.add_assoc]⟩
              case measure => simp [intOf]; omega
          · obtain rfl : R = 0 := by omega
            clear hr0
            by_cases ht0 : t = 0
            · subst ht0
              go_wp2_with fail
              go_big_quiet (fail)
              go_wp2
              go_roundw
              case rel => exact ⟨0 + 1, q + nq, by omega, by go_num, by rw [HWR.out]; simp [World.drewN, Nat.add_assoc]⟩
              case measure => simp [intOf]; omega
            · obtain ⟨s, hs⟩ : ∃ s, t = s + 1 := ⟨t - 1, by omega⟩
              have hst : s < t := by omega
              obtain ⟨e0, e1, e2, e3, e4, e5, e6⟩ := CS.out s hst
              have le1 := PD.out s hst
              generalize (ds[s]'(Nat.lt_trans hst htd')).dl = ds1 at *
              have g1 : ¬ dl < ds1 := by omega
              have wr1 : IntKind.i64.wrap ((t : Int) - 1) = (s : Int) := by rw [IntKind.wrap_i64]; omega
              have s0 : (0 : Int) ≤ (s : Int) := by omega
              have s1 : (s : Int) < (D : Int) := by omega
              have tp : (0 : Int) < (t : Int) := by omega
              have tp2 : 0 < t := by omega
              clear e0 e1 e2 e3 e4 e6 PD PR CS hs hst le1 ht0 tp
              go_wp2_with fail
              have g1' : ¬ dl < ds1 := by omega
              go_big_quiet (fail)
              go_wp2
              go_roundw
              case rel => exact ⟨t + 1, q + nq, by omega, by go_num, by rw [HWR.out]; simp [World.drewN, Nat.add_assoc]⟩
              case measure => simp [intOf]; omega
        · obtain rfl : t = D := by omega
          have t1 : ¬ (t : Int) < (t : Int) := by omega
          generalize wr = wx at *
          go_wp2_with fail
          go_loopw [12] (fun iv ws => ∃ (t q : Nat), 1 ≤ t ∧ (t ≤ R ∨ t = 1) ∧ iv = .int .i64 t ∧ ws = w6.drewN q) (fun iv _ => R - (intOf iv).toNat)
          case atStart => exact ⟨1, q, by omega, by omega, rfl, HWR.out⟩
          case round =>
            obtain ⟨s, p, hs1, hsR, rfl, hwr⟩ := hrel
            have HWQ := Hid.intro hwr
            clear hwr
            by_cases hsr : s < R
            · have hsr' : s < rs.length := by rw [← HR.out]; exact hsr
              obtain ⟨pr, or_, er, _, hcr⟩ := JsAt.cells S6H.out (by omega)
              subst er
              obtain ⟨s', hs'⟩ : ∃ s', s = s' + 1 := ⟨s - 1, by omega⟩
              have hlt2 : s' < s := by omega
              have j1 : JobAt wr pr (or_ + s * 7) rs[s] := by rw [HWQ.out]; exact hcr s hsr'
              have j2 : JobAt wr pr (or_ + s' * 7) (rs[s']'(Nat.lt_trans hlt2 hsr')) := by rw [HWQ.out]; exact hcr s' _
              have le := srt_at RO.out.srt hlt2 hsr'
              obtain ⟨d0, d1, d2, d3, d4, d5, d6⟩ := j1
              obtain ⟨e0, e1, e2, e3, e4, e5, e6⟩ := j2
              generalize (rs[s']'(Nat.lt_trans hlt2 hsr')).dl = dl1 at *
              generalize rs[s].dl = dl2 at *
              have g1 : ¬ dl2 < dl1 := by omega
              have wr1 : IntKind.i64.wrap ((s : Int) - 1) = (s' : Int) := by rw [IntKind.wrap_i64]; omega
              have s0 : (0 : Int) ≤ (s : Int) := by omega
              have s1 : (s : Int) < (R : Int) := by omega
              have s2 : (0 : Int) ≤ (s' : Int) := by omega
              have s3 : (s' : Int) < (R : Int) := by omega
              clear hcr d0 d1 d2 d3 d4 d6 e0 e1 e2 e3 e4 e6 hs' hlt2 le
              go_wp2_with fail
              have g1' : ¬ dl2 < dl1 := by omega
              go_big_quiet (fail)
              go_wp2
              go_roundw
              case rel => exact ⟨s + 1, p + nq, by omega, .inl (by omega), by go_num, by rw [HWQ.out]; simp [World.drewN, Nat.add_assoc]⟩
              case measure => simp [intOf]; omega
            · have s1 : ¬ (s : Int) < (R : Int) := by omega
              have QD : Hid (Below w6.heap.size w6 wr) := by rw [Hid, HWQ.out]; exact below_drewE (Below.refl _ w6) p
              have LF := Hid.intro (qlleft (QF.out.below QD.out))
              have ws := WS.out
              generalize leftQ x = lx at *
              generalize leftQ rs = lr at *
              have BQ := Hid.intro (BW.out.trans (QD.out.mono BW.out.size))
              have nb : nn ≤ U := by omega
              obtain ⟨M, hM⟩ : ∃ M : Nat, M = U - nn := ⟨_, rfl⟩
              have e1 : lx - lr = (M : Int) := by omega
              have e2 : (U : Int) - (nn : Int) = (M : Int) := by omega
              have e3 : ((M : Int) == (M : Int)) = true := by simp
              have mb : M ≤ 100000 := by omega
              by_cases hn0 : nn = 0
              · obtain rfl : M = U := by omega
                subst hn0
                clear e2 hM
                clear QF QD WS WO RO ws
                go_wp2_with fail
                refine LF.out.mono ?_
                rintro e w8 ⟨rfl, B8⟩
                clear LF
                go_wp2
                go_ret
                exact ⟨rfl, BQ.out.trans (B8.mono BQ.out.size)⟩
              · have hr0 : R = 0 := by
                  rcases ws.2.1 with q1 | q1
                  · exact absurd q1 hn0
                  · rw [HR.out, q1]; rfl
                subst hr0
                have n0 : ((nn : Int) == 0) = false := by rw [beq_eq_false_iff_ne]; omega
                clear QF QD WS WO RO ws
                go_wp2_with fail
                refine LF.out.mono ?_
                rintro e w8 ⟨rfl, B8⟩
                clear LF
                go_wp2
                go_ret
                exact ⟨rfl, BQ.out.trans (B8.mono BQ.out.size)⟩

theorem walk (ao : Option Addr) (len c : Nat) (l : List Jb) (u : Int) (w : World) (hz : l.length = len ∧ JsAt (fun _ => True) w (.slice ao len c) l ∧ (∀ j ∈ l, JWf j) ∧ c ≤ maxLen) (_ : (Lit.int .i64 u).wf = true) :
    Calls Try.prog 4 #[.slice ao len c, .int .i64 u] w fun e w' => e = .returned (.bool true) ∧ Below w.heap.size w w' := by
  obtain ⟨hl, hr, _, _⟩ := hz
  subst hl
  exact walk_main ao c l u w hr

set_option maxRecDepth 100000 in
theorem lifted (os : Os) (started : os.Started) (H : Type) (enc : TypeId × Value → H) :
    ReturnsInHanded {} Try.checked os 4 .any (Rows.edfAheadSpec.pre6 enc Try.prog Try.f4 Rows.edfAheadRow.domain false) (Rows.edfAheadSpec.post enc Try.prog Try.f4 false true false false) := by
  refine returnsInHanded_of_change (C := Try.checked) own started (by kernel_rfl) Try.func4
    (ChangeSpec.witness6 (enc := enc) (C := Try.checked) false ⟨#[], #[.slice none 0 0, .int .i64 0], []⟩ 8 (by kernel_rfl) (by kernel_rfl) (by kernel_rfl) (by kernel_rfl)) ?_
  intro W base args ds gs before hval0 hW hcnd _
  have hval : ∀ (j : Nat) t v, Try.f4.params[j]? = some t → args[j]? = some v → Value.okWide Try.prog W .any base t v := hval0
  have hW' := hW
  obtain ⟨p, q, hA0, hV, rfl, hfz, hnd⟩ := hW
  have hA : DataW.TrodAll enc Try.prog W 0 (fun _ => true) true Try.f4.params.toList args.toList ds p := hA0
  rw [Try.params4] at hA hval
  obtain ⟨v0, vs0, d0, ds0, p0, q0, hargs, rfl, rfl, h0, r0⟩ := trodAll_cons hA
  obtain ⟨v1, vs1, d1, ds1, p1, q1, rfl, rfl, rfl, h1, r1⟩ := trodAll_cons r0
  obtain ⟨rfl, rfl, rfl⟩ := trodAll_nil r1
  obtain rfl : args = #[v0, v1] := by cases args; simp_all
  obtain ⟨rfl, rfl⟩ := trodVars_none hV
  have k0 := h0
  have lt0 : ∀ x ∈ p0, x.block < W.heap.size := by obtain ⟨m, hm⟩ := k0; exact DataW.trod_lt m _ _ _ hm
  obtain ⟨a0, len0, cap0, rfl⟩ := okWide_slice Try.underlying26 (hval 0 26 v0 rfl rfl)
  obtain ⟨z0, w0⟩ := open_jobs h0
  obtain ⟨a1, rfl, rfl, rfl, w1⟩ := open_int Try.underlying3 (hval 1 3 v1 rfl rfl) h1
  clear hA0 hval0
  refine (walk a0 len0 cap0 z0 a1 W w0 w1).mono fun e W' ⟨he, bel⟩ => ?_
  subst he
  exact ⟨_, rfl, _, _, _, [], _, [], hW', trodAll_mk1 (shut_bool Try.underlying4 _), (trodAll_cons_mk (Below.trod laidOut (by kernel_rfl) (of_decide_eq_true (by kernel_rfl)) k0 bel lt0) (trodAll_cons_mk (shut_int Try.underlying3 w1) trodAll_mk0)), rfl, bel.frame _, fun h => by cases h⟩

theorem over : Rows.edfAheadRow.holds Try.pinned (OpenSpec.ofChange Rows.edfAheadSpec) :=
  OpenClaim.holds_of_wide 4 Try.f4 rfl rfl rfl rfl rfl rfl rfl ⟨rfl, rfl, rfl, rfl, rfl⟩ rfl rfl rfl rfl rfl (by kernel_rfl) Try.func4 (by kernel_rfl)
    (of_decide_eq_true (by kernel_rfl)) (by unfold Func.isWrapper; first | (rw [if_pos (by decide +kernel)]; kernel_rfl) | (rw [if_neg (by decide +kernel)]; exact ⟨rfl, rfl⟩))
    (fun os started H enc _ => lifted os started H enc)

end Go.Proofs.Ytgcpkploeobafaa.LEdfAhead

namespace Go.Proofs.Ytgcpkploeobafaa
theorem edfAhead_holds : Rows.EdfAheadSaid := LEdfAhead.over
#print axioms edfAhead_holds
end Go.Proofs.Ytgcpkploeobafaa
