/- RsWeights: whatever bytes come in, it returns true: of up to 8 bytes that are all unlike the factors say the value of the polynomial that is at them what is told, and of others there are none; no condition. -/
import Derived.Test.YtebjkbhidpdpfaaRsArg
import Derived.Test.YtebjkbhidpdpfaaRsAlive
import Derived.Test.YtebjkbhidpdpfaaRefSolve
import Derived.Test.YtebjkbhidpdpfaaRefValue
namespace Go.Proofs.Ytebjkbhidpdpfaa.LRsWeights
open Go.ChangeShapes Go.WideShapes Go.ChangeAt Go.RowKit Go.Deep
open Bt

theorem lsum_snoc (all : List Nat) (x : Nat) (l : List (Nat × Nat)) (s v : Nat) : lsum all x (l ++ [(s, v)]) = lsum all x l ^^^ gmul (wt x s (oth s all)) v := by
  induction l with
  | nil => simp [lsum]
  | cons p r ih => simp only [List.cons_append, lsum, ih, Nat.xor_assoc]

/-- The sum of the first t values, by their factors. -/
def sumT (at_ vals : List Nat) (x t : Nat) : Nat := lsum at_ x ((at_.zip vals).take t)

theorem sumT_succ {at_ vals : List Nat} {x t : Nat} (h1 : t < at_.length) (h2 : t < vals.length) : sumT at_ vals x (t + 1) = sumT at_ vals x t ^^^ gmul (wt x (at_.getD t 0) (oth (at_.getD t 0) at_)) (vals.getD t 0) := by
  unfold sumT
  rw [List.take_succ_eq_append_getElem (by rw [List.length_zip]; omega), List.getElem_zip, lsum_snoc, ← List.getElem_eq_getD (h := h1) 0, ← List.getElem_eq_getD (h := h2) 0]

theorem lsum_lt {all : List Nat} (ha : Byt all) {x : Nat} (hx : x < 256) (l : List (Nat × Nat)) : lsum all x l < 256 := by
  induction l with
  | nil => simp [lsum]
  | cons p r ih => exact xor_lt8 (gmul_lt (wt_lt hx _ (oth_byt ha)) _) ih

theorem sumT_lt {at_ : List Nat} (ha : Byt at_) (vals : List Nat) {x : Nat} (hx : x < 256) (t : Nat) : sumT at_ vals x t < 256 := lsum_lt ha hx _

theorem sumT_all {at_ vals : List Nat} (ha : Byt at_) (hv : Byt vals) {x : Nat} (hx : x < 256) : pev (poly at_ (vals.take at_.length)) x = sumT at_ vals x at_.length := by
  unfold poly sumT
  rw [pev_lpol ha hx _ (fun p hp => hv _ (List.mem_of_mem_take (List.of_mem_zip (a := p.1) (b := p.2) hp).2))]
  congr 1
  apply List.ext_getElem
  · simp
  · intro j h1 h2
    simp

theorem alike {at_ : List Nat} {i j : Nat} (hj : j < i) (hi : i < at_.length) (h : at_.getD i 0 = at_.getD j 0) : ¬ at_.Nodup := fun hd => by
  rw [← List.getElem_eq_getD (h := hi) 0, ← List.getElem_eq_getD (h := by omega) 0] at h
  exact (List.pairwise_iff_getElem.1 (List.nodup_iff_pairwise_ne.1 hd)) j i (by omega) hi hj h.symm

theorem unlike {at_ : List Nat} (h : ∀ i, i < at_.length → ∀ j, j < i → at_.getD i 0 ≠ at_.getD j 0) : at_.Nodup := by
  rw [List.nodup_iff_pairwise_ne, List.pairwise_iff_getElem]
  intro i j hi hj hij e
  refine h j hj i hij ?_
  rw [← List.getElem_eq_getD (h := hi) 0, ← List.getElem_eq_getD (h := hj) 0]
  exact e.symm

theorem walk_far (a : Option Addr) (len cap : Nat) (b : Option Addr) (len' cap' : Nat) (x : Int) (w : World) (hlen : len ≤ maxLen) (h : 8 < len ∨ len' < len) :
    Calls Try.prog 5 #[.slice a len cap, .slice b len' cap', .int .u8 x] w fun e w' => e = .returned (.bool true) ∧ Below w.heap.size w w' := by
  unfold maxLen at hlen
  by_cases h1 : 8 < len
  · have j : decide ((8 : Int) < (len : Int)) = true := by simp; omega
    go_enter Try.func5, Try.ntmps5
    go_wp2_with fail
    refine (alive_any _).mono ?_
    rintro e w1 ⟨rfl, B1⟩
    go_wp2
    go_ret
    exact ⟨rfl, B1⟩
  · have j : decide ((8 : Int) < (len : Int)) = false := by simp; omega
    have j2 : len' < len := by omega
    clear h h1
    go_enter Try.func5, Try.ntmps5
    go_wp2_with fail
    refine (alive_any _).mono ?_
    rintro e w1 ⟨rfl, B1⟩
    go_wp2
    go_ret
    exact ⟨rfl, B1⟩

set_option maxRecDepth 100000 in
set_option maxHeartbeats 4000000 in
theorem walk_near (a : Option Addr) (cap : Nat) (at_ : List Nat) (b : Option Addr) (cap' : Nat) (vals : List Nat) (x : Nat) (w : World) (h2 : at_.length ≤ 8) (hv2 : at_.length ≤ vals.length) (hvl : vals.length ≤ 9223372036854775807) (hvc : vals.length ≤ cap' ∧ cap' ≤ 9223372036854775807) (hn : a = none → cap = 0) (hA : Byt at_) (hV : Byt vals) (hx : x < 256) (hr : Reads w a at_) (hr' : Reads w b vals) (hbn : b = none → vals.length = 0) :
    Calls Try.prog 5 #[.slice a at_.length cap, .slice b vals.length cap', .int .u8 (x : Int)] w fun e w' => e = .returned (.bool true) ∧ Below w.heap.size w w' := by
  have HRA := Hid.intro hr
  have HRV := Hid.intro hr'
  have HA := Hid.intro hA
  have HV := Hid.intro hV
  have HN := Hid.intro hn
  have HBN := Hid.intro hbn
  clear hr hr' hA hV hn hbn
  have hdec : decide ((8 : Int) < (at_.length : Int)) = false := by simp; omega
  have hdec2 : decide ((vals.length : Int) < (at_.length : Int)) = false := by simp; omega
  have hdec3 : ¬ vals.length < at_.length := by omega
  go_enter Try.func5, Try.ntmps5
  go_wp2_with fail
  refine (alive_any _).mono ?_
  rintro e w1 ⟨rfl, B1⟩
  have B1H := Hid.intro B1
  clear B1
  go_wp2_with fail
  go_loopw [7] (fun i ws => ∃ t : Nat, t ≤ at_.length ∧ i = .int .i64 t ∧ (∀ i, i < t → ∀ j, j < i → at_.getD i 0 ≠ at_.getD j 0) ∧ Below w.heap.size w ws) (fun i _ => at_.length - (intOf i).toNat)
  case atStart => exact ⟨0, by omega, rfl, fun i h => absurd h (by omega), B1H.out⟩
  case round =>
    rename World => wo
    clear B1H
    obtain ⟨t, ht, rfl, UN, BO⟩ := hrel
    have UNH := Hid.intro UN
    have BOH := Hid.intro BO
    by_cases htl : t < at_.length
    · have t1 : (t : Int) < (at_.length : Int) := by omega
      have t0 : (0 : Int) ≤ (t : Int) := by omega
      clear UN BO
      go_wp2_with fail
      go_loopw [8] (fun i ws => ∃ u : Nat, u ≤ t ∧ i = .int .i64 u ∧ (∀ j, j < u → at_.getD t 0 ≠ at_.getD j 0) ∧ Below w.heap.size w ws) (fun i _ => t - (intOf i).toNat)
      case atStart => exact ⟨0, by omega, rfl, fun j h => absurd h (by omega), BOH.out⟩
      case round =>
        obtain ⟨u, hu, rfl, UJ, BU⟩ := hrel
        have UJH := Hid.intro UJ
        have BUH := Hid.intro BU
        by_cases hul : u < t
        · have u1 : (u : Int) < (t : Int) := by omega
          have u2 : (u : Int) < (at_.length : Int) := by omega
          have u0 : (0 : Int) ≤ (u : Int) := by omega
          obtain ⟨bb, off, e, hc⟩ := reads_at HRA.out (by omega)
          subst e
          have ct0 := hc t htl
          have cu0 := hc u (by omega)
          rw [List.getElem_eq_getD (h := htl) 0] at ct0
          rw [List.getElem_eq_getD (h := (by omega : u < at_.length)) 0] at cu0
          have ct := (BU.cell (cell_lt ct0)).trans ct0
          have cu := (BU.cell (cell_lt cu0)).trans cu0
          clear hc ct0 cu0 UJ BU
          by_cases heq : at_.getD t 0 = at_.getD u 0
          · have hj : (((at_.getD t 0 : Nat) : Int) == ((at_.getD u 0 : Nat) : Int)) = true := by rw [heq]; simp
            have hnd := alike hul htl heq
            have eW : wtsL at_ x = [] := by unfold wtsL; rw [if_neg hnd]
            have EWH := Hid.intro eW
            generalize at_.getD t 0 = y1 at ct hj
            generalize at_.getD u 0 = y2 at cu hj
            clear eW hnd heq UNH UJH
            go_wp2_with fail
            go_quiet (fail)
            go_wp2_with fail
            refine (rweights_any (some ⟨bb, off, none⟩) cap at_ HA.out (by omega) x hx _ ((HRA.out.below BUH.out).below (belowN (Below.refl _ _) nq)) HN.out).mono ?_
            rintro e w5 ⟨v5, rfl, ⟨a5, p5, rfl, R5, _, _⟩, B5⟩
            rw [EWH.out]
            have B5w := (belowN BUH.out nq).trans (B5.mono (belowN BUH.out nq).size)
            clear R5 B5
            go_wp2
            go_ret
            exact ⟨rfl, B5w⟩
          · have hj : (((at_.getD t 0 : Nat) : Int) == ((at_.getD u 0 : Nat) : Int)) = false := by rw [beq_eq_false_iff_ne]; omega
            have NEH := Hid.intro heq
            generalize at_.getD t 0 = y1 at ct hj NEH UJH
            generalize hy2 : at_.getD u 0 = y2 at cu hj NEH
            have HY2 := Hid.intro hy2
            clear heq hy2
            go_wp2_with fail
            go_quiet (fail)
            go_wp2
            go_roundw
            case rel => exact ⟨u + 1, by omega, by go_num, fun j hj => by
              by_cases e : j = u
              · subst e; rw [HY2.out]; exact NEH.out
              · exact UJH.out j (by omega), belowN BUH.out nq⟩
            case measure => simp [intOf]; omega
        · have hue : u = t := by omega
          subst hue
          have n1 : ¬ (u : Int) < (u : Int) := by omega
          clear UJ BU
          go_wp2
          go_roundw
          case rel => exact ⟨u + 1, by omega, by go_num, fun i hi j hj => by
            by_cases e : i = u
            · subst e; exact UJH.out j hj
            · exact UNH.out i (by omega) j hj, BUH.out⟩
          case measure => simp [intOf]; omega
    · have hte : t = at_.length := by omega
      subst hte
      have n1 : ¬ (at_.length : Int) < (at_.length : Int) := by omega
      have hnd := unlike UN
      have eW : wtsL at_ x = at_.map (fun s => wt x s (oth s at_)) := by unfold wtsL; rw [if_pos hnd]
      have EWH := Hid.intro eW
      have HND := Hid.intro hnd
      have ra := Hid.intro (HRA.out.below BO)
      clear UN BO UNH hnd eW hdec hdec2 hdec3
      go_wp2_with fail
      refine (rweights_any a cap at_ HA.out (by omega) x hx _ ra.out HN.out).mono ?_
      rintro e w5 ⟨v5, rfl, ⟨a5, p5, rfl, R5, _, _⟩, B5⟩
      rw [EWH.out] at R5 ⊢
      rw [List.length_map]
      have B5w := BOH.out.trans (B5.mono BOH.out.size)
      have ra5 := ra.out.below B5
      have R5H := Hid.intro R5
      have B5H := Hid.intro B5w
      have ra5H := Hid.intro ra5
      have nn : ((at_.length : Int) != (at_.length : Int)) = false := by simp
      clear R5 B5w ra5 B5 BOH ra
      go_wp2_with fail
      go_loopw [10, 11] (fun sv i ws => ∃ t : Nat, t ≤ at_.length ∧ i = .int .i64 t ∧ sv = .int .u8 ((sumT at_ vals x t : Nat) : Int) ∧ ∃ q, ws = w5.drewN q) (fun _ i _ => at_.length - (intOf i).toNat)
      case atStart => exact ⟨0, by omega, rfl, rfl, 0, rfl⟩
      case round =>
        obtain ⟨t, ht, rfl, rfl, q, hq⟩ := hrel
        have HQ := Hid.intro hq
        clear hq
        have hs := sumT_lt HA.out vals hx t
        by_cases htl : t < at_.length
        · have t1 : (t : Int) < (at_.length : Int) := by omega
          have t2 : (t : Int) < (vals.length : Int) := by omega
          have t0 : (0 : Int) ≤ (t : Int) := by omega
          obtain ⟨bw, ow, e, hcw⟩ := reads_at R5H.out (by rw [List.length_map]; omega)
          subst e
          have cw0 := hcw t (by rw [List.length_map]; exact htl)
          rw [List.getElem_map, List.getElem_eq_getD (h := htl) 0] at cw0
          have cw : wr.cell? ⟨bw, ow + t, none⟩ = some (U (wt x (at_.getD t 0) (oth (at_.getD t 0) at_))) := by rw [HQ.out]; exact cw0
          obtain ⟨bv, ov, e, hcv⟩ := reads_at HRV.out (by omega)
          subst e
          have cv0 := hcv t (by omega)
          rw [List.getElem_eq_getD (h := (by omega : t < vals.length)) 0] at cv0
          have cv : wr.cell? ⟨bv, ov + t, none⟩ = some (U (vals.getD t 0)) := by rw [HQ.out]; exact (B5H.out.cell (cell_lt cv0)).trans cv0
          have hwl := wt_lt (s := at_.getD t 0) hx (oth (at_.getD t 0) at_) (oth_byt HA.out)
          have hvl0 := getD_byt HV.out t
          have HM := refMul_any (wt x (at_.getD t 0) (oth (at_.getD t 0) at_)) (vals.getD t 0) hwl hvl0
          have hg := gmul_lt hwl (vals.getD t 0)
          have hxor := u8_xor_nat (sumT at_ vals x t) (gmul (wt x (at_.getD t 0) (oth (at_.getD t 0) at_)) (vals.getD t 0)) hs hg
          rw [← sumT_succ htl (by omega)] at hxor
          generalize gmul (wt x (at_.getD t 0) (oth (at_.getD t 0) at_)) (vals.getD t 0) = G at HM hg hxor
          generalize wt x (at_.getD t 0) (oth (at_.getD t 0) at_) = W0 at cw HM hwl
          generalize vals.getD t 0 = V0 at cv HM hvl0
          generalize hT1 : sumT at_ vals x (t + 1) = T1 at hxor
          have HT1 := Hid.intro hT1
          generalize sumT at_ vals x t = T0 at hs hxor ⊢
          have HMH := Hid.intro HM
          clear HM hcw hcv cv0 cw0 hT1
          go_wp2_with fail
          go_quiet ((go_at_call 22; exact Calls.quiet_of_same ((HMH.out _).mono fun _ _ ⟨h1, h2⟩ => ⟨h1, h2.symm⟩)))
          go_wp2
          go_roundw
          case rel => exact ⟨t + 1, by omega, by go_num, by rw [HT1.out], q + nq, by rw [HQ.out, World.drewN_drewN]⟩
          case measure => simp [intOf]; omega
        · have hte : t = at_.length := by omega
          subst hte
          have hq := HQ.out
          subst hq
          have hsum := sumT_all HA.out HV.out hx
          have hlt : (vals.take at_.length).length = at_.length := by rw [List.length_take]; omega
          obtain ⟨pb1, pb2, _⟩ := poly_spec (vals := vals.take at_.length) HA.out HND.out (fun y hy => HV.out y (List.mem_of_mem_take hy)) hlt
          have rv : Reads (w5.drewN q) b (vals.take at_.length) := fun h0 => by
            rw [hlt] at h0
            obtain ⟨ad, ha, hc⟩ := HRV.out (by omega)
            refine ⟨ad, ha, fun j u hu => ?_⟩
            have hu' : (vals.map U)[j]? = some u := by
              rw [List.map_take] at hu
              have hj : j < at_.length := by
                have := (List.getElem?_eq_some_iff.1 hu).1
                simp at this; omega
              rw [List.getElem?_take, if_pos hj] at hu
              exact hu
            have hcj := hc j u hu'
            exact ((belowN B5H.out q).cell (cell_lt hcj)).trans hcj
          have SOL := refSolve_any a b cap cap' at_ (vals.take at_.length) HA.out HND.out (fun y hy => HV.out y (List.mem_of_mem_take hy)) hlt (by omega) (w5.drewN q) (ra5H.out.below (belowN (Below.refl _ _) q)) rv
          rw [← hsum]
          generalize poly at_ (vals.take at_.length) = F at SOL pb1 pb2 hsum ⊢
          have hev := pev_lt pb1 hx
          have SOLH := Hid.intro SOL
          have PB1 := Hid.intro pb1
          have PB2 := Hid.intro pb2
          have hcc : at_.length ≤ cap' := by omega
          have hcc2 : (at_.length : Int) ≤ (cap' : Int) := by omega
          have hc0 : (0 : Int) ≤ (at_.length : Int) := by omega
          obtain ⟨PV, hPV⟩ : ∃ PV, PV = pev F x := ⟨_, rfl⟩
          rw [← hPV] at hev ⊢
          have HPV := Hid.intro hPV
          clear SOL pb1 pb2 hsum rv hs hPV
          go_wp2_with fail
          refine SOLH.out.mono ?_
          rintro e w6 ⟨vf, rfl, RF, _, B6⟩
          have B6w := (belowN B5H.out q).trans (B6.mono (belowN B5H.out q).size)
          obtain ⟨af, cf, ef, rf, _⟩ := row_of_owns (by rw [PB2.out]; exact RF : w6.ownsRow 0 5 1 vf F.length (F.map U))
          subst ef
          have VAL := refValue_any af cf F PB1.out (by rw [PB2.out]; omega) x hx w6 rf
          rw [← HPV.out] at VAL
          have VALH := Hid.intro VAL
          have B6H := Hid.intro B6w
          have ee : ((PV : Int) == (PV : Int)) = true := by simp
          clear RF B6 B6w rf VAL SOLH
          go_wp2_with fail
          refine VALH.out.mono ?_
          rintro e w7 ⟨rfl, q7, rfl⟩
          go_wp2
          go_ret
          exact ⟨rfl, belowN B6H.out q7⟩

theorem walk (a : Option Addr) (len cap : Nat) (zs : List Int) (b : Option Addr) (len' cap' : Nat) (zs' : List Int) (x : Int) (w : World) (hz : IsRow .u8 w a len cap zs) (hz' : IsRow .u8 w b len' cap' zs') (hx : (Lit.int .u8 x).wf = true) :
    Calls Try.prog 5 #[.slice a len cap, .slice b len' cap', .int .u8 x] w fun e w' => e = .returned (.bool true) ∧ Below w.heap.size w w' := by
  have hb := bounds_u8 hx
  obtain ⟨X, rfl⟩ := Int.eq_ofNat_of_zero_le hb.1
  by_cases h : 8 < len ∨ len' < len
  · exact walk_far a len cap b len' cap' X w hz.len h
  · obtain ⟨xs, rfl, h1, h2⟩ := hz.bytes
    obtain ⟨ys, rfl, h3, h4⟩ := hz'.bytes
    exact walk_near a cap xs b cap' ys X w (by omega) (by omega) (by have := hz'.le_cap; have := hz'.cap_le; omega) ⟨hz'.le_cap, hz'.cap_le⟩ hz.none_cap h1 h3 (by omega) h2 h4 (fun e => by have := hz'.none_cap e; have := hz'.le_cap; omega)

set_option maxRecDepth 100000 in
theorem lifted (os : Os) (started : os.Started) (H : Type) (enc : TypeId × Value → H) :
    ReturnsInHanded {} Try.checked os 5 .any (Rows.rsWeightsSpec.pre6 enc Try.prog Try.f5 Rows.rsWeightsRow.domain false) (Rows.rsWeightsSpec.post enc Try.prog Try.f5 false true false false) := by
  refine returnsInHanded_of_change (C := Try.checked) own started (by kernel_rfl) Try.func5
    (ChangeSpec.witness6 (enc := enc) (C := Try.checked) false ⟨#[], #[.slice none 0 0, .slice none 0 0, .int .u8 0], []⟩ 8 (by kernel_rfl) (by kernel_rfl) (by kernel_rfl) (by kernel_rfl)) ?_
  intro W base args ds gs before hval0 hW hcnd _
  have hval : ∀ (j : Nat) t v, Try.f5.params[j]? = some t → args[j]? = some v → Value.okWide Try.prog W .any base t v := hval0
  have hW' := hW
  obtain ⟨p, q, hA0, hV, rfl, hfz, hnd⟩ := hW
  have hA : DataW.TrodAll enc Try.prog W 0 (fun _ => true) true Try.f5.params.toList args.toList ds p := hA0
  rw [Try.params5] at hA hval
  obtain ⟨v0, vs0, d0, ds0, p0, q0, hargs, rfl, rfl, h0, r0⟩ := trodAll_cons hA
  obtain ⟨v1, vs1, d1, ds1, p1, q1, rfl, rfl, rfl, h1, r1⟩ := trodAll_cons r0
  obtain ⟨v2, vs2, d2, ds2, p2, q2, rfl, rfl, rfl, h2, r2⟩ := trodAll_cons r1
  obtain ⟨rfl, rfl, rfl⟩ := trodAll_nil r2
  obtain rfl : args = #[v0, v1, v2] := by cases args; simp_all
  obtain ⟨rfl, rfl⟩ := trodVars_none hV
  obtain ⟨a0, len0, cap0, rfl⟩ := okWide_slice Try.underlying24 (hval 0 24 v0 rfl rfl)
  have k0 := h0
  have lt0 : ∀ x ∈ p0, x.block < W.heap.size := by obtain ⟨m, hm⟩ := k0; exact DataW.trod_lt m _ _ _ hm
  obtain ⟨z0, w0⟩ : ∃ zs, IsRow .u8 W a0 len0 cap0 zs := by
    obtain ⟨fuel, hf⟩ := h0
    rcases open_ints Try.underlying24 Try.underlying5 (by kernel_rfl) hf with ⟨hcs, _⟩ | ⟨x, l, c, zs, hcs, _, hl, hm, hz, _, hcell, hwz⟩
    · simp [Value.cells] at hcs
      obtain ⟨rfl, rfl, rfl⟩ := hcs
      exact ⟨[], .inl ⟨rfl, rfl, rfl, rfl⟩⟩
    · simp [Value.cells] at hcs
      obtain ⟨rfl, rfl, rfl⟩ := hcs
      exact ⟨zs, .inr ⟨_, rfl, hl, hm, by simpa using hz, hcell, hwz⟩⟩
  obtain ⟨a1, len1, cap1, rfl⟩ := okWide_slice Try.underlying24 (hval 1 24 v1 rfl rfl)
  have k1 := h1
  have lt1 : ∀ x ∈ p1, x.block < W.heap.size := by obtain ⟨m, hm⟩ := k1; exact DataW.trod_lt m _ _ _ hm
  obtain ⟨z1, w1⟩ : ∃ zs, IsRow .u8 W a1 len1 cap1 zs := by
    obtain ⟨fuel, hf⟩ := h1
    rcases open_ints Try.underlying24 Try.underlying5 (by kernel_rfl) hf with ⟨hcs, _⟩ | ⟨x, l, c, zs, hcs, _, hl, hm, hz, _, hcell, hwz⟩
    · simp [Value.cells] at hcs
      obtain ⟨rfl, rfl, rfl⟩ := hcs
      exact ⟨[], .inl ⟨rfl, rfl, rfl, rfl⟩⟩
    · simp [Value.cells] at hcs
      obtain ⟨rfl, rfl, rfl⟩ := hcs
      exact ⟨zs, .inr ⟨_, rfl, hl, hm, by simpa using hz, hcell, hwz⟩⟩
  obtain ⟨a2, rfl, rfl, rfl, w2⟩ := open_int Try.underlying5 (hval 2 5 v2 rfl rfl) h2
  clear hA0 hval0
  refine (walk a0 len0 cap0 z0 a1 len1 cap1 z1 a2 W w0 w1 w2).mono fun e W' ⟨he, bel⟩ => ?_
  subst he
  exact ⟨_, rfl, _, _, _, [], _, [], hW', trodAll_mk1 (shut_bool Try.underlying4 _), (trodAll_cons_mk (Below.trod laidOut (by kernel_rfl) (of_decide_eq_true (by kernel_rfl)) k0 bel lt0) (trodAll_cons_mk (Below.trod laidOut (by kernel_rfl) (of_decide_eq_true (by kernel_rfl)) k1 bel lt1) (trodAll_cons_mk (shut_int Try.underlying5 w2) trodAll_mk0))), rfl, bel.frame _, fun h => by cases h⟩

theorem over : Rows.rsWeightsRow.holds Try.pinned (OpenSpec.ofChange Rows.rsWeightsSpec) :=
  OpenClaim.holds_of_wide 5 Try.f5 rfl rfl rfl rfl rfl rfl rfl ⟨rfl, rfl, rfl, rfl, rfl⟩ rfl rfl rfl rfl rfl (by kernel_rfl) Try.func5 (by kernel_rfl)
    (of_decide_eq_true (by kernel_rfl)) (by unfold Func.isWrapper; first | (rw [if_pos (by decide +kernel)]; kernel_rfl) | (rw [if_neg (by decide +kernel)]; exact ⟨rfl, rfl⟩))
    (fun os started H enc _ => lifted os started H enc)

end Go.Proofs.Ytebjkbhidpdpfaa.LRsWeights

namespace Go.Proofs.Ytebjkbhidpdpfaa
theorem rsWeights_holds : Rows.RsWeightsSaid := LRsWeights.over
#print axioms rsWeights_holds
end Go.Proofs.Ytebjkbhidpdpfaa
