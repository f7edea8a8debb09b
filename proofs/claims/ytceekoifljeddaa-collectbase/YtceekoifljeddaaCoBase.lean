/- The statement CollectBase: groups that are given up, as many as one likes, let the base go round. -/
import Derived.Test.YtceekoifljeddaaCoAlive
import Derived.Test.YtceekoifljeddaaRsArg
namespace Go.Proofs.Ytceekoifljeddaa
open Go.ChangeShapes Go.WideShapes Go.ChangeAt Go.RowKit Go.Joins
open Bt

namespace LCollectBase

/-- A collector of which nothing is there but its base. -/
def Bare (K N S : Nat) (x : Col) : Prop := x.K = K ∧ x.N = N ∧ x.S = S ∧ (∀ i, i < 4 → x.g i = List.replicate N []) ∧ ∀ i, i < 4 → x.gone i = false

theorem bare_rdy {K N S : Nat} {x : Col} (h : Bare K N S x) (hK : 1 ≤ K) {i : Nat} (hi : i < 4) : rdy x i = false :=
  rdy_empty (by rw [h.1]; exact hK) (by rw [h.2.2.2.1 i hi, h.2.1]) (h.2.2.2.2 i hi)

theorem bare_ready {K N S : Nat} {x : Col} (h : Bare K N S x) (hK : 1 ≤ K) : readyN x = 0 := by
  unfold readyN
  rw [bare_rdy h hK (by omega), bare_rdy h hK (by omega), bare_rdy h hK (by omega), bare_rdy h hK (by omega)]
  rfl

/-- One given up: it is due, and the base goes on. -/
theorem bare_step {K N S : Nat} {x : Col} (h : Bare K N S x) (hK : 1 ≤ K) (hb : x.base < 256) :
    skipE x x.base = 0 ∧ (dueP (skipC x x.base)).length = 1 ∧ Bare K N S (dueC (skipC x x.base)) ∧ (dueC (skipC x x.base)).base = (x.base + 1) % 256 := by
  have hf : farA x.base x.base = 0 := by rw [farA_in (by omega) (by omega)]; omega
  have hfn : farN x x.base = 0 := by unfold farN; rw [hf]; rfl
  have ho : openA x.base x.base = true := by unfold openA; rw [hf]; rfl
  have hbh : behindA x.base x.base = false := by unfold behindA; rw [hf]; rfl
  have hp : placeE x x.base = 0 := by unfold placeE; rw [hbh, ho]; rfl
  have he : skipE x x.base = 0 := by
    unfold skipE
    rw [if_pos (isG_of (by omega)), if_pos hp, hfn, h.2.2.2.2 0 (by omega)]
    rfl
  have hc : skipC x x.base = goneS x 0 := by unfold skipC; rw [if_pos he, hfn]
  have r0 : rdy (goneS x 0) 0 = true := by unfold rdy goneS; simp
  have hB : Bare K N S (shift (goneS x 0)) := by
    refine ⟨h.1, h.2.1, h.2.2.1, fun i hi => ?_, fun i hi => ?_⟩
    · show (if i = 3 then List.replicate x.N [] else x.g (i + 1)) = _
      by_cases e : i = 3
      · rw [if_pos e, h.2.1]
      · rw [if_neg e]; exact h.2.2.2.1 _ (by omega)
    · show (if i = 3 then false else if i + 1 = 0 then true else x.gone (i + 1)) = false
      by_cases e : i = 3
      · rw [if_pos e]
      · rw [if_neg e, if_neg (by omega)]; exact h.2.2.2.2 _ (by omega)
  have hm : dueM 4 (goneS x 0) = 1 := by
    show (if rdy (goneS x 0) 0 = true then 1 + dueM 3 (shift (goneS x 0)) else 0) = 1
    rw [if_pos r0]
    show 1 + (if rdy (shift (goneS x 0)) 0 = true then 1 + dueM 2 (shift (shift (goneS x 0))) else 0) = 1
    rw [bare_rdy hB hK (by omega)]
    rfl
  rw [hc]
  refine ⟨he, by unfold dueP; rw [hm]; rfl, ?_, ?_⟩
  · unfold dueC; rw [hm]; exact hB
  · unfold dueC; rw [hm]; rfl

theorem bare_new (K N S base : Nat) : Bare K N S (col0 K N S base) := ⟨rfl, rfl, rfl, fun _ _ => rfl, fun _ _ => rfl⟩

set_option maxRecDepth 100000 in
set_option maxHeartbeats 1000000 in
theorem walk (k n s g m : Int) (w : World) (_ : (Lit.int .i64 k).wf = true ∧ (Lit.int .i64 n).wf = true ∧ (Lit.int .i64 s).wf = true) (_ : (Lit.int .i64 g).wf = true) (hm : (Lit.int .u8 m).wf = true) :
    Calls Try.prog 6 #[.agg #[.int .i64 k, .int .i64 n, .int .i64 s], .int .i64 g, .int .u8 m] w fun e w' => e = .returned (.bool true) ∧ Below w.heap.size w w' := by
  have hmb := bounds_u8 hm
  obtain ⟨M, rfl⟩ := Int.eq_ofNat_of_zero_le hmb.1
  have b0 := Hid.intro (heap_alloc_new w (.cells #[.int .i64 k, .int .i64 n, .int .i64 s] 23))
  have B0 := Hid.intro ((Below.refl _ w).alloc (Nat.le_refl _) (.cells #[.int .i64 k, .int .i64 n, .int .i64 s] 23))
  clear hm
  rcases hnew : (mayC k n s && isG g) with _ | _
  · go_enter Try.func6, Try.ntmps6
    go_wp2_with fail
    refine (alive_any _).mono ?_
    rintro e w1 ⟨rfl, B1⟩
    have b1 := (B1.block _ (lt_of_heap b0.out)).trans b0.out
    have B1H := Hid.intro (B0.out.trans (B1.mono B0.out.size))
    obtain ⟨c0, c1, c2⟩ := cd_cells b1
    clear b1 B1
    go_wp2_with fail
    refine (cnew_no k n s g hnew w1).mono ?_
    rintro e w2 ⟨rfl, B2⟩
    have B2w := B1H.out.trans (B2.mono B1H.out.size)
    clear c0 c1 c2 B2
    go_wp2
    go_ret
    exact ⟨rfl, B2w⟩
  · rw [Bool.and_eq_true] at hnew
    obtain ⟨h1, h2, h3, h4, h5, h6⟩ := mayC_true hnew.1
    obtain ⟨hg1, hg2⟩ := isG_true hnew.2
    obtain ⟨K, rfl⟩ := Int.eq_ofNat_of_zero_le (show 0 ≤ k by omega)
    obtain ⟨N, rfl⟩ := Int.eq_ofNat_of_zero_le (show 0 ≤ n by omega)
    obtain ⟨S, rfl⟩ := Int.eq_ofNat_of_zero_le (show 0 ≤ s by omega)
    obtain ⟨G, rfl⟩ := Int.eq_ofNat_of_zero_le hg1
    have hK : 1 ≤ K := by omega
    have hG : G < 256 := by omega
    have NW := Hid.intro (fun w => cnew_yes K N S G (by rw [Bool.and_eq_true]; exact hnew) w)
    clear hnew
    go_enter Try.func6, Try.ntmps6
    go_wp2_with fail
    refine (alive_any _).mono ?_
    rintro e w1 ⟨rfl, B1⟩
    have b1 := (B1.block _ (lt_of_heap b0.out)).trans b0.out
    have B1H := Hid.intro (B0.out.trans (B1.mono B0.out.size))
    obtain ⟨c0, c1, c2⟩ := cd_cells b1
    clear b1 B1
    go_wp2_with fail
    refine (NW.out w1).mono ?_
    rintro e w2 ⟨b, F, rfl, hC, hF, B2⟩
    have L2 := Hid.intro (cl_new hC hF B2)
    have B2H := Hid.intro (B1H.out.trans (B2.mono B1H.out.size))
    clear c0 c1 c2 B2 hC hF NW
    go_wp2_with fail
    go_loopw [8] (fun i wr => ∃ (t : Nat) (x : Col), t ≤ M ∧ i = .int .i64 t ∧ CL (fun k => k < w1.heap.size) w2 wr b x ∧ Bare K N S x ∧ x.base = (G + t) % 256) (fun i _ => M - (intOf i).toNat)
    case atStart => exact ⟨0, _, by omega, rfl, L2.out, bare_new K N S G, by show G = _; omega⟩
    case round =>
      clear L2
      obtain ⟨t, x, ht, rfl, LX, hX, hB⟩ := hrel
      have LXH := Hid.intro LX
      have HX := Hid.intro hX
      have HBX := Hid.intro hB
      clear LX hX hB
      by_cases hlt : t < M
      · have t1 : (t : Int) < (M : Int) := by omega
        obtain ⟨q1, q2, q3, q4⟩ := bare_step HX.out hK (by rw [HBX.out]; omega)
        have Q2 := Hid.intro q2
        have Q3 := Hid.intro q3
        have Q4 := Hid.intro q4
        go_wp2_with fail
        refine (clbase LXH.out).mono ?_
        rintro e w3 ⟨rfl, _, L3⟩
        have s3 := clskip (x.base : Int) L3
        rw [q1] at s3
        have S3 := Hid.intro s3
        clear s3 q1 q2 q3 q4 LXH L3
        go_wp2_with fail
        refine S3.out.mono ?_
        rintro e w4 ⟨rfl, L4⟩
        have L4H := Hid.intro L4
        clear L4 S3
        go_wp2_with fail
        refine (cldue L4H.out).mono ?_
        rintro e w5 ⟨v5, rfl, ⟨a5, c5, rfl, _⟩, L5⟩
        rw [Q2.out]
        have L5H := Hid.intro L5
        clear L5 L4H
        go_wp2
        go_roundw
        case rel => exact ⟨t + 1, _, by omega, by go_num, L5H.out, Q3.out, by rw [Q4.out, HBX.out]; omega⟩
        case measure => simp [intOf]; omega
      · have hte : M = t := by omega
        subst hte
        have t1 : ¬ (M : Int) < (M : Int) := by omega
        have RD := Hid.intro (bare_ready HX.out hK)
        have hmod : ((G : Int) + (M : Int)) % 256 = (((G + M) % 256 : Nat) : Int) := by omega
        have s3 := clbase LXH.out
        rw [HBX.out] at s3
        have S3 := Hid.intro s3
        clear s3 hlt ht
        obtain ⟨Y, hY⟩ : ∃ Y, Y = (G + M) % 256 := ⟨_, rfl⟩
        rw [← hY] at hmod S3
        clear hY
        go_wp2_with fail
        refine S3.out.mono ?_
        rintro e w3 ⟨rfl, _, L3⟩
        have L3H := Hid.intro L3
        have s4 := clready L3H.out
        rw [RD.out] at s4
        have S4 := Hid.intro s4
        clear L3 S3 LXH s4
        go_wp2_with fail
        refine S4.out.mono ?_
        rintro e w4 ⟨rfl, _, L4⟩
        have O4 := B2H.out.trans (L4.out (B := w.heap.size) B2H.out.size (fun k hk => Nat.lt_of_lt_of_le hk B1H.out.size))
        clear L4 L3H S4
        go_wp2
        go_ret
        exact ⟨rfl, O4⟩

set_option maxRecDepth 100000 in
theorem lifted (os : Os) (started : os.Started) (H : Type) (enc : TypeId × Value → H) :
    ReturnsInHanded {} Try.checked os 6 .any (Rows.collectBaseSpec.pre6 enc Try.prog Try.f6 Rows.collectBaseRow.domain false) (Rows.collectBaseSpec.post enc Try.prog Try.f6 false true false false) := by
  refine returnsInHanded_of_change (C := Try.checked) own started (by kernel_rfl) Try.func6
    (ChangeSpec.witness6 (enc := enc) (C := Try.checked) false ⟨#[], #[.agg #[.int .i64 0, .int .i64 0, .int .i64 0], .int .i64 0, .int .u8 0], []⟩ 8 (by kernel_rfl) (by kernel_rfl) (by kernel_rfl) (by kernel_rfl)) ?_
  intro W base args ds gs before hval0 hW hcnd _
  have hval : ∀ (j : Nat) t v, Try.f6.params[j]? = some t → args[j]? = some v → Value.okWide Try.prog W .any base t v := hval0
  have hW' := hW
  obtain ⟨p, q, hA0, hV, rfl, hfz, hnd⟩ := hW
  have hA : DataW.TrodAll enc Try.prog W 0 (fun _ => true) true Try.f6.params.toList args.toList ds p := hA0
  rw [Try.params6] at hA hval
  obtain ⟨v0, vs0, d0, ds0, p0, q0, hargs, rfl, rfl, h0, r0⟩ := trodAll_cons hA
  obtain ⟨v1, vs1, d1, ds1, p1, q1, rfl, rfl, rfl, h1, r1⟩ := trodAll_cons r0
  obtain ⟨v2, vs2, d2, ds2, p2, q2, rfl, rfl, rfl, h2, r2⟩ := trodAll_cons r1
  obtain ⟨rfl, rfl, rfl⟩ := trodAll_nil r2
  obtain rfl : args = #[v0, v1, v2] := by cases args; simp_all
  obtain ⟨rfl, rfl⟩ := trodVars_none hV
  have k0 := h0
  have lt0 : ∀ x ∈ p0, x.block < W.heap.size := by obtain ⟨m, hm⟩ := k0; exact DataW.trod_lt m _ _ _ hm
  obtain ⟨kc0, nc0, sc0, rfl, w0⟩ := open_code (hval 0 23 v0 rfl rfl) h0
  obtain ⟨a1, rfl, rfl, rfl, w1⟩ := open_int Try.underlying3 (hval 1 3 v1 rfl rfl) h1
  obtain ⟨a2, rfl, rfl, rfl, w2⟩ := open_int Try.underlying5 (hval 2 5 v2 rfl rfl) h2
  clear hA0 hval0
  refine (walk kc0 nc0 sc0 a1 a2 W w0 w1 w2).mono fun e W' ⟨he, bel⟩ => ?_
  subst he
  exact ⟨_, rfl, _, _, _, [], _, [], hW', trodAll_mk1 (shut_bool Try.underlying4 _), (trodAll_cons_mk (Below.trod laidOut (by kernel_rfl) (of_decide_eq_true (by kernel_rfl)) k0 bel lt0) (trodAll_cons_mk (shut_int Try.underlying3 w1) (trodAll_cons_mk (shut_int Try.underlying5 w2) trodAll_mk0))), rfl, bel.frame _, fun h => by cases h⟩

theorem over : Rows.collectBaseRow.holds Try.pinned (OpenSpec.ofChange Rows.collectBaseSpec) :=
  OpenClaim.holds_of_wide 6 Try.f6 rfl rfl rfl rfl rfl rfl rfl ⟨rfl, rfl, rfl, rfl, rfl⟩ rfl rfl rfl rfl rfl (by kernel_rfl) Try.func6 (by kernel_rfl)
    (of_decide_eq_true (by kernel_rfl)) (by unfold Func.isWrapper; first | (rw [if_pos (by decide +kernel)]; kernel_rfl) | (rw [if_neg (by decide +kernel)]; exact ⟨rfl, rfl⟩))
    (fun os started H enc _ => lifted os started H enc)

end Go.Proofs.Ytceekoifljeddaa.LCollectBase

namespace Go.Proofs.Ytceekoifljeddaa
theorem collectBase_holds : Rows.CollectBaseSaid := LCollectBase.over
#print axioms collectBase_holds
end Go.Proofs.Ytceekoifljeddaa
