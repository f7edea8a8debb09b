/- The statement LimitDrops: a bed's limits go, and the others stand as they stood. -/
import Derived.Test.YtcloneccfbcclaaLmAlive
import Derived.Test.YtcloneccfbcclaaLmArg
import Derived.Test.YtcloneccfbcclaaLmSame
namespace Go.Proofs.Ytcloneccfbcclaa
open Go.ChangeShapes Go.WideShapes Go.ChangeAt Go.RowKit
open Bt

namespace LLimitDrops

/-- The limits that were set. -/
def stD (l : List Act14) : Nat → List Kp
  | 0 => []
  | t + 1 => match l[t]? with
    | some x => if x.kind = 0 then setT (stD l t) x.lm else stD l t
    | none => stD l t

theorem stD_at {l : List Act14} {t : Nat} (h : t < l.length) : stD l (t + 1) = if l[t].kind = 0 then setT (stD l t) l[t].lm else stD l t := by
  show (match l[t]? with | some x => _ | none => _) = _
  rw [List.getElem?_eq_getElem h]

/-- Those of other beds. -/
def othL (bed : Int) (l : List Lm) : List Lm := l.filter fun x => !decide (x.bed = bed)

theorem oth_take {bed : Int} {l : List Lm} {t : Nat} (h : t < l.length) : othL bed (l.take (t + 1)) = othL bed (l.take t) ++ (if l[t].bed = bed then [] else [l[t]]) := by
  unfold othL
  rw [List.take_succ_eq_append_getElem h, List.filter_append]
  congr 1
  by_cases q : l[t].bed = bed <;> simp [q]

theorem oth_drop (L : List Kp) (bed : Int) : othL bed (listT L) = listT (dropT L bed) := by
  unfold othL listT dropT
  rw [List.filter_map]
  rfl

theorem on_gone (L : List Kp) (bed kind : Int) : onK (dropT L bed) bed kind = false := by
  unfold onK
  rw [dropT_find, if_pos rfl]

set_option maxRecDepth 100000 in
set_option maxHeartbeats 4000000 in
theorem walk (a : Option Addr) (len cap : Nat) (l : List Act14) (bed : Int) (w : World) (hz : l.length = len ∧ (∀ x ∈ l, LmW x.lm) ∧ ActsAt14 w a l ∧ len ≤ maxLen) (hbed : (Lit.int .i64 bed).wf = true) :
    Calls Try.prog 7 #[.slice a len cap, .int .i64 bed] w fun e w' => e = .returned (.bool true) ∧ Below w.heap.size w w' := by
  obtain ⟨rfl, _, hact, hmx⟩ := hz
  have HA := Hid.intro hact
  have AL := Hid.intro (alive14_any w)
  have ho : okO (bed, 1) := ⟨hbed, rfl⟩
  obtain ⟨len, hlen⟩ : ∃ len, len = l.length := ⟨_, rfl⟩
  have HLEN := Hid.intro hlen
  rw [← hlen] at hmx ⊢
  unfold maxLen at hmx
  clear hact hlen hbed
  go_enter Try.func7, Try.ntmps7
  go_wp2_with fail
  refine AL.out.mono ?_
  rintro e w1 ⟨rfl, B1⟩
  have BH := Hid.intro B1
  clear AL B1
  by_cases hl : 100 < len
  · have hl2 : (100 : Int) < (len : Int) := by omega
    go_wp2
    go_ret
    exact ⟨rfl, BH.out⟩
  have hl2 : ¬ (100 : Int) < (len : Int) := by omega
  go_wp2_with fail
  refine (lnew_any w1).mono ?_
  rintro e w2 ⟨b, T, rfl, hS, hF, BN⟩
  have L2 := Hid.intro (one_new (P := TB b [] 0) hS hF BN)
  clear hS hF BN
  go_wp2_with fail
  go_loopw [6] (fun iv ws => ∃ t : Nat, t ≤ len ∧ iv = .int .i64 t ∧ One (TB b (stD l t) 0) (fun k => k < w1.heap.size) w1 ws) (fun iv _ => len - (intOf iv).toNat)
  case atStart => exact ⟨0, by omega, rfl, L2.out⟩
  case round =>
    clear L2
    obtain ⟨t, ht, rfl, hL⟩ := hrel
    by_cases hlt : t < len
    · have hlt' : t < l.length := by rw [← HLEN.out]; exact hlt
      obtain ⟨ab, off, ea, hab, hcell⟩ := HA.out (by omega)
      subst ea
      have s1 := BH.out.size
      obtain ⟨c0, c1, c2, c3, c4, c5, c6⟩ := ((hcell t hlt').below BH.out).chg hL.chg (fun q => q (show ab < w1.heap.size by omega))
      have SD := Hid.intro (stD_at (l := l) hlt')
      have TS := tset l[t].lm hL
      have t0 : (0 : Int) ≤ (t : Int) := by omega
      have t1 : (t : Int) < (len : Int) := by omega
      have LH := Hid.intro hL
      generalize l[t] = x at *
      obtain ⟨k, vv, ⟨x0, x1, x2, x3, x4⟩⟩ := x
      simp only at c0 c1 c2 c3 c4 c5 c6
      have TSH := Hid.intro TS
      clear TS hL hcell s1
      by_cases hk : k = 0
      · subst hk
        have SE : Hid (stD l (t + 1) = setT (stD l t) ⟨x0, x1, x2, x3, x4⟩) := by rw [Hid, SD.out, if_pos rfl]
        go_wp2_with fail
        refine TSH.out.mono ?_
        rintro e w4 ⟨rfl, l4⟩
        have L4 := Hid.intro (show One (TB b (stD l (t + 1)) 0) (fun k => k < w1.heap.size) w1 w4 by rw [SE.out]; exact l4)
        clear l4 TSH SE SD LH c0 c1 c2 c3 c4 c5 c6
        go_wp2
        go_roundw
        case rel => exact ⟨t + 1, by omega, by go_num, L4.out⟩
        case measure => simp [intOf]; omega
      · have hk2 : (k == 0) = false := by simpa using hk
        have L4 := Hid.intro (show One (TB b (stD l (t + 1)) 0) (fun k => k < w1.heap.size) w1 wr by rw [SD.out, if_neg hk]; exact LH.out)
        clear TSH SD LH c1 c2 c3 c4 c5 c6 hk
        go_wp2
        go_roundw
        case rel => exact ⟨t + 1, by omega, by go_num, L4.out⟩
        case measure => simp [intOf]; omega
    · obtain rfl : t = len := by omega
      have t1 : ¬ (t : Int) < (t : Int) := by omega
      generalize stD l t = L at *
      have few := (one_ok hL).few
      have LS := Hid.intro (tlist hL)
      clear hL
      go_wp2_with fail
      refine LS.out.mono ?_
      rintro e w3 ⟨vw, rfl, hw, l3, B3⟩
      have HW := Hid.intro hw
      obtain ⟨aw, cw, hvw⟩ := hw.len
      subst hvw
      have lenT : (listT L).length = L.length := by simp [listT]
      rw [lenT] at HW ⊢
      have L3 := Hid.intro l3
      clear LS hw l3 B3
      generalize hN : L.length = N at *
      have HN := Hid.intro hN
      clear hN
      go_wp2_with fail
      generalize wr = wx at *
      go_loopw [7, 9] (fun gv iv ws => ∃ s : Nat, s ≤ N ∧ iv = .int .i64 s ∧ Below w3.heap.size w3 ws ∧ ws.ownsRow 0 30 5 gv (othL bed ((listT L).take s)).length (lcells (othL bed ((listT L).take s))) ∧ ∀ k, gv.ownBlock = some k → w3.heap.size ≤ k) (fun _ iv _ => N - (intOf iv).toNat)
      case atStart => exact ⟨0, by omega, rfl, Below.refl _ _, World.ownsRow_nil _ _ _ _, fun k hk => by cases hk⟩
      case round =>
        obtain ⟨s, hs, rfl, hB, own, hge⟩ := hrel
        have BB := Hid.intro hB
        have OW := Hid.intro own
        have GE := Hid.intro hge
        by_cases hst : s < N
        · have hst' : s < (listT L).length := by rw [lenT]; exact hst
          have hw4 := HW.out.below hB
          obtain ⟨pb, of, ea, _, c0, c1, c2, c3, c4⟩ := hw4.at hst'
          subst ea
          have OT := Hid.intro (oth_take (bed := bed) hst')
          have ol : Hid ((othL bed ((listT L).take s)).length ≤ N) := by
            have h1 : (othL bed ((listT L).take s)).length ≤ ((listT L).take s).length := List.length_filter_le _ _
            rw [List.length_take] at h1
            rw [Hid]
            omega
          generalize (listT L)[s] = x at *
          obtain ⟨x0, x1, x2, x3, x4⟩ := x
          simp only at c0 c1 c2 c3 c4
          have s0 : (0 : Int) ≤ (s : Int) := by omega
          have s1 : (s : Int) < (N : Int) := by omega
          by_cases hbd : x0 = bed
          · have OE : Hid (othL bed ((listT L).take (s + 1)) = othL bed ((listT L).take s)) := by rw [Hid, OT.out, if_pos hbd, List.append_nil]
            have hb2 : (x0 != bed) = false := by simpa using hbd
            have O2 := Hid.intro (show wr.ownsRow 0 30 5 u7 (othL bed ((listT L).take (s + 1))).length (lcells (othL bed ((listT L).take (s + 1)))) by rw [OE.out]; exact OW.out)
            clear hB own hge hw4 OT ol OE OW hbd hst'
            go_wp2
            go_roundw
            case rel => exact ⟨s + 1, by omega, by go_num, BB.out, O2.out, GE.out⟩
            case measure => simp [intOf]; omega
          · have OE : Hid (othL bed ((listT L).take (s + 1)) = othL bed ((listT L).take s) ++ [⟨x0, x1, x2, x3, x4⟩]) := by rw [Hid, OT.out, if_neg hbd]
            have hb2 : (x0 != bed) = true := by simpa using hbd
            have BA := (Below.refl wr.heap.size wr).alloc (Nat.le_refl _) (.cells #[.int .i64 x0, .int .i64 x1, .int .i64 x2, .int .i64 x3, .int .i64 x4] 30)
            have OA := Hid.intro (ownsRow_keep own fun k hk => BA.block k (World.ownsRow.lt own k hk).2)
            have LS := Hid.intro (lms_block (l := [⟨x0, x1, x2, x3, x4⟩]) (c := 1) (heap_alloc_new wr (.cells #[.int .i64 x0, .int .i64 x1, .int .i64 x2, .int .i64 x3, .int .i64 x4] 30)) (by simp))
            have BW := Hid.intro (hB.trans (BA.mono hB.size))
            have NB : Hid ((othL bed ((listT L).take s)).length + 1 ≤ 100000) := by have := ol.out; rw [Hid]; omega
            clear hB own hge hw4 OT ol hbd hst' BA OW
            generalize othL bed ((listT L).take s) = ot at *
            go_wp2_with (at_builtin; refine append_lims rfl _ _ rfl u7 ot.length ot rfl rfl OA.out (fun k => k = wr.heap.size) (some ⟨wr.heap.size, 0, none⟩) 1 1 [⟨x0, x1, x2, x3, x4⟩] rfl rfl LS.out (fun q => by cases q) NB.out ?_; intro v' wb hown hgrow hat)
            obtain ⟨z1, z2⟩ := grownL hgrow hat BW.out (Nat.le_refl _) GE.out
            have Z1 := Hid.intro z1
            have Z2 := Hid.intro z2
            have hl3 : ot.length + 1 = (ot ++ [(⟨x0, x1, x2, x3, x4⟩ : Lm)]).length := by simp
            rw [hl3, ← OE.out] at hown
            have Z3 := Hid.intro hown
            clear hown hgrow hat z1 z2 hl3 OE OA LS BW NB c0 c1 c2 c3 c4
            go_wp2
            go_roundw
            case rel => exact ⟨s + 1, by omega, by go_num, Z1.out, Z3.out, Z2.out⟩
            case measure => simp [intOf]; omega
        · obtain rfl : s = N := by omega
          have s1 : ¬ (s : Int) < (s : Int) := by omega
          have TA : (listT L).take s = listT L := List.take_of_length_le (by rw [lenT]; exact Nat.le_refl _)
          rw [TA, oth_drop] at OW
          have LD := L3.out.grow (tb_owned _ _ _) hB
          have GR := one_ok LD
          have DR := Hid.intro (tdrop bed LD)
          have sz3 := L3.out.chg.size
          have szr := hB.size
          have BW3 := Hid.intro (BH.out.trans (((L3.out.out (Nat.le_refl _)).trans (hB.mono sz3)).mono BH.out.size))
          have DN : Hid (dropN L bed + (listT (dropT L bed)).length = s) := by
            have := drop_len L bed
            have e : (listT (dropT L bed)).length = (dropT L bed).length := by simp [listT]
            have := HN.out
            rw [Hid, e]
            omega
          have ON := Hid.intro (on_gone L bed 1)
          have fewD := (dropT_ok GR bed).few
          have lmsD := Hid.intro (lms_of_owns (R := fun k => w3.heap.size ≤ k ∧ k < wr.heap.size) OW.out (fun k hk => ⟨GE.out k hk, (World.ownsRow.lt OW.out k hk).2⟩))
          obtain ⟨al, cl, hvl⟩ := lmsD.out.len
          subst hvl
          obtain ⟨dn, hdn⟩ : ∃ dn, dn = dropN L bed := ⟨_, rfl⟩
          rw [← hdn] at DN DR
          obtain ⟨ln, hln⟩ : ∃ ln, ln = (listT (dropT L bed)).length := ⟨_, rfl⟩
          rw [← hln] at DN lmsD OW ⊢
          have sd : (s : Int) - (ln : Int) = (dn : Int) := by have := DN.out; omega
          have ld40 : dn ≤ 40 := by have := DN.out; have := HN.out; omega
          have lll : Hid ((listT (dropT L bed)).length ≤ 1000) := by rw [Hid]; simp [listT]; omega
          clear hB own hge LD GR L3 OW GE hdn hln TA
          go_wp2_with fail
          refine DR.out.mono ?_
          rintro e w5 ⟨rfl, l5⟩
          have LI := Hid.intro (tlist l5)
          clear DR l5
          go_wp2_with fail
          refine LI.out.mono ?_
          rintro e w6 ⟨v6, rfl, hl6, l6, _⟩
          have lm6 := lmsD.out.kept l6.chg (fun k hk q => q (.inr hk))
          have SM := refSame14_any _ _ _ _ _ _ lll.out lll.out w6 hl6 lm6
          rw [decide_eq_true rfl] at SM
          have SMH := Hid.intro SM
          have L6 := Hid.intro l6
          clear LI hl6 lm6 SM l6
          go_wp2_with fail
          refine SMH.out.mono ?_
          rintro e w7 ⟨rfl, B7⟩
          have OO := ton bed 1 ho (L6.out.below (tb_owned _ _ _) B7)
          rw [ON.out] at OO
          have OOH := Hid.intro OO
          clear SMH B7 L6 OO
          go_wp2_with fail
          refine OOH.out.mono ?_
          rintro e w8 ⟨rfl, l8⟩
          have B8 := l8.chg.below (B := w1.heap.size) (by omega) (fun k hk => by
            rcases Nat.lt_or_ge k w1.heap.size with q | q
            · exact absurd (Or.inl q) hk
            · exact q)
          have sz1 := BH.out.size
          have FI := Hid.intro (BW3.out.trans (B8.mono sz1))
          clear OOH l8 B8
          go_wp2
          go_ret
          exact ⟨rfl, FI.out⟩

set_option maxRecDepth 100000 in
theorem lifted (os : Os) (started : os.Started) (H : Type) (enc : TypeId × Value → H) :
    ReturnsInHanded {} Try.checked os 7 .any (Rows.limitDropsSpec.pre6 enc Try.prog Try.f7 Rows.limitDropsRow.domain false) (Rows.limitDropsSpec.post enc Try.prog Try.f7 false true false false) := by
  refine returnsInHanded_of_change (C := Try.checked) own started (by kernel_rfl) Try.func7
    (ChangeSpec.witness6 (enc := enc) (C := Try.checked) false ⟨#[], #[.slice none 0 0, .int .i64 0], []⟩ 8 (by kernel_rfl) (by kernel_rfl) (by kernel_rfl) (by kernel_rfl)) ?_
  intro W base args ds gs before hval0 hW hcnd _
  have hval : ∀ (j : Nat) t v, Try.f7.params[j]? = some t → args[j]? = some v → Value.okWide Try.prog W .any base t v := hval0
  have hW' := hW
  obtain ⟨p, q, hA0, hV, rfl, hfz, hnd⟩ := hW
  have hA : DataW.TrodAll enc Try.prog W 0 (fun _ => true) true Try.f7.params.toList args.toList ds p := hA0
  rw [Try.params7] at hA hval
  obtain ⟨v0, vs0, d0, ds0, p0, q0, hargs, rfl, rfl, h0, r0⟩ := trodAll_cons hA
  obtain ⟨v1, vs1, d1, ds1, p1, q1, rfl, rfl, rfl, h1, r1⟩ := trodAll_cons r0
  obtain ⟨rfl, rfl, rfl⟩ := trodAll_nil r1
  obtain rfl : args = #[v0, v1] := by cases args; simp_all
  obtain ⟨rfl, rfl⟩ := trodVars_none hV
  have k0 := h0
  have lt0 : ∀ x ∈ p0, x.block < W.heap.size := by obtain ⟨m, hm⟩ := k0; exact DataW.trod_lt m _ _ _ hm
  obtain ⟨a0, len0, cap0, rfl⟩ := okWide_slice Try.underlying22 (hval 0 22 v0 rfl rfl)
  obtain ⟨z0, w0⟩ := open_acts h0
  obtain ⟨a1, rfl, rfl, rfl, w1⟩ := open_int Try.underlying3 (hval 1 3 v1 rfl rfl) h1
  clear hA0 hval0
  refine (walk a0 len0 cap0 z0 a1 W w0 w1).mono fun e W' ⟨he, bel⟩ => ?_
  subst he
  exact ⟨_, rfl, _, _, _, [], _, [], hW', trodAll_mk1 (shut_bool Try.underlying4 _), (trodAll_cons_mk (Below.trod laidOut (by kernel_rfl) (of_decide_eq_true (by kernel_rfl)) k0 bel lt0) (trodAll_cons_mk (shut_int Try.underlying3 w1) trodAll_mk0)), rfl, bel.frame _, fun h => by cases h⟩

theorem over : Rows.limitDropsRow.holds Try.pinned (OpenSpec.ofChange Rows.limitDropsSpec) :=
  OpenClaim.holds_of_wide 7 Try.f7 rfl rfl rfl rfl rfl rfl rfl ⟨rfl, rfl, rfl, rfl, rfl⟩ rfl rfl rfl rfl rfl (by kernel_rfl) Try.func7 (by kernel_rfl)
    (of_decide_eq_true (by kernel_rfl)) (by unfold Func.isWrapper; first | (rw [if_pos (by decide +kernel)]; kernel_rfl) | (rw [if_neg (by decide +kernel)]; exact ⟨rfl, rfl⟩))
    (fun os started H enc _ => lifted os started H enc)

end Go.Proofs.Ytcloneccfbcclaa.LLimitDrops

namespace Go.Proofs.Ytcloneccfbcclaa
theorem limitDrops_holds : Rows.LimitDropsSaid := LLimitDrops.over
#print axioms limitDrops_holds
end Go.Proofs.Ytcloneccfbcclaa
