/- The statement ShedCause: a bed isn't at Full only if one of the last ticks, as many as are waited for, was overloaded, and behind so many calm ones all are. -/
import Derived.Test.YthfmgdhhjnngaaaShAlive
import Derived.Test.YthfmgdhhjnngaaaShArg
import Derived.Deep.RegionHeld3
namespace Go.Proofs.Ythfmgdhhjnngaaa
open Go.ChangeShapes Go.WideShapes Go.ChangeAt Go.RowKit Go.Joins
open Bt

namespace LShedCause

/-- What holds between two acts: so many ticks since the last overloaded one. -/
def CInv (C s : Nat) (x : Ctl) : Prop := x.waits = C ∧ (C ≤ s → ∀ t ∈ x.beds, t.lv = 0) ∧ (s < C → x.calm = s)

theorem inv_add {C s : Nat} {x : Ctl} (h : CInv C s x) (b p : Int) : CInv C s (addC x b p) := by
  unfold addC
  split
  · refine ⟨h.1, fun q t ht => ?_, h.2.2⟩
    rcases ins_mem ht with rfl | r
    · rfl
    · exact h.2.1 q t r
  · exact h

theorem inv_rem {C s : Nat} {x : Ctl} (h : CInv C s x) (b : Int) : CInv C s (remC x b) := ⟨h.1, fun q t ht => h.2.1 q t (List.mem_of_mem_eraseIdx ht), h.2.2⟩

theorem inv_over {C s : Nat} {x : Ctl} (h : CInv C s x) (hC : 1 ≤ C) : CInv C 0 (tickC x true) :=
  ⟨by rw [tickC_waits]; exact h.1, fun q => absurd q (by omega), fun _ => by simp [tickC]⟩

theorem inv_calm {C s : Nat} {x : Ctl} (h : CInv C s x) : CInv C (s + 1) (tickC x false) := by
  obtain ⟨h1, h2, h3⟩ := h
  refine ⟨by rw [tickC_waits]; exact h1, fun q t ht => ?_, fun q => ?_⟩
  · unfold tickC at ht
    rw [if_neg (by simp)] at ht
    split at ht
    · obtain ⟨r, _, rfl⟩ := List.mem_map.1 ht
      rfl
    · rename_i e
      by_cases hs : C ≤ s
      · exact h2 hs t ht
      · exact absurd (h3 (by omega)) (fun k => e (by omega))
  · have := h3 (by omega)
    unfold tickC
    rw [if_neg (by simp), if_neg (by omega)]
    show x.calm + 1 = s + 1
    omega

theorem lev_inv {C s : Nat} {x : Ctl} (h : CInv C s x) {k : Nat} (hk : k < x.beds.length) : x.beds[k].lv = 0 ∨ s < C := by
  by_cases q : C ≤ s
  · exact .inl (h.2.1 q _ (List.getElem_mem hk))
  · exact .inr (by omega)

theorem ord_at {x : Ctl} {k : Nat} (hk : k < (ordS x).length) : ∃ h : k < x.beds.length, (ordS x)[k] = x.beds[k].bed := by
  have h : k < x.beds.length := by simpa [ordS] using hk
  exact ⟨h, by simp [ordS]⟩

theorem hllevelB {F : Nat → Prop} {w0 w : World} {b : Nat} {x : Ctl} (bed : Int) (h : HL F w0 w b x) :
    Calls Try.prog 14 #[.pointer (some ⟨b, 0, none⟩), .int .i64 bed] w fun e w' => e = .returned (.int .i64 (levS x bed : Int)) ∧ Below w.heap.size w w' := by
  obtain ⟨S, h1, _⟩ := h
  exact hlevel_any b bed S x w h1

set_option maxRecDepth 100000 in
set_option maxHeartbeats 4000000 in
theorem walk_main (calm : Int) (ao : Option Addr) (c : Nat) (l : List Act13) (w : World) (h : ActsAt13 w ao l) :
    Calls Try.prog 5 #[.int .i64 calm, .slice ao l.length c] w fun e w' => e = .returned (.bool true) ∧ Below w.heap.size w w' := by
  have AL := Hid.intro (alive13_any w)
  have HS := Hid.intro h
  obtain ⟨L, hL⟩ : ∃ L, L = l.length := ⟨_, rfl⟩
  have HL' := Hid.intro hL
  rw [← hL]
  clear hL h
  by_cases hc : calm < 1 ∨ 1000 < calm
  · have NN := Hid.intro (hnew_no calm hc)
    clear hc
    by_cases h100 : (100 : Int) < (L : Int)
    all_goals
      go_enter Try.func5, Try.ntmps5
      go_wp2_with fail
      refine AL.out.mono ?_
      rintro e w1 ⟨rfl, B1⟩
      have BH := Hid.intro B1
      clear AL B1
      go_wp2_with fail
      refine (NN.out w1).mono ?_
      rintro e w2 ⟨rfl, B2⟩
      have B2H := Hid.intro (BH.out.trans (B2.mono BH.out.size))
      clear NN BH B2
      go_wp2
      go_ret
      exact ⟨rfl, B2H.out⟩
  · obtain ⟨C, rfl⟩ := Int.eq_ofNat_of_zero_le (show 0 ≤ calm by omega)
    have hC1 : 1 ≤ C := by omega
    have hC2 : C ≤ 1000 := by omega
    have NY := Hid.intro (hnew_yes C hC1 hC2)
    clear hc
    by_cases h100 : (100 : Int) < (L : Int)
    · go_enter Try.func5, Try.ntmps5
      go_wp2_with fail
      refine AL.out.mono ?_
      rintro e w1 ⟨rfl, B1⟩
      have BH := Hid.intro B1
      clear AL B1
      go_wp2_with fail
      refine (NY.out w1).mono ?_
      rintro e w2 ⟨b, T, rfl, hS, hF, B2⟩
      have B2H := Hid.intro (BH.out.trans (B2.mono BH.out.size))
      clear NY BH B2 hS hF
      go_wp2
      go_ret
      exact ⟨rfl, B2H.out⟩
    have hL100 : L ≤ 100 := by omega
    go_enter Try.func5, Try.ntmps5
    go_wp2_with fail
    refine AL.out.mono ?_
    rintro e w1 ⟨rfl, B1⟩
    have BH := Hid.intro B1
    clear AL B1
    go_wp2_with fail
    refine (NY.out w1).mono ?_
    rintro e w2 ⟨b, T, rfl, hS, hF, B2⟩
    have L2H := Hid.intro (hl_new hS hF B2)
    have I0 : Hid (CInv C 1001 ⟨C, 0, []⟩) := ⟨rfl, fun _ t ht => (by cases ht), fun q => absurd q (by omega)⟩
    clear NY hS hF B2
    go_wp2_with fail
    go_loopw [6, 7] (fun sv iv ws => ∃ (t s : Nat) (x : Ctl), t ≤ L ∧ s ≤ 1001 + t ∧ iv = .int .i64 t ∧ sv = .int .i64 s ∧ HL (fun k => k < w1.heap.size) w1 ws b x ∧ CInv C s x) (fun _ iv _ => L - (intOf iv).toNat)
    case atStart => exact ⟨0, 1001, _, by omega, by omega, rfl, rfl, L2H.out, I0.out⟩
    case round =>
      clear L2H I0
      obtain ⟨t, s, x, ht, hs, rfl, rfl, hH, hI⟩ := hrel
      by_cases hlt : t < L
      · have hlt' : t < l.length := by rw [← HL'.out]; exact hlt
        have t0 : (0 : Int) ≤ (t : Int) := by omega
        have t1 : (t : Int) < (L : Int) := by omega
        obtain ⟨pb, off, rfl, hcc⟩ := HS.out (by omega)
        obtain ⟨d0, d1, d2⟩ := (((hcc t hlt').below BH.out).chg hH.chg (fun q => q (Nat.lt_of_lt_of_le (cell_lt (hcc t hlt').1) BH.out.size)))
        have pbl : pb < w1.heap.size := Nat.lt_of_lt_of_le (cell_lt (hcc t hlt').1) BH.out.size
        have AK := Hid.intro (fun (W : World) (x' : Ctl) (hW : HL (fun k => k < w1.heap.size) w1 W b x') => (show W.cell? ⟨pb, off + t * 3 + 1, none⟩ = some (.int .i64 l[t].bed) ∧ W.cell? ⟨pb, off + t * 3 + 2, none⟩ = some (.int .i64 l[t].prio) from
          ⟨hW.cell ((hcc t hlt').below BH.out).2.1 pbl, hW.cell ((hcc t hlt').below BH.out).2.2 pbl⟩))
        have IH := Hid.intro hI
        have HHH := Hid.intro hH
        clear hcc hI hH
        generalize l[t] = ac at *
        obtain ⟨kd, bd, pr⟩ := ac
        simp only at d0 d1 d2 AK
        by_cases e0 : kd = 0
        · subst e0
          have AD := Hid.intro (hladd bd pr (HHH.out.below ((Below.refl _ wr).drew)))
          have I4 := Hid.intro (inv_add IH.out bd pr)
          go_wp2_with fail
          go_region_held3 (fun W => W.cell? ⟨pb, off + t * 3 + 1, none⟩ = some (.int .i64 bd) ∧ W.cell? ⟨pb, off + t * 3 + 2, none⟩ = some (.int .i64 pr))
            (first | exact AK.out _ _ L4 | go_keep)
            (first | (go_at_call 11; refine AD.out.mono ?_; rintro e w4 ⟨rfl, L4⟩) | fail)
          clear AD d0 d1 d2 AK IH HHH
          have OKX := Hid.intro L4.ok
          have OR := Hid.intro (hlorder L4)
          have L4H := Hid.intro L4
          clear L4
          generalize addC x bd pr = X at *
          go_wp2_with fail
          refine OR.out.mono ?_
          rintro e w5 ⟨v5, rfl, n5, L5, B5⟩
          obtain ⟨oa, oc, rfl⟩ := n5.len
          have N5 := Hid.intro n5
          have L5H := Hid.intro L5
          have n8 : (ordS X).length ≤ 8 := by have := OKX.out.few; simpa [ordS] using this
          clear OR n5 L5 B5 L4H
          obtain ⟨n, hn⟩ : ∃ n, n = (ordS X).length := ⟨_, rfl⟩
          have HN := Hid.intro hn
          rw [← hn] at n8 ⊢
          clear hn
          go_wp2_with fail
          generalize wr = wx at *
          go_loopw [9] (fun iv ws => ∃ r : Nat, r ≤ n ∧ iv = .int .i64 r ∧ Below w5.heap.size w5 ws) (fun iv _ => n - (intOf iv).toNat)
          case atStart => exact ⟨0, by omega, rfl, Below.refl _ _⟩
          case round =>
            obtain ⟨r, hr, rfl, hB⟩ := hrel
            by_cases hrn : r < n
            · have hrn' : r < (ordS X).length := by rw [← HN.out]; exact hrn
              obtain ⟨pb5, of5, rfl, _, hq5⟩ := N5.out.at.2 (by omega)
              have cr := cell_chg (below_chg hB) (hq5 r hrn') id
              obtain ⟨hrb, eo⟩ := ord_at hrn'
              have LV := hllevelB (ordS X)[r] (L5H.out.below hB)
              rw [eo, levS_at OKX.out.once hrb] at LV
              rw [eo] at cr
              have LVH := Hid.intro LV
              have or := lev_inv I4.out hrb
              have BX := Hid.intro hB
              have r0 : (0 : Int) ≤ (r : Int) := by omega
              have r1 : (r : Int) < (n : Int) := by omega
              clear LV hB hq5 eo
              generalize X.beds[r].lv = lv at *
              generalize X.beds[r].bed = bdd at *
              rcases or with e0 | e0
              · subst e0
                go_wp2_with fail
                refine LVH.out.mono ?_
                rintro e w6 ⟨rfl, B6⟩
                have B6H := Hid.intro (BX.out.trans (B6.mono BX.out.size))
                clear LVH B6 BX cr
                go_wp2
                go_roundw
                case rel => exact ⟨r + 1, by omega, by go_num, B6H.out⟩
                case measure => simp [intOf]; omega
              · have e1 : ¬ (C : Int) ≤ (s : Int) := by omega
                by_cases elv : lv = 0
                · subst elv
                  go_wp2_with fail
                  refine LVH.out.mono ?_
                  rintro e w6 ⟨rfl, B6⟩
                  have B6H := Hid.intro (BX.out.trans (B6.mono BX.out.size))
                  clear LVH B6 BX cr
                  go_wp2
                  go_roundw
                  case rel => exact ⟨r + 1, by omega, by go_num, B6H.out⟩
                  case measure => simp [intOf]; omega
                · have e2 : ((lv : Int) != 0) = true := by simp; omega
                  go_wp2_with fail
                  refine LVH.out.mono ?_
                  rintro e w6 ⟨rfl, B6⟩
                  have B6H := Hid.intro (BX.out.trans (B6.mono BX.out.size))
                  clear LVH B6 BX cr
                  go_wp2
                  go_roundw
                  case rel => exact ⟨r + 1, by omega, by go_num, B6H.out⟩
                  case measure => simp [intOf]; omega
            · obtain rfl : r = n := by omega
              have r1 : ¬ (r : Int) < (r : Int) := by omega
              have LZ := Hid.intro (L5H.out.below hB)
              clear hB N5 L5H
              go_wp2
              go_roundw
              case rel => exact ⟨t + 1, s, X, by omega, by omega, by go_num, rfl, LZ.out, I4.out⟩
              case measure => simp [intOf]; omega
        · have e0' : (kd == 0) = false := by rw [beq_eq_false_iff_ne]; exact e0
          by_cases e1 : kd = 1
          · subst e1
            have AD := Hid.intro (hlremove bd HHH.out)
            have I4 := Hid.intro (inv_rem IH.out bd)
            go_wp2_with fail
            refine AD.out.mono ?_
            rintro e w4 ⟨rfl, L4⟩
            clear AD d0 d1 d2 AK IH HHH
            have OKX := Hid.intro L4.ok
            have OR := Hid.intro (hlorder L4)
            have L4H := Hid.intro L4
            clear L4
            generalize remC x bd = X at *
            go_wp2_with fail
            refine OR.out.mono ?_
            rintro e w5 ⟨v5, rfl, n5, L5, B5⟩
            obtain ⟨oa, oc, rfl⟩ := n5.len
            have N5 := Hid.intro n5
            have L5H := Hid.intro L5
            have n8 : (ordS X).length ≤ 8 := by have := OKX.out.few; simpa [ordS] using this
            clear OR n5 L5 B5 L4H
            obtain ⟨n, hn⟩ : ∃ n, n = (ordS X).length := ⟨_, rfl⟩
            have HN := Hid.intro hn
            rw [← hn] at n8 ⊢
            clear hn
            go_wp2_with fail
            generalize wr = wx at *
            go_loopw [9] (fun iv ws => ∃ r : Nat, r ≤ n ∧ iv = .int .i64 r ∧ Below w5.heap.size w5 ws) (fun iv _ => n - (intOf iv).toNat)
            case atStart => exact ⟨0, by omega, rfl, Below.refl _ _⟩
            case round =>
              obtain ⟨r, hr, rfl, hB⟩ := hrel
              by_cases hrn : r < n
              · have hrn' : r < (ordS X).length := by rw [← HN.out]; exact hrn
                obtain ⟨pb5, of5, rfl, _, hq5⟩ := N5.out.at.2 (by omega)
                have cr := cell_chg (below_chg hB) (hq5 r hrn') id
                obtain ⟨hrb, eo⟩ := ord_at hrn'
                have LV := hllevelB (ordS X)[r] (L5H.out.below hB)
                rw [eo, levS_at OKX.out.once hrb] at LV
                rw [eo] at cr
                have LVH := Hid.intro LV
                have or := lev_inv I4.out hrb
                have BX := Hid.intro hB
                have r0 : (0 : Int) ≤ (r : Int) := by omega
                have r1 : (r : Int) < (n : Int) := by omega
                clear LV hB hq5 eo
                generalize X.beds[r].lv = lv at *
                generalize X.beds[r].bed = bdd at *
                rcases or with e0 | e0
                · subst e0
                  go_wp2_with fail
                  refine LVH.out.mono ?_
                  rintro e w6 ⟨rfl, B6⟩
                  have B6H := Hid.intro (BX.out.trans (B6.mono BX.out.size))
                  clear LVH B6 BX cr
                  go_wp2
                  go_roundw
                  case rel => exact ⟨r + 1, by omega, by go_num, B6H.out⟩
                  case measure => simp [intOf]; omega
                · have e1 : ¬ (C : Int) ≤ (s : Int) := by omega
                  by_cases elv : lv = 0
                  · subst elv
                    go_wp2_with fail
                    refine LVH.out.mono ?_
                    rintro e w6 ⟨rfl, B6⟩
                    have B6H := Hid.intro (BX.out.trans (B6.mono BX.out.size))
                    clear LVH B6 BX cr
                    go_wp2
                    go_roundw
                    case rel => exact ⟨r + 1, by omega, by go_num, B6H.out⟩
                    case measure => simp [intOf]; omega
                  · have e2 : ((lv : Int) != 0) = true := by simp; omega
                    go_wp2_with fail
                    refine LVH.out.mono ?_
                    rintro e w6 ⟨rfl, B6⟩
                    have B6H := Hid.intro (BX.out.trans (B6.mono BX.out.size))
                    clear LVH B6 BX cr
                    go_wp2
                    go_roundw
                    case rel => exact ⟨r + 1, by omega, by go_num, B6H.out⟩
                    case measure => simp [intOf]; omega
              · obtain rfl : r = n := by omega
                have r1 : ¬ (r : Int) < (r : Int) := by omega
                have LZ := Hid.intro (L5H.out.below hB)
                clear hB N5 L5H
                go_wp2
                go_roundw
                case rel => exact ⟨t + 1, s, X, by omega, by omega, by go_num, rfl, LZ.out, I4.out⟩
                case measure => simp [intOf]; omega
          · have e1' : (kd == 1) = false := by rw [beq_eq_false_iff_ne]; exact e1
            by_cases e2 : kd = 2
            · subst e2
              have AD := Hid.intro (hltick true HHH.out)
              have I4 := Hid.intro (inv_over IH.out hC1)
              go_wp2_with fail
              refine AD.out.mono ?_
              rintro e w4 ⟨rfl, L4⟩
              clear AD d0 d1 d2 AK IH HHH
              have OKX := Hid.intro L4.ok
              have OR := Hid.intro (hlorder L4)
              have L4H := Hid.intro L4
              clear L4
              generalize tickC x true = X at *
              go_wp2_with fail
              refine OR.out.mono ?_
              rintro e w5 ⟨v5, rfl, n5, L5, B5⟩
              obtain ⟨oa, oc, rfl⟩ := n5.len
              have N5 := Hid.intro n5
              have L5H := Hid.intro L5
              have n8 : (ordS X).length ≤ 8 := by have := OKX.out.few; simpa [ordS] using this
              clear OR n5 L5 B5 L4H
              obtain ⟨n, hn⟩ : ∃ n, n = (ordS X).length := ⟨_, rfl⟩
              have HN := Hid.intro hn
              rw [← hn] at n8 ⊢
              clear hn
              go_wp2_with fail
              generalize wr = wx at *
              go_loopw [9] (fun iv ws => ∃ r : Nat, r ≤ n ∧ iv = .int .i64 r ∧ Below w5.heap.size w5 ws) (fun iv _ => n - (intOf iv).toNat)
              case atStart => exact ⟨0, by omega, rfl, Below.refl _ _⟩
              case round =>
                obtain ⟨r, hr, rfl, hB⟩ := hrel
                by_cases hrn : r < n
                · have hrn' : r < (ordS X).length := by rw [← HN.out]; exact hrn
                  obtain ⟨pb5, of5, rfl, _, hq5⟩ := N5.out.at.2 (by omega)
                  have cr := cell_chg (below_chg hB) (hq5 r hrn') id
                  obtain ⟨hrb, eo⟩ := ord_at hrn'
                  have LV := hllevelB (ordS X)[r] (L5H.out.below hB)
                  rw [eo, levS_at OKX.out.once hrb] at LV
                  rw [eo] at cr
                  have LVH := Hid.intro LV
                  have or := lev_inv I4.out hrb
                  have BX := Hid.intro hB
                  have r0 : (0 : Int) ≤ (r : Int) := by omega
                  have r1 : (r : Int) < (n : Int) := by omega
                  clear LV hB hq5 eo
                  generalize X.beds[r].lv = lv at *
                  generalize X.beds[r].bed = bdd at *
                  rcases or with e0 | e0
                  · subst e0
                    go_wp2_with fail
                    refine LVH.out.mono ?_
                    rintro e w6 ⟨rfl, B6⟩
                    have B6H := Hid.intro (BX.out.trans (B6.mono BX.out.size))
                    clear LVH B6 BX cr
                    go_wp2
                    go_roundw
                    case rel => exact ⟨r + 1, by omega, by go_num, B6H.out⟩
                    case measure => simp [intOf]; omega
                  · have e1 : ¬ (C : Int) ≤ (0 : Int) := by omega
                    by_cases elv : lv = 0
                    · subst elv
                      go_wp2_with fail
                      refine LVH.out.mono ?_
                      rintro e w6 ⟨rfl, B6⟩
                      have B6H := Hid.intro (BX.out.trans (B6.mono BX.out.size))
                      clear LVH B6 BX cr
                      go_wp2
                      go_roundw
                      case rel => exact ⟨r + 1, by omega, by go_num, B6H.out⟩
                      case measure => simp [intOf]; omega
                    · have e2 : ((lv : Int) != 0) = true := by simp; omega
                      go_wp2_with fail
                      refine LVH.out.mono ?_
                      rintro e w6 ⟨rfl, B6⟩
                      have B6H := Hid.intro (BX.out.trans (B6.mono BX.out.size))
                      clear LVH B6 BX cr
                      go_wp2
                      go_roundw
                      case rel => exact ⟨r + 1, by omega, by go_num, B6H.out⟩
                      case measure => simp [intOf]; omega
                · obtain rfl : r = n := by omega
                  have r1 : ¬ (r : Int) < (r : Int) := by omega
                  have LZ := Hid.intro (L5H.out.below hB)
                  clear hB N5 L5H
                  go_wp2
                  go_roundw
                  case rel => exact ⟨t + 1, 0, X, by omega, by omega, by go_num, rfl, LZ.out, I4.out⟩
                  case measure => simp [intOf]; omega
            · have e2' : (kd == 2) = false := by rw [beq_eq_false_iff_ne]; exact e2
              by_cases e3 : kd = 3
              · subst e3
                have AD := Hid.intro (hltick false HHH.out)
                have I4 := Hid.intro (inv_calm IH.out)
                go_wp2_with fail
                refine AD.out.mono ?_
                rintro e w4 ⟨rfl, L4⟩
                clear AD d0 d1 d2 AK IH HHH
                have OKX := Hid.intro L4.ok
                have OR := Hid.intro (hlorder L4)
                have L4H := Hid.intro L4
                clear L4
                generalize tickC x false = X at *
                go_wp2_with fail
                refine OR.out.mono ?_
                rintro e w5 ⟨v5, rfl, n5, L5, B5⟩
                obtain ⟨oa, oc, rfl⟩ := n5.len
                have N5 := Hid.intro n5
                have L5H := Hid.intro L5
                have n8 : (ordS X).length ≤ 8 := by have := OKX.out.few; simpa [ordS] using this
                clear OR n5 L5 B5 L4H
                obtain ⟨n, hn⟩ : ∃ n, n = (ordS X).length := ⟨_, rfl⟩
                have HN := Hid.intro hn
                rw [← hn] at n8 ⊢
                clear hn
                go_wp2_with fail
                generalize wr = wx at *
                go_loopw [9] (fun iv ws => ∃ r : Nat, r ≤ n ∧ iv = .int .i64 r ∧ Below w5.heap.size w5 ws) (fun iv _ => n - (intOf iv).toNat)
                case atStart => exact ⟨0, by omega, rfl, Below.refl _ _⟩
                case round =>
                  obtain ⟨r, hr, rfl, hB⟩ := hrel
                  by_cases hrn : r < n
                  · have hrn' : r < (ordS X).length := by rw [← HN.out]; exact hrn
                    obtain ⟨pb5, of5, rfl, _, hq5⟩ := N5.out.at.2 (by omega)
                    have cr := cell_chg (below_chg hB) (hq5 r hrn') id
                    obtain ⟨hrb, eo⟩ := ord_at hrn'
                    have LV := hllevelB (ordS X)[r] (L5H.out.below hB)
                    rw [eo, levS_at OKX.out.once hrb] at LV
                    rw [eo] at cr
                    have LVH := Hid.intro LV
                    have or := lev_inv I4.out hrb
                    have BX := Hid.intro hB
                    have r0 : (0 : Int) ≤ (r : Int) := by omega
                    have r1 : (r : Int) < (n : Int) := by omega
                    clear LV hB hq5 eo
                    generalize X.beds[r].lv = lv at *
                    generalize X.beds[r].bed = bdd at *
                    rcases or with e0 | e0
                    · subst e0
                      go_wp2_with fail
                      refine LVH.out.mono ?_
                      rintro e w6 ⟨rfl, B6⟩
                      have B6H := Hid.intro (BX.out.trans (B6.mono BX.out.size))
                      clear LVH B6 BX cr
                      go_wp2
                      go_roundw
                      case rel => exact ⟨r + 1, by omega, by go_num, B6H.out⟩
                      case measure => simp [intOf]; omega
                    · have e1 : ¬ (C : Int) ≤ (s : Int) + 1 := by omega
                      by_cases elv : lv = 0
                      · subst elv
                        go_wp2_with fail
                        refine LVH.out.mono ?_
                        rintro e w6 ⟨rfl, B6⟩
                        have B6H := Hid.intro (BX.out.trans (B6.mono BX.out.size))
                        clear LVH B6 BX cr
                        go_wp2
                        go_roundw
                        case rel => exact ⟨r + 1, by omega, by go_num, B6H.out⟩
                        case measure => simp [intOf]; omega
                      · have e2 : ((lv : Int) != 0) = true := by simp; omega
                        go_wp2_with fail
                        refine LVH.out.mono ?_
                        rintro e w6 ⟨rfl, B6⟩
                        have B6H := Hid.intro (BX.out.trans (B6.mono BX.out.size))
                        clear LVH B6 BX cr
                        go_wp2
                        go_roundw
                        case rel => exact ⟨r + 1, by omega, by go_num, B6H.out⟩
                        case measure => simp [intOf]; omega
                  · obtain rfl : r = n := by omega
                    have r1 : ¬ (r : Int) < (r : Int) := by omega
                    have LZ := Hid.intro (L5H.out.below hB)
                    clear hB N5 L5H
                    go_wp2
                    go_roundw
                    case rel => exact ⟨t + 1, s + 1, X, by omega, by omega, by go_num, by go_num, LZ.out, I4.out⟩
                    case measure => simp [intOf]; omega
              · have e3' : (kd == 3) = false := by rw [beq_eq_false_iff_ne]; exact e3
                have I4 := Hid.intro IH.out
                have L4 := HHH.out
                clear AK IH HHH
                have OKX := Hid.intro L4.ok
                have OR := Hid.intro (hlorder L4)
                have L4H := Hid.intro L4
                clear L4
                generalize x = X at *
                go_wp2_with fail
                refine OR.out.mono ?_
                rintro e w5 ⟨v5, rfl, n5, L5, B5⟩
                obtain ⟨oa, oc, rfl⟩ := n5.len
                have N5 := Hid.intro n5
                have L5H := Hid.intro L5
                have n8 : (ordS X).length ≤ 8 := by have := OKX.out.few; simpa [ordS] using this
                clear OR n5 L5 B5 L4H
                obtain ⟨n, hn⟩ : ∃ n, n = (ordS X).length := ⟨_, rfl⟩
                have HN := Hid.intro hn
                rw [← hn] at n8 ⊢
                clear hn
                go_wp2_with fail
                generalize wr = wx at *
                go_loopw [9] (fun iv ws => ∃ r : Nat, r ≤ n ∧ iv = .int .i64 r ∧ Below w5.heap.size w5 ws) (fun iv _ => n - (intOf iv).toNat)
                case atStart => exact ⟨0, by omega, rfl, Below.refl _ _⟩
                case round =>
                  obtain ⟨r, hr, rfl, hB⟩ := hrel
                  by_cases hrn : r < n
                  · have hrn' : r < (ordS X).length := by rw [← HN.out]; exact hrn
                    obtain ⟨pb5, of5, rfl, _, hq5⟩ := N5.out.at.2 (by omega)
                    have cr := cell_chg (below_chg hB) (hq5 r hrn') id
                    obtain ⟨hrb, eo⟩ := ord_at hrn'
                    have LV := hllevelB (ordS X)[r] (L5H.out.below hB)
                    rw [eo, levS_at OKX.out.once hrb] at LV
                    rw [eo] at cr
                    have LVH := Hid.intro LV
                    have or := lev_inv I4.out hrb
                    have BX := Hid.intro hB
                    have r0 : (0 : Int) ≤ (r : Int) := by omega
                    have r1 : (r : Int) < (n : Int) := by omega
                    clear LV hB hq5 eo
                    generalize X.beds[r].lv = lv at *
                    generalize X.beds[r].bed = bdd at *
                    rcases or with e0 | e0
                    · subst e0
                      go_wp2_with fail
                      refine LVH.out.mono ?_
                      rintro e w6 ⟨rfl, B6⟩
                      have B6H := Hid.intro (BX.out.trans (B6.mono BX.out.size))
                      clear LVH B6 BX cr
                      go_wp2
                      go_roundw
                      case rel => exact ⟨r + 1, by omega, by go_num, B6H.out⟩
                      case measure => simp [intOf]; omega
                    · have e1 : ¬ (C : Int) ≤ (s : Int) := by omega
                      by_cases elv : lv = 0
                      · subst elv
                        go_wp2_with fail
                        refine LVH.out.mono ?_
                        rintro e w6 ⟨rfl, B6⟩
                        have B6H := Hid.intro (BX.out.trans (B6.mono BX.out.size))
                        clear LVH B6 BX cr
                        go_wp2
                        go_roundw
                        case rel => exact ⟨r + 1, by omega, by go_num, B6H.out⟩
                        case measure => simp [intOf]; omega
                      · have e2 : ((lv : Int) != 0) = true := by simp; omega
                        go_wp2_with fail
                        refine LVH.out.mono ?_
                        rintro e w6 ⟨rfl, B6⟩
                        have B6H := Hid.intro (BX.out.trans (B6.mono BX.out.size))
                        clear LVH B6 BX cr
                        go_wp2
                        go_roundw
                        case rel => exact ⟨r + 1, by omega, by go_num, B6H.out⟩
                        case measure => simp [intOf]; omega
                  · obtain rfl : r = n := by omega
                    have r1 : ¬ (r : Int) < (r : Int) := by omega
                    have LZ := Hid.intro (L5H.out.below hB)
                    clear hB N5 L5H
                    go_wp2
                    go_roundw
                    case rel => exact ⟨t + 1, s, X, by omega, by omega, by go_num, rfl, LZ.out, I4.out⟩
                    case measure => simp [intOf]; omega
      · obtain rfl : t = L := by omega
        have t1 : ¬ (t : Int) < (t : Int) := by omega
        have FI := Hid.intro (BH.out.trans ((hH.out (Nat.le_refl _)).mono BH.out.size))
        clear hH hI
        go_wp2
        go_ret
        exact ⟨rfl, FI.out⟩

theorem walk (calm : Int) (a : Option Addr) (len cap : Nat) (z : List Act13) (w : World) (_ : (Lit.int .i64 calm).wf = true) (hz : z.length = len ∧ ActsAt13 w a z ∧ len ≤ maxLen) :
    Calls Try.prog 5 #[.int .i64 calm, .slice a len cap] w fun e w' => e = .returned (.bool true) ∧ Below w.heap.size w w' := by
  obtain ⟨rfl, h, _⟩ := hz
  exact walk_main calm a cap z w h

set_option maxRecDepth 100000 in
theorem lifted (os : Os) (started : os.Started) (H : Type) (enc : TypeId × Value → H) :
    ReturnsInHanded {} Try.checked os 5 .any (Rows.shedCauseSpec.pre6 enc Try.prog Try.f5 Rows.shedCauseRow.domain false) (Rows.shedCauseSpec.post enc Try.prog Try.f5 false true false false) := by
  refine returnsInHanded_of_change (C := Try.checked) own started (by kernel_rfl) Try.func5
    (ChangeSpec.witness6 (enc := enc) (C := Try.checked) false ⟨#[], #[.int .i64 0, .slice none 0 0], []⟩ 8 (by kernel_rfl) (by kernel_rfl) (by kernel_rfl) (by kernel_rfl)) ?_
  intro W base args ds gs before hval0 hW hcnd _
  have hval : ∀ (j : Nat) t v, Try.f5.params[j]? = some t → args[j]? = some v → Value.okWide Try.prog W .any base t v := hval0
  have hW' := hW
  obtain ⟨p, q, hA0, hV, rfl, hfz, hnd⟩ := hW
  have hA : DataW.TrodAll enc Try.prog W 0 (fun _ => true) true Try.f5.params.toList args.toList ds p := hA0
  rw [Try.params5] at hA hval
  obtain ⟨v0, vs0, d0, ds0, p0, q0, hargs, rfl, rfl, h0, r0⟩ := trodAll_cons hA
  obtain ⟨v1, vs1, d1, ds1, p1, q1, rfl, rfl, rfl, h1, r1⟩ := trodAll_cons r0
  obtain ⟨rfl, rfl, rfl⟩ := trodAll_nil r1
  obtain rfl : args = #[v0, v1] := by cases args; simp_all
  obtain ⟨rfl, rfl⟩ := trodVars_none hV
  obtain ⟨a0, rfl, rfl, rfl, w0⟩ := open_int Try.underlying3 (hval 0 3 v0 rfl rfl) h0
  have k1 := h1
  have lt1 : ∀ x ∈ p1, x.block < W.heap.size := by obtain ⟨m, hm⟩ := k1; exact DataW.trod_lt m _ _ _ hm
  obtain ⟨a1, len1, cap1, rfl⟩ := okWide_slice Try.underlying22 (hval 1 22 v1 rfl rfl)
  obtain ⟨z1, w1⟩ := open_acts h1
  clear hA0 hval0
  refine (walk a0 a1 len1 cap1 z1 W w0 w1).mono fun e W' ⟨he, bel⟩ => ?_
  subst he
  exact ⟨_, rfl, _, _, _, [], _, [], hW', trodAll_mk1 (shut_bool Try.underlying4 _), (trodAll_cons_mk (shut_int Try.underlying3 w0) (trodAll_cons_mk (Below.trod laidOut (by kernel_rfl) (of_decide_eq_true (by kernel_rfl)) k1 bel lt1) trodAll_mk0)), rfl, bel.frame _, fun h => by cases h⟩

theorem over : Rows.shedCauseRow.holds Try.pinned (OpenSpec.ofChange Rows.shedCauseSpec) :=
  OpenClaim.holds_of_wide 5 Try.f5 rfl rfl rfl rfl rfl rfl rfl ⟨rfl, rfl, rfl, rfl, rfl⟩ rfl rfl rfl rfl rfl (by kernel_rfl) Try.func5 (by kernel_rfl)
    (of_decide_eq_true (by kernel_rfl)) (by unfold Func.isWrapper; first | (rw [if_pos (by decide +kernel)]; kernel_rfl) | (rw [if_neg (by decide +kernel)]; exact ⟨rfl, rfl⟩))
    (fun os started H enc _ => lifted os started H enc)

end Go.Proofs.Ythfmgdhhjnngaaa.LShedCause

namespace Go.Proofs.Ythfmgdhhjnngaaa
theorem shedCause_holds : Rows.ShedCauseSaid := LShedCause.over
#print axioms shedCause_holds
end Go.Proofs.Ythfmgdhhjnngaaa
