/- The statement DeviceKeeps: a device keeps samples that are right, in order, as many as it may, and packs the first ones that fit. -/
import Derived.Test.YthhggjakenalpaaGreatDoorDvLaw
import Derived.Test.YthhggjakenalpaaGreatDoorRcArg
namespace Go.Proofs.YthhggjakenalpaaGreatDoor
set_option maxRecDepth 100000
open Go.ChangeShapes Go.WideShapes Go.ChangeAt Go.RowKit Go.Joins
open Bt

namespace LDeviceKeeps

theorem walk_nil (tx k n s wt ms : Int) (ao : Option Addr) (len cap : Nat) (w : World) (hW : Wd w) (h : mayD tx k n s wt ms = false) :
    Calls Tryz.prog 6 #[.int .i64 tx, Lk k n s wt ms, .slice ao len cap] w fun e w' => e = .returned (.bool true) ∧ Below w.heap.size w w' := by
  have NO := Hid.intro (fun w hw => dnew_no tx k n s wt ms h w hw)
  have B0 := Hid.intro ((Below.refl _ w).alloc (Nat.le_refl _) (.cells #[.int .i64 k, .int .i64 n, .int .i64 s, .int .i64 wt, .int .i64 ms] 25))
  have b0 := Hid.intro (heap_alloc_new w (.cells #[.int .i64 k, .int .i64 n, .int .i64 s, .int .i64 wt, .int .i64 ms] 25))
  have W0 := Hid.intro (hW.below B0.out)
  clear h hW
  go_enter Tryz.func6, Tryz.ntmps6
  go_wp2_with fail
  refine (alive_any _ W0.out).mono ?_
  rintro e w1 ⟨rfl, B1⟩
  have W1 := Hid.intro (W0.out.below B1)
  have b1 := (B1.block _ (lt_of_heap b0.out)).trans b0.out
  have B1H := Hid.intro (B0.out.trans (B1.mono B0.out.size))
  obtain ⟨c0, c1, c2, c3, c4⟩ := lk_cells b1
  clear b1 B1 B0 W0 b0
  go_wp2_with fail
  refine (NO.out w1 W1.out).mono ?_
  rintro e w2 ⟨rfl, B2⟩
  have B2H := Hid.intro (B1H.out.trans (B2.mono B1H.out.size))
  clear B2 B1H NO c0 c1 c2 c3 c4
  go_wp2
  go_ret
  exact ⟨rfl, B2H.out⟩

theorem walk_far (tx K N S wt ms : Nat) (ao : Option Addr) (len cap : Nat) (hl : 80 < len) (w : World) (hW : Wd w) (h : mayD tx K N S wt ms = true) :
    Calls Tryz.prog 6 #[.int .i64 (tx : Int), Lk K N S wt ms, .slice ao len cap] w fun e w' => e = .returned (.bool true) ∧ Below w.heap.size w w' := by
  have NO := Hid.intro (fun w hw => dlnew tx K N S wt ms h w hw)
  have B0 := Hid.intro ((Below.refl _ w).alloc (Nat.le_refl _) (.cells #[.int .i64 (K : Int), .int .i64 (N : Int), .int .i64 (S : Int), .int .i64 (wt : Int), .int .i64 (ms : Int)] 25))
  have b0 := Hid.intro (heap_alloc_new w (.cells #[.int .i64 (K : Int), .int .i64 (N : Int), .int .i64 (S : Int), .int .i64 (wt : Int), .int .i64 (ms : Int)] 25))
  have W0 := Hid.intro (hW.below B0.out)
  have j : (80 : Int) < (len : Int) := by omega
  clear h hW
  go_enter Tryz.func6, Tryz.ntmps6
  go_wp2_with fail
  refine (alive_any _ W0.out).mono ?_
  rintro e w1 ⟨rfl, B1⟩
  have W1 := Hid.intro (W0.out.below B1)
  have b1 := (B1.block _ (lt_of_heap b0.out)).trans b0.out
  have B1H := Hid.intro (B0.out.trans (B1.mono B0.out.size))
  obtain ⟨c0, c1, c2, c3, c4⟩ := lk_cells b1
  clear b1 B1 B0 W0 b0
  go_wp2_with fail
  refine (NO.out w1 W1.out).mono ?_
  rintro e w2 ⟨b, rfl, L2⟩
  have B2H := Hid.intro (B1H.out.trans ((One.out L2 (Nat.le_refl _)).mono B1H.out.size))
  clear L2 B1H NO c0 c1 c2 c3 c4
  go_wp2
  go_ret
  exact ⟨rfl, B2H.out⟩

set_option maxRecDepth 100000 in
set_option maxHeartbeats 4000000 in
theorem walk_near (tx K N S wt ms : Nat) (ao : Option Addr) (cap : Nat) (l : List Smp) (hl : l.length ≤ 80) (w : World) (hW : Wd w) (h : mayD tx K N S wt ms = true) (hs : SmsAt (fun _ => True) w (.slice ao l.length cap) l) :
    Calls Tryz.prog 6 #[.int .i64 (tx : Int), Lk K N S wt ms, .slice ao l.length cap] w fun e w' => e = .returned (.bool true) ∧ Below w.heap.size w w' := by
  have NO := Hid.intro (fun w hw => dlnew tx K N S wt ms h w hw)
  have B0 := Hid.intro ((Below.refl _ w).alloc (Nat.le_refl _) (.cells #[.int .i64 (K : Int), .int .i64 (N : Int), .int .i64 (S : Int), .int .i64 (wt : Int), .int .i64 (ms : Int)] 25))
  have b0 := Hid.intro (heap_alloc_new w (.cells #[.int .i64 (K : Int), .int .i64 (N : Int), .int .i64 (S : Int), .int .i64 (wt : Int), .int .i64 (ms : Int)] 25))
  have W0 := Hid.intro (hW.below B0.out)
  have z2 := hW.two
  have bl := Hid.intro (show w.heap.size < (w.alloc (.cells #[.int .i64 (K : Int), .int .i64 (N : Int), .int .i64 (S : Int), .int .i64 (wt : Int), .int .i64 (ms : Int)] 25)).heap.size by simp)
  have SM := Hid.intro hs
  have j : ¬ (80 : Int) < (l.length : Int) := by omega
  clear h hW hs
  go_enter Tryz.func6, Tryz.ntmps6
  go_wp2_with fail
  refine (alive_any _ W0.out).mono ?_
  rintro e w1 ⟨rfl, B1⟩
  have W1 := Hid.intro (W0.out.below B1)
  have b1 := (B1.block _ (lt_of_heap b0.out)).trans b0.out
  have B1H := Hid.intro (B0.out.trans (B1.mono B0.out.size))
  obtain ⟨c0, c1, c2, c3, c4⟩ := lk_cells b1
  have C0 := Hid.intro c0
  have C1 := Hid.intro c1
  have C2 := Hid.intro c2
  have bl1 : Hid (w.heap.size < w1.heap.size) := Hid.intro (Nat.lt_of_lt_of_le bl.out B1.size)
  clear b1 B1 B0 W0 b0 bl
  go_wp2_with fail
  refine (NO.out w1 W1.out).mono ?_
  rintro e w2 ⟨b, rfl, L2⟩
  have L2H := Hid.intro L2
  have zz : 2 ≤ w1.heap.size := by have := B1H.out.size; omega
  clear L2 NO c0 c1 c2 c3 c4
  go_wp2_with fail
  obtain ⟨n, hn⟩ : ∃ n, n = l.length := ⟨_, rfl⟩
  have HN := Hid.intro hn
  rw [← hn] at hl ⊢
  clear hn j
  go_loopw [8, 9] (fun nv iv wr => ∃ (t : Nat) (ks : List Smp), t ≤ n ∧ iv = .int .i64 t ∧ nv = .int .i64 (ks.length : Int) ∧ DL 0 b { dev0 tx K N S wt ms with kept := ks } (fun k => k < w1.heap.size) w1 wr) (fun _ iv _ => n - (intOf iv).toNat)
  case atStart => exact ⟨0, [], by omega, rfl, rfl, L2H.out⟩
  case round =>
    clear L2H
    obtain ⟨t, ks, htn, rfl, rfl, LX⟩ := hrel
    by_cases hlt : t < n
    · have hlf : t < l.length := by have := HN.out; omega
      obtain ⟨ao', cap', he, hp⟩ := SM.out
      cases he
      obtain ⟨pb, off, rfl, _, hq⟩ := hp (by omega)
      obtain ⟨c0, c1, c2⟩ := hq t hlf
      have SF : pb < w1.heap.size := Nat.lt_of_lt_of_le (cell_lt c0) B1H.out.size
      have D0 := Hid.intro (cellD B1H.out c0)
      have D1 := Hid.intro (cellD B1H.out c1)
      have D2 := Hid.intro (cellD B1H.out c2)
      have k0 := One.cell LX D0.out SF
      have k1 := One.cell LX D1.out SF
      have k2 := One.cell LX D2.out SF
      have i0 : (0 : Int) ≤ (t : Int) := by omega
      have i1 : (t : Int) < (n : Int) := by omega
      have hfew : ks.length ≤ 60 := LX.ok.few
      generalize l[t] = sm at *
      clear c0 c1 c2 hq hp
      have TK := dltake sm LX
      have RI := Hid.intro (fun W => cright_any sm W)
      obtain ⟨te, ks', hte, htk⟩ : ∃ te ks', takeE ({ dev0 tx K N S wt ms with kept := ks } : Dev) sm = te ∧ takeD ({ dev0 tx K N S wt ms with kept := ks } : Dev) sm = { dev0 tx K N S wt ms with kept := ks' } := ⟨_, if takeE ({ dev0 tx K N S wt ms with kept := ks } : Dev) sm = 0 then ks ++ [sm] else ks, rfl, by unfold takeD; split <;> rfl⟩
      have hcase : (rightM sm = false ∧ te = 1 ∧ ks' = ks) ∨ (rightM sm = true ∧ 60 ≤ ks.length ∧ te = 7 ∧ ks' = ks) ∨ (rightM sm = true ∧ ks.length < 60 ∧ te = 0 ∧ ks'.length = ks.length + 1) := by
        have hk : ks' = if te = 0 then ks ++ [sm] else ks := by
          have q := congrArg Dev.kept htk
          unfold takeD at q
          rw [hte] at q
          by_cases r : te = 0
          · rw [if_pos r] at q ⊢; exact q.symm
          · rw [if_neg r] at q ⊢; exact q.symm
        unfold takeE at hte
        rcases hr : rightM sm with _ | _
        · rw [hr] at hte
          have : te = 1 := hte.symm
          subst this
          exact .inl ⟨rfl, rfl, by rw [hk]; rfl⟩
        · rw [hr, if_pos rfl] at hte
          by_cases r : ks.length < 60
          · rw [if_pos r] at hte
            subst hte
            exact .inr (.inr ⟨rfl, r, rfl, by rw [hk, if_pos rfl]; simp⟩)
          · rw [if_neg r] at hte
            subst hte
            exact .inr (.inl ⟨rfl, by omega, rfl, by rw [hk]; rfl⟩)
      rw [hte, htk] at TK
      have TKH := Hid.intro TK
      have D5 : Hid (∀ W, DL 0 b ({ dev0 tx K N S wt ms with kept := ks' } : Dev) (fun k => k < w1.heap.size) w1 W → W.cell? ⟨pb, off + t * 3, none⟩ = some (.int .i64 sm.kind) ∧ W.cell? ⟨pb, off + t * 3 + 1, none⟩ = some (.int .i64 sm.tick) ∧ W.cell? ⟨pb, off + t * 3 + 2, none⟩ = some (.int .i64 sm.value)) := Hid.intro (fun W hW => ⟨One.cell hW D0.out SF, One.cell hW D1.out SF, One.cell hW D2.out SF⟩)
      clear TK LX hte htk D0 D1 D2
      rcases hcase with ⟨hr, rfl, rfl⟩ | ⟨hr, h60, rfl, rfl⟩ | ⟨hr, h60, rfl, hk⟩
      · rw [hr] at RI
        go_wp2_with fail
        refine TKH.out.mono ?_
        rintro e w3 ⟨rfl, L3⟩
        clear k0 k1 k2
        obtain ⟨k0, k1, k2⟩ := D5.out w3 L3
        have L3H := Hid.intro L3
        clear L3 TKH D5
        go_wp2_with fail
        refine (RI.out w3).mono ?_
        rintro e w4 ⟨rfl, B4⟩
        have L4 := Hid.intro (One.below (dvO _ _ _) L3H.out B4)
        clear B4 L3H RI k0 k1 k2 hr
        go_wp2_with fail
        go_roundw
        case rel => exact ⟨t + 1, _, by omega, by go_num, rfl, L4.out⟩
        case measure => simp [intOf]; omega
      · have h6 : (60 : Int) ≤ (ks'.length : Int) := by omega
        rw [hr] at RI
        go_wp2_with fail
        refine TKH.out.mono ?_
        rintro e w3 ⟨rfl, L3⟩
        clear k0 k1 k2
        obtain ⟨k0, k1, k2⟩ := D5.out w3 L3
        have L3H := Hid.intro L3
        clear L3 TKH D5
        go_wp2_with fail
        refine (RI.out w3).mono ?_
        rintro e w4 ⟨rfl, B4⟩
        have L4 := Hid.intro (One.below (dvO _ _ _) L3H.out B4)
        clear B4 L3H RI k0 k1 k2 hr
        go_wp2_with fail
        go_roundw
        case rel => exact ⟨t + 1, _, by omega, by go_num, rfl, L4.out⟩
        case measure => simp [intOf]; omega
      · have h6 : ¬ (60 : Int) ≤ (ks.length : Int) := by omega
        have wn : IntKind.i64.wrap ((ks.length : Int) + 1) = (ks.length : Int) + 1 := IntWalk.i64_in _ (by omega)
        rw [hr] at RI
        go_wp2_with fail
        refine TKH.out.mono ?_
        rintro e w3 ⟨rfl, L3⟩
        clear k0 k1 k2
        obtain ⟨k0, k1, k2⟩ := D5.out w3 L3
        have L3H := Hid.intro L3
        clear L3 TKH D5
        go_wp2_with fail
        refine (RI.out w3).mono ?_
        rintro e w4 ⟨rfl, B4⟩
        have L4 := Hid.intro (One.below (dvO _ _ _) L3H.out B4)
        clear B4 L3H RI k0 k1 k2 hr
        go_wp2_with fail
        go_roundw
        case rel => exact ⟨t + 1, _, by omega, by go_num, by rw [hk]; go_num, L4.out⟩
        case measure => simp [intOf]; omega
    · obtain rfl : t = n := by omega
      have i1 : ¬ (t : Int) < (t : Int) := by omega
      have BF : w.heap.size < w1.heap.size := bl1.out
      have k0 := One.cell LX C0.out BF
      have k1 := One.cell LX C1.out BF
      have k2 := One.cell LX C2.out BF
      have z0 : (fun k => k < w1.heap.size) 0 := show 0 < w1.heap.size by omega
      have z1 : (fun k => k < w1.heap.size) 1 := show 1 < w1.heap.size by omega
      have ok := LX.ok
      obtain ⟨f1, f2, f3⟩ := fitsM_dev ok
      have f1' : fitsM K N S = (fitsD ({ dev0 tx K N S wt ms with kept := ks } : Dev) : Int) := f1
      obtain ⟨t1, t2⟩ := tick_keeps ok rfl
      have hfew : ks.length ≤ 60 := ok.few
      have FT := Hid.intro (fun W => cfits_any (K : Int) N S W)
      rw [f1'] at FT
      have WD := Hid.intro (fun W (hW : DL 0 b ({ dev0 tx K N S wt ms with kept := ks } : Dev) (fun k => k < w1.heap.size) w1 W) => dltick hW (wd_one hW W1.out z0 z1) z0 z1 (by decide))
      have T1 : Hid ((tickD ({ dev0 tx K N S wt ms with kept := ks } : Dev)).kept.length = ks.length - fitsD ({ dev0 tx K N S wt ms with kept := ks } : Dev)) := Hid.intro t1
      have T2 : Hid ((tickD ({ dev0 tx K N S wt ms with kept := ks } : Dev)).snd.fl.length = if 0 < ks.length then 1 else 0) := Hid.intro t2
      generalize fitsD ({ dev0 tx K N S wt ms with kept := ks } : Dev) = ft at *
      have LXH := Hid.intro LX
      clear LX ok f1 f1' t1 t2
      go_wp2_with fail
      refine (FT.out wr).mono ?_
      rintro e w3 ⟨rfl, B3⟩
      have L3 := One.below (dvO _ _ _) LXH.out B3
      have TI := Hid.intro (WD.out w3 L3)
      clear L3 B3 LXH FT WD k0 k1 k2
      go_wp2_with fail
      refine TI.out.mono ?_
      rintro e w4 ⟨v4, G, rfl, _, RV, _, L4⟩
      obtain ⟨a4, c4, e4⟩ := RV.len
      subst e4
      have ws : IntKind.i64.wrap ((ks.length : Int) - (ft : Int)) = (ks.length : Int) - (ft : Int) := IntWalk.i64_in _ (by omega)
      have KE := dlkept L4
      rw [T1.out] at KE
      have KEH := Hid.intro KE
      have OUT := Hid.intro (fun W (hW : DL (0 + 1) b (tickD ({ dev0 tx K N S wt ms with kept := ks } : Dev)) (fun k => k < w1.heap.size) w1 W) => dlout hW)
      rw [T2.out] at OUT
      clear RV L4 TI KE T1
      generalize (tickO ({ dev0 tx K N S wt ms with kept := ks } : Dev)).map frmY = rows at *
      generalize tickD ({ dev0 tx K N S wt ms with kept := ks } : Dev) = y at *
      by_cases hlt2 : ks.length < ft
      · have s1 : (ks.length : Int) - (ft : Int) < 0 := by omega
        have s2 : ((ks.length - ft : Nat) : Int) = 0 := by omega
        rw [s2] at KEH
        go_wp2_with fail
        refine KEH.out.mono ?_
        rintro e w5 ⟨rfl, L5⟩
        have OU := Hid.intro (OUT.out w5 L5)
        clear KEH L5 OUT
        go_wp2_with fail
        refine OU.out.mono ?_
        rintro e w6 ⟨rfl, L6⟩
        have BZ := Hid.intro (B1H.out.trans ((One.out L6 (Nat.le_refl _)).mono B1H.out.size))
        clear L6 OU
        by_cases hk0 : 0 < ks.length
        · have hk1 : (0 : Int) < (ks.length : Int) := by omega
          rw [if_pos hk0]
          go_wp2_with fail
          go_ret
          exact ⟨rfl, BZ.out⟩
        · have hk1 : ¬ (0 : Int) < (ks.length : Int) := by omega
          rw [if_neg hk0]
          go_wp2_with fail
          go_ret
          exact ⟨rfl, BZ.out⟩
      · have s1 : ¬ (ks.length : Int) - (ft : Int) < 0 := by omega
        have s2 : ((ks.length - ft : Nat) : Int) = (ks.length : Int) - (ft : Int) := by omega
        rw [s2] at KEH
        go_wp2_with fail
        refine KEH.out.mono ?_
        rintro e w5 ⟨rfl, L5⟩
        have OU := Hid.intro (OUT.out w5 L5)
        clear KEH L5 OUT
        go_wp2_with fail
        refine OU.out.mono ?_
        rintro e w6 ⟨rfl, L6⟩
        have BZ := Hid.intro (B1H.out.trans ((One.out L6 (Nat.le_refl _)).mono B1H.out.size))
        clear L6 OU
        by_cases hk0 : 0 < ks.length
        · have hk1 : (0 : Int) < (ks.length : Int) := by omega
          rw [if_pos hk0]
          go_wp2_with fail
          go_ret
          exact ⟨rfl, BZ.out⟩
        · have hk1 : ¬ (0 : Int) < (ks.length : Int) := by omega
          rw [if_neg hk0]
          go_wp2_with fail
          go_ret
          exact ⟨rfl, BZ.out⟩

theorem walk (tx k n s wt ms : Int) (ao : Option Addr) (len cap : Nat) (l : List Smp) (w : World) (_ : (Lit.int .i64 tx).wf = true) (_ : (Lit.int .i64 k).wf = true ∧ (Lit.int .i64 n).wf = true ∧ (Lit.int .i64 s).wf = true ∧ (Lit.int .i64 wt).wf = true ∧ (Lit.int .i64 ms).wf = true) (hz : l.length = len ∧ SmsAt (fun _ => True) w (.slice ao len cap) l ∧ len ≤ cap ∧ cap ≤ maxLen ∧ (ao = none → cap = 0)) (hW : Wd w) :
    Calls Tryz.prog 6 #[.int .i64 tx, Lk k n s wt ms, .slice ao len cap] w fun e w' => e = .returned (.bool true) ∧ Below w.heap.size w w' := by
  obtain ⟨rfl, hs, _⟩ := hz
  rcases hn : mayD tx k n s wt ms with _ | _
  · exact walk_nil tx k n s wt ms ao _ cap w hW hn
  · obtain ⟨T, K, N, S, A, B, rfl, rfl, rfl, rfl, rfl, rfl⟩ := dev_nums hn
    by_cases hl : l.length ≤ 80
    · exact walk_near T K N S A B ao cap l hl w hW hn hs
    · exact walk_far T K N S A B ao _ cap (by omega) w hW hn

set_option maxRecDepth 100000 in
theorem lifted (os : Os) (started : os.Started) (H : Type) (enc : TypeId × Value → H) :
    ReturnsInHanded {} Tryz.checked os 6 .any (fun w args => (Rows.deviceKeepsSpec.pre enc Tryz.prog Tryz.f6 [] false w args ∧ laidMetH Tryz.prog LW w) ∧ sizedMet enc Tryz.prog Tryz.f6 (OpenSpec.ofChange Rows.deviceKeepsSpec) false w args) (Rows.deviceKeepsSpec.post enc Tryz.prog Tryz.f6 false true false false) := by
  refine returnsInHanded_of_change_and (C := Tryz.checked) (X := fun w _ => laidMetH Tryz.prog LW w) (fun _ _ _ hh h => h.of_heap hh) own started (by kernel_rfl) Tryz.func6
    (ChangeSpec.witness_shaped (enc := enc) (C := Tryz.checked) (os := os) (X := fun w _ => laidMetH Tryz.prog LW w) false (World.doorLaid Tryz.prog 400 os) #[.int .i64 0, .agg #[.int .i64 0, .int .i64 0, .int .i64 0, .int .i64 0, .int .i64 0], .slice none 0 0] 8 rfl (World.shaped_of_RefB (by kernel_rfl) (by kernel_rfl)) (by kernel_rfl) (by kernel_rfl) (by kernel_rfl) (door_met os _)) ?_
  intro W base args ds gs before hval0 hW _ _ hL _
  have hval : ∀ (j : Nat) t v, Tryz.f6.params[j]? = some t → args[j]? = some v → Value.okWide Tryz.prog W .any base t v := hval0
  have hW' := hW
  obtain ⟨p, q, hA0, hV, rfl, hfz, hnd⟩ := hW
  have hA : DataW.TrodAll enc Tryz.prog W 0 (fun _ => true) true Tryz.f6.params.toList args.toList ds p := hA0
  rw [Tryz.params6] at hA hval
  obtain ⟨v0, vs0, d0, ds0, p0, q0, hargs, rfl, rfl, h0, r0⟩ := trodAll_cons hA
  obtain ⟨v1, vs1, d1, ds1, p1, q1, rfl, rfl, rfl, h1, r1⟩ := trodAll_cons r0
  obtain ⟨v2, vs2, d2, ds2, p2, q2, rfl, rfl, rfl, h2, r2⟩ := trodAll_cons r1
  obtain ⟨rfl, rfl, rfl⟩ := trodAll_nil r2
  obtain rfl : args = #[v0, v1, v2] := by cases args; simp_all
  obtain ⟨rfl, rfl⟩ := trodVars_none hV
  obtain ⟨a0, rfl, rfl, rfl, w0⟩ := open_int Tryz.underlying3 (hval 0 3 v0 rfl rfl) h0
  have k1 := h1
  have lt1 : ∀ x ∈ p1, x.block < W.heap.size := by obtain ⟨m, hm⟩ := k1; exact DataW.trod_lt m _ _ _ hm
  obtain ⟨kc1, nc1, sc1, wc1, mc1, rfl, w1⟩ := open_link (hval 1 25 v1 rfl rfl) h1
  have k2 := h2
  have lt2 : ∀ x ∈ p2, x.block < W.heap.size := by obtain ⟨m, hm⟩ := k2; exact DataW.trod_lt m _ _ _ hm
  obtain ⟨a2, len2, cap2, rfl⟩ := okWide_slice Tryz.underlying50 (hval 2 50 v2 rfl rfl)
  obtain ⟨z2, w2⟩ := open_samples h2
  clear hA0 hval0
  refine (walk a0 kc1 nc1 sc1 wc1 mc1 a2 len2 cap2 z2 W w0 w1 w2 (laid_fact hL)).mono fun e W' ⟨he, bel⟩ => ?_
  subst he
  exact ⟨_, rfl, _, _, _, [], _, [], hW', trodAll_mk1 (shut_bool Tryz.underlying4 _), (trodAll_cons_mk (shut_int Tryz.underlying3 w0) (trodAll_cons_mk (Below.trod laidOut (by kernel_rfl) (of_decide_eq_true (by kernel_rfl)) k1 bel lt1) (trodAll_cons_mk (Below.trod laidOut (by kernel_rfl) (of_decide_eq_true (by kernel_rfl)) k2 bel lt2) trodAll_mk0))), rfl, bel.frame _, fun h => by cases h⟩

theorem over : Rows.deviceKeepsRow.holds Tryz.pinned (OpenSpec.ofChange Rows.deviceKeepsSpec) :=
  OpenClaim.holds_of_wide 6 Tryz.f6 rfl rfl rfl rfl rfl rfl rfl ⟨rfl, rfl, rfl, rfl, rfl⟩ rfl rfl rfl rfl rfl (by kernel_rfl) Tryz.func6 (by kernel_rfl)
    (of_decide_eq_true (by kernel_rfl)) (by unfold Func.isWrapper; first | (rw [if_pos (by decide +kernel)]; kernel_rfl) | (rw [if_neg (by decide +kernel)]; exact ⟨rfl, rfl⟩))
    (fun os started H enc _ => lifted os started H enc)

end Go.Proofs.YthhggjakenalpaaGreatDoor.LDeviceKeeps

namespace Go.Proofs.YthhggjakenalpaaGreatDoor
theorem deviceKeeps_holds : Rows.DeviceKeepsCardSaid :=
  Claim7.holds_tied_plain_at .later [] [.data, .data] true (true, "671a4a5651a09961722f6897a23331ce75446318de0b513f6ea364801e92ed89") false
    LDeviceKeeps.over (fun _ h => by cases h) (by kernel_rfl) (fun _ h => by cases h) deviceKeeps_row_tie rfl ⟨rfl, rfl⟩ (by kernel_rfl) rfl
    (fun f fn hf hfn => by
      obtain rfl : f = 6 := Option.some.inj ((show Tryz.prog.funcNamed "gurney/gurneylaw18.DeviceKeeps" = some 6 by kernel_rfl).symm.trans hf) |>.symm
      obtain rfl : fn = Tryz.f6 := (Option.some.inj (Tryz.func6.symm.trans hfn)).symm
      exact ⟨by kernel_rfl, fun j t ht => by
        rw [Tryz.params6] at ht
        have hm : t ∈ [3, 25, 50] := by simpa using Array.mem_of_getElem? ht
        have hall : ([3, 25, 50].all fun u => !Tryz.prog.wantsStandIn u) = true := by kernel_rfl
        exact (show Tryz.prog.wantsStandIn t = false by simpa using List.all_eq_true.1 hall t hm)⟩)
    (by kernel_rfl)
#print axioms deviceKeeps_holds
end Go.Proofs.YthhggjakenalpaaGreatDoor
