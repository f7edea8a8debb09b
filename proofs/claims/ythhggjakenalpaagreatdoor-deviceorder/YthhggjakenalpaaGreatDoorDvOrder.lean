/- The statement DeviceOrder: samples that are taken come out of what goes out, collected, in order, each once, if each tick's frames are acked. -/
import Derived.Test.YthhggjakenalpaaGreatDoorDvOrdM
namespace Go.Proofs.YthhggjakenalpaaGreatDoor
set_option maxRecDepth 100000
open Go.ChangeShapes Go.WideShapes Go.ChangeAt Go.RowKit Go.Joins
open Bt

namespace LDeviceOrder

theorem walk_nil (tx k n s wt ms : Int) (ao : Option Addr) (len cap : Nat) (w : World) (hW : Wd w) (h : mayD tx k n s wt ms = false) :
    Calls Tryz.prog 5 #[.int .i64 tx, Lk k n s wt ms, .slice ao len cap] w fun e w' => e = .returned (.bool true) ∧ Below w.heap.size w w' := by
  have NO := Hid.intro (fun w hw => dnew_no tx k n s wt ms h w hw)
  have B0 := Hid.intro ((Below.refl _ w).alloc (Nat.le_refl _) (.cells #[.int .i64 k, .int .i64 n, .int .i64 s, .int .i64 wt, .int .i64 ms] 25))
  have b0 := Hid.intro (heap_alloc_new w (.cells #[.int .i64 k, .int .i64 n, .int .i64 s, .int .i64 wt, .int .i64 ms] 25))
  have W0 := Hid.intro (hW.below B0.out)
  clear h hW
  by_cases hl : 60 < len
  · have j : (60 : Int) < (len : Int) := by omega
    go_enter Tryz.func5, Tryz.ntmps5
    go_wp2_with fail
    refine (alive_any _ W0.out).mono ?_
    rintro e w1 ⟨rfl, B1⟩
    have W1 := Hid.intro (W0.out.below B1)
    have b1 := (B1.block _ (lt_of_heap b0.out)).trans b0.out
    have B1H := Hid.intro (B0.out.trans (B1.mono B0.out.size))
    obtain ⟨c0, c1, c2, c3, c4⟩ := lk_cells b1
    clear b1 B1 B0 W0 b0
    go_wp2_with fail
    refine (NO.out w1 W1.out).mono ?_
    rintro e w2 ⟨rfl, B2⟩
    have B2H := Hid.intro (B1H.out.trans (B2.mono B1H.out.size))
    clear B2 B1H NO c0 c1 c2 c3 c4
    go_wp2
    go_ret
    exact ⟨rfl, B2H.out⟩
  · have j : ¬ (60 : Int) < (len : Int) := by omega
    go_enter Tryz.func5, Tryz.ntmps5
    go_wp2_with fail
    refine (alive_any _ W0.out).mono ?_
    rintro e w1 ⟨rfl, B1⟩
    have W1 := Hid.intro (W0.out.below B1)
    have b1 := (B1.block _ (lt_of_heap b0.out)).trans b0.out
    have B1H := Hid.intro (B0.out.trans (B1.mono B0.out.size))
    obtain ⟨c0, c1, c2, c3, c4⟩ := lk_cells b1
    clear b1 B1 B0 W0 b0
    go_wp2_with fail
    refine (NO.out w1 W1.out).mono ?_
    rintro e w2 ⟨rfl, B2⟩
    have B2H := Hid.intro (B1H.out.trans (B2.mono B1H.out.size))
    clear B2 B1H NO c0 c1 c2 c3 c4
    go_wp2
    go_ret
    exact ⟨rfl, B2H.out⟩

theorem walk_far (tx K N S wt ms : Nat) (ao : Option Addr) (len cap : Nat) (hl : 60 < len) (w : World) (hW : Wd w) (h : mayD tx K N S wt ms = true) :
    Calls Tryz.prog 5 #[.int .i64 (tx : Int), Lk K N S wt ms, .slice ao len cap] w fun e w' => e = .returned (.bool true) ∧ Below w.heap.size w w' := by
  have NO := Hid.intro (fun w hw => dlnew tx K N S wt ms h w hw)
  have B0 := Hid.intro ((Below.refl _ w).alloc (Nat.le_refl _) (.cells #[.int .i64 (K : Int), .int .i64 (N : Int), .int .i64 (S : Int), .int .i64 (wt : Int), .int .i64 (ms : Int)] 25))
  have b0 := Hid.intro (heap_alloc_new w (.cells #[.int .i64 (K : Int), .int .i64 (N : Int), .int .i64 (S : Int), .int .i64 (wt : Int), .int .i64 (ms : Int)] 25))
  have W0 := Hid.intro (hW.below B0.out)
  have j : (60 : Int) < (len : Int) := by omega
  clear h hW
  go_enter Tryz.func5, Tryz.ntmps5
  go_wp2_with fail
  refine (alive_any _ W0.out).mono ?_
  rintro e w1 ⟨rfl, B1⟩
  have W1 := Hid.intro (W0.out.below B1)
  have b1 := (B1.block _ (lt_of_heap b0.out)).trans b0.out
  have B1H := Hid.intro (B0.out.trans (B1.mono B0.out.size))
  obtain ⟨c0, c1, c2, c3, c4⟩ := lk_cells b1
  clear b1 B1 B0 W0 b0
  go_wp2_with fail
  refine (NO.out w1 W1.out).mono ?_
  rintro e w2 ⟨b, rfl, L2⟩
  have B2H := Hid.intro (B1H.out.trans ((One.out L2 (Nat.le_refl _)).mono B1H.out.size))
  clear L2 B1H NO c0 c1 c2 c3 c4
  go_wp2
  go_ret
  exact ⟨rfl, B2H.out⟩

theorem take_filter {l : List Smp} {t : Nat} (ht : t < l.length) : (l.take (t + 1)).filter rightM = (l.take t).filter rightM ++ (if rightM l[t] = true then [l[t]] else []) := by
  rw [List.take_add_one, List.getElem?_eq_getElem ht, List.filter_append]
  congr 1
  by_cases h : rightM l[t] = true
  · rw [if_pos h]; simp [h]
  · rw [if_neg h]; simp [h]

/-- What stands between two rounds of the great loop. -/
structure Mid (tx K N S wt ms b b' B1 : Nat) (ks : List Smp) (hv : Value) (i g : Nat) (left got : List Smp) (x : Dev) (c : Col) (gv : Value) (R : Nat → Prop) (w : World) : Prop where
  ord : Ord tx K N S wt ms i g left x c
  all : got ++ left = ks
  done : left.length + i ≤ 60 ∨ left = []
  few : g ≤ i
  oc : OC (5 * i) b x b' c R w
  got : SR R w gv got
  had : SR R w hv ks
  apart : ∀ k, hv.ownBlock = some k → gv.ownBlock ≠ some k
  gotNew : ∀ k, gv.ownBlock = some k → B1 ≤ k
  low : ∀ k, k < B1 → R k
  lt : ∀ k, R k → k < w.heap.size

set_option maxRecDepth 100000 in
set_option maxHeartbeats 8000000 in
theorem walk_near (tx K N S wt ms : Nat) (ao : Option Addr) (cap : Nat) (l : List Smp) (hl : l.length ≤ 60) (w : World) (hW : Wd w) (h : mayD tx K N S wt ms = true) (hs : SmsAt (fun _ => True) w (.slice ao l.length cap) l) :
    Calls Tryz.prog 5 #[.int .i64 (tx : Int), Lk K N S wt ms, .slice ao l.length cap] w fun e w' => e = .returned (.bool true) ∧ Below w.heap.size w w' := by
  have NO := Hid.intro (fun w hw => dlnew tx K N S wt ms h w hw)
  have MAY := Hid.intro h
  have NC := Hid.intro (fun W => cnew_yes K N S 0 (by rw [(mayL_true (mayD_true h).1).1]; rfl) W)
  have B0 := Hid.intro ((Below.refl _ w).alloc (Nat.le_refl _) (.cells #[.int .i64 (K : Int), .int .i64 (N : Int), .int .i64 (S : Int), .int .i64 (wt : Int), .int .i64 (ms : Int)] 25))
  have b0 := Hid.intro (heap_alloc_new w (.cells #[.int .i64 (K : Int), .int .i64 (N : Int), .int .i64 (S : Int), .int .i64 (wt : Int), .int .i64 (ms : Int)] 25))
  have W0 := Hid.intro (hW.below B0.out)
  have z2 := hW.two
  have bl := Hid.intro (show w.heap.size < (w.alloc (.cells #[.int .i64 (K : Int), .int .i64 (N : Int), .int .i64 (S : Int), .int .i64 (wt : Int), .int .i64 (ms : Int)] 25)).heap.size by simp)
  have SM := Hid.intro hs
  have j : ¬ (60 : Int) < (l.length : Int) := by omega
  have EL := Hid.intro elem_smp
  clear h hW hs
  go_enter Tryz.func5, Tryz.ntmps5
  go_wp2_with fail
  refine (alive_any _ W0.out).mono ?_
  rintro e w1 ⟨rfl, B1⟩
  have W1 := Hid.intro (W0.out.below B1)
  have b1 := (B1.block _ (lt_of_heap b0.out)).trans b0.out
  have B1H := Hid.intro (B0.out.trans (B1.mono B0.out.size))
  obtain ⟨c0, c1, c2, c3, c4⟩ := lk_cells b1
  have C0 := Hid.intro c0
  have C1 := Hid.intro c1
  have C2 := Hid.intro c2
  have bl1 : Hid (w.heap.size < w1.heap.size) := Hid.intro (Nat.lt_of_lt_of_le bl.out B1.size)
  clear b1 B1 B0 W0 b0 bl
  go_wp2_with fail
  refine (NO.out w1 W1.out).mono ?_
  rintro e w2 ⟨b, rfl, L2⟩
  have L2H := Hid.intro L2
  have zz : 2 ≤ w1.heap.size := by have := B1H.out.size; omega
  clear L2 NO c0 c1 c2 c3 c4
  go_wp2_with fail
  obtain ⟨n, hn⟩ : ∃ n, n = l.length := ⟨_, rfl⟩
  have HN := Hid.intro hn
  rw [← hn] at hl ⊢
  clear hn j
  go_loopw [8, 9] (fun hv iv wr => ∃ (t : Nat) (ks : List Smp) (R : Nat → Prop), t ≤ n ∧ iv = .int .i64 t ∧ ks = (l.take t).filter rightM ∧ One (DvS 0 b { dev0 tx K N S wt ms with kept := ks }) R wr wr ∧ SR R wr hv ks ∧ (∀ k, k < w1.heap.size → R k) ∧ (∀ k, hv.ownBlock = some k → w1.heap.size ≤ k) ∧ Below w1.heap.size w1 wr) (fun _ iv _ => n - (intOf iv).toNat)
  case atStart => exact ⟨0, [], fun k => k < w1.heap.size, by omega, rfl, rfl, One.here L2H.out, sr_none _ _, fun _ => id, (fun k hk => by simp [Value.ownBlock] at hk), One.out L2H.out (Nat.le_refl _)⟩
  case round =>
    clear L2H
    obtain ⟨t, ks, R, htn, rfl, hks, LX, HX, RX, GX, BX⟩ := hrel
    by_cases hlt : t < n
    · have hlf : t < l.length := by have := HN.out; omega
      obtain ⟨ao', cap', he, hp⟩ := SM.out
      cases he
      obtain ⟨pb, off, rfl, _, hq⟩ := hp (by omega)
      obtain ⟨c0, c1, c2⟩ := hq t hlf
      have SF : R pb := RX pb (Nat.lt_of_lt_of_le (cell_lt c0) B1H.out.size)
      have k0 := cellD BX (cellD B1H.out c0)
      have k1 := cellD BX (cellD B1H.out c1)
      have k2 := cellD BX (cellD B1H.out c2)
      have i0 : (0 : Int) ≤ (t : Int) := by omega
      have i1 : (t : Int) < (n : Int) := by omega
      have TF := take_filter hlf
      have hkt : ks.length ≤ t := by
        rw [hks]
        exact Nat.le_trans (List.length_filter_le _ _) (by rw [List.length_take]; omega)
      generalize l[t] = sm at *
      rw [← hks] at TF
      have K0 := Hid.intro k0
      have K1 := Hid.intro k1
      have K2 := Hid.intro k2
      have TK := dltake sm LX
      have HXH := Hid.intro HX
      have RXH := Hid.intro RX
      have BXH := Hid.intro BX
      have GXH := Hid.intro GX
      obtain ⟨ha, hc, hve⟩ := HX.form
      subst hve
      rcases hr : rightM sm with _ | _
      · have e1 : takeE ({ dev0 tx K N S wt ms with kept := ks } : Dev) sm = 1 := by unfold takeE; rw [hr]; rfl
        have e2 : takeD ({ dev0 tx K N S wt ms with kept := ks } : Dev) sm = { dev0 tx K N S wt ms with kept := ks } := by unfold takeD; rw [e1]; rfl
        rw [e1, e2] at TK
        have TKH := Hid.intro TK
        have TFH : Hid (ks = (l.take (t + 1)).filter rightM) := Hid.intro (by rw [TF, hr]; simp)
        clear TK LX HX RX BX GX c0 c1 c2 hq hp TF hks hr K0 K1 K2 e1 e2
        go_wp2_with fail
        refine TKH.out.mono ?_
        rintro e w3 ⟨rfl, L3⟩
        have S3 := Hid.intro (HXH.out.kept (One.chg L3) (fun k hk q => q hk))
        have B3 := Hid.intro (BXH.out.trans ((One.chg L3).below BXH.out.size (fun k hk => by
          rcases Nat.lt_or_ge k w1.heap.size with q | q
          · exact absurd (RXH.out k q) hk
          · exact q)))
        have L3H := Hid.intro (One.here L3)
        clear L3 TKH k0 k1 k2 HXH BXH
        go_wp2_with fail
        go_roundw
        case rel => exact ⟨t + 1, ks, R, by omega, by go_num, TFH.out, L3H.out, S3.out, RXH.out, GXH.out, B3.out⟩
        case measure => simp [intOf]; omega
      · have e1 : takeE ({ dev0 tx K N S wt ms with kept := ks } : Dev) sm = 0 := by unfold takeE; rw [hr, if_pos rfl, if_pos (show ks.length < 60 by omega)]
        have e2 : takeD ({ dev0 tx K N S wt ms with kept := ks } : Dev) sm = { dev0 tx K N S wt ms with kept := ks ++ [sm] } := by unfold takeD; rw [e1]; rfl
        rw [e1, e2] at TK
        have TKH := Hid.intro TK
        have TFH : Hid (ks ++ [sm] = (l.take (t + 1)).filter rightM) := Hid.intro (by rw [TF, hr]; simp)
        clear TK LX HX RX BX GX c0 c1 c2 hq hp TF hks hr e1 e2
        go_wp2_with fail
        refine TKH.out.mono ?_
        rintro e w3 ⟨rfl, L3⟩
        have q0 := One.cell L3 K0.out SF
        have q1 := One.cell L3 K1.out SF
        have q2 := One.cell L3 K2.out SF
        have S3 := HXH.out.kept (One.chg L3) (fun k hk q => q hk)
        have B3 := Hid.intro (BXH.out.trans ((One.chg L3).below BXH.out.size (fun k hk => by
          rcases Nat.lt_or_ge k w1.heap.size with q | q
          · exact absurd (RXH.out k q) hk
          · exact q)))
        have BA := (Below.refl _ w3).alloc (Nat.le_refl _) (.cells #[.int .i64 sm.kind, .int .i64 sm.tick, .int .i64 sm.value] 35)
        have NB : Hid ((w3.alloc (.cells #[.int .i64 sm.kind, .int .i64 sm.tick, .int .i64 sm.value] 35)).heap[w3.heap.size]? = some (.cells (mcells [sm]).toArray 35 (0, 0))) := Hid.intro (heap_alloc_new w3 _)
        have S4 := Hid.intro (S3.below BA)
        have L4 := Hid.intro (One.below (dvO _ _ _) (One.here L3) BA)
        have B4 := Hid.intro (B3.out.trans (BA.mono B3.out.size))
        clear L3 S3 TKH k0 k1 k2 HXH BXH K0 K1 K2 BA
        go_wp2_with (at_builtin; refine append_row (by rfl) _ _ EL.out (by rfl) _ ks.length (mcells ks) (by rfl) S4.out.1 (.slice (some ⟨w3.heap.size, 0, none⟩) 1 1) 1 (mcells [sm]) (by rfl) (src_block NB.out rfl) (mcells_onecell _) (by omega) ?_; intro v' wb hown hgrow hat; have S5 := Hid.intro (SR.grown (m := [sm]) S4.out hown hat); have L5 := Hid.intro (One.grown (dvO _ _ _) (One.here L4.out) hgrow S4.out.2); have B5 := Hid.intro (grownR hgrow hat B4.out (Nat.le_refl _) GXH.out); clear hown hgrow hat)
        go_roundw
        case rel => exact ⟨t + 1, ks ++ [sm], _, by omega, by go_num, TFH.out, L5.out, S5.out, fun k hk => .inl (RXH.out k hk), B5.out.2, B5.out.1⟩
        case measure => simp [intOf]; omega
    · obtain rfl : t = n := by omega
      have i1 : ¬ (t : Int) < (t : Int) := by omega
      obtain ⟨ha, hc, hve⟩ := HX.form
      subst hve
      have k0 := cellD BX C0.out
      have k1 := cellD BX C1.out
      have k2 := cellD BX C2.out
      have hfew : ks.length ≤ 60 := (DL.ok LX).few
      have hright : ∀ s ∈ ks, rightM s = true := (DL.ok LX).right
      have RLT : ∀ k, R k → k < wr.heap.size := by
        obtain ⟨_, _, _, q, _⟩ := LX
        exact q
      have hz2 : 2 ≤ wr.heap.size := by have := BX.size; omega
      have LXH := Hid.intro LX
      have HXH := Hid.intro HX
      have RXH := Hid.intro RX
      have BXH := Hid.intro BX
      have ORD := Hid.intro (ord_start MAY.out hfew hright)
      have RLH := Hid.intro RLT
      clear LX HX RX BX GX RLT hks hright
      go_wp2_with fail
      refine (NC.out wr).mono ?_
      rintro e w3 ⟨b', F, rfl, hC, hF, B3⟩
      have OC0 := Hid.intro (oc_new LXH.out (fun k hk => RXH.out k (by omega)) hC hF B3 hz2)
      have BW3 := Hid.intro (BXH.out.trans (B3.mono BXH.out.size))
      have M0 : Hid (Mid tx K N S wt ms b b' w1.heap.size ks (.slice ha ks.length hc) 0 0 ks [] { dev0 tx K N S wt ms with kept := ks } (col0 K N S 0) (.slice none 0 0) R w3) := Hid.intro
        ⟨ORD.out, rfl, .inl (by omega), Nat.le_refl _, OC0.out, sr_none _ _, HXH.out.below B3, (fun k _ q => by simp [Value.ownBlock] at q), (fun k hk => by simp [Value.ownBlock] at hk), RXH.out, fun k hk => Nat.lt_of_lt_of_le (RLH.out k hk) B3.size⟩
      clear hC hF B3 OC0 k0 k1 k2 NC LXH HXH BXH ORD RLH RXH C0 C1 C2
      go_wp2_with fail
      go_loopw [11, 12] (fun gv tv wr => ∃ (i g : Nat) (left got : List Smp) (x : Dev) (c : Col) (R : Nat → Prop), i ≤ 70 ∧ tv = .int .i64 i ∧ Mid tx K N S wt ms b b' w1.heap.size ks (.slice ha ks.length hc) i g left got x c gv R wr ∧ Below w1.heap.size w1 wr) (fun _ tv _ => 70 - (intOf tv).toNat)
      case atStart => exact ⟨0, 0, ks, [], _, _, R, by omega, rfl, M0.out, BW3.out⟩
      case round =>
        clear M0 BW3
        obtain ⟨i, g, left, got, x, c, R, hi70, rfl, MX, BX⟩ := hrel
        have MXH := Hid.intro MX
        obtain ⟨ga, gc, hge⟩ := MX.got.form
        subst hge
        by_cases hi : i < 70
        · have j1 : (i : Int) < 70 := by omega
          have hgi := MX.few
          have hz2 : 2 ≤ wr.heap.size := by have := BX.size; omega
          have TI := Hid.intro (oc_tick MX.oc MX.lt hz2 (W1.out.below BX) (by omega))
          have FR := Hid.intro (ord_frame MX.ord)
          have SENT := Hid.intro (tickO_sent MX.oc.ok)
          have LEN41 := Hid.intro (tickO_len MX.oc.ok)
          have LEN : ((tickO x).map frmY).length = (tickO x).length := List.length_map ..
          have RG := Hid.intro (fun (k : Nat) (hk : k < (tickO x).length) => rows_getD (tickO x) hk)
          have RND := Hid.intro (fun (c2 : Col) => ord_round MX.ord (by omega) MX.done MX.few (c2 := c2))
          have HL1 := Hid.intro (hello0_le tx i g)
          have HELD0 := Hid.intro (MX.ord.col (R1 K S (nextT K N S left)))
          have htx := MX.ord.bounds.2
          have hN := MX.ord.bounds.1
          have BXH := Hid.intro BX
          clear MX BX
          go_wp2_with fail
          refine TI.out.mono ?_
          rintro e w5 ⟨v5, R5, rfl, r1, r2, RV, O5, C5⟩
          obtain ⟨oa, oc, e5⟩ := RV.len
          subst e5
          rw [LEN] at RV ⊢
          have RVH := Hid.intro RV
          have O5H := Hid.intro O5
          have R1H := Hid.intro r1
          have R2H := Hid.intro r2
          have G5 := Hid.intro ((MXH.out.got.kept C5 (fun k hk q => q.2 hk)).mono r1)
          have H5 := Hid.intro ((MXH.out.had.kept C5 (fun k hk q => q.2 hk)).mono r1)
          have B5 := Hid.intro (BXH.out.trans (chgR_out C5 MXH.out.low BXH.out.size))
          have LENH := Hid.intro LEN
          obtain ⟨hl, hhl⟩ : ∃ hl, hl = (hello0 tx i g).length := ⟨_, rfl⟩
          rw [← hhl] at FR HL1
          obtain ⟨m, hm⟩ : ∃ m, m = (tickO x).length := ⟨_, rfl⟩
          rw [← hm] at RVH FR SENT LEN41 RG ⊢
          have HM := Hid.intro hm
          have hm41 : m ≤ 41 := LEN41.out
          generalize nextT K N S left = T at *
          clear RV O5 r1 r2 C5 LEN hhl hm TI
          go_wp2_with fail
          go_loopw [14] (fun kv wr => ∃ (k : Nat) (c2 : Col), k ≤ m ∧ kv = .int .i64 k ∧ (k ≤ hl → c2 = c) ∧ Held K N S g (R1 K S T) (H1 (k - hl)) (fun _ => false) c2 ∧ OC (5 * i + 1) b (tickD x) b' c2 R5 wr ∧ Chg (fun k => 2 ≤ k ∧ ¬ R5 k) w5 wr) (fun kv _ => m - (intOf kv).toNat)
          case atStart => exact ⟨0, c, by omega, rfl, fun _ => rfl, by rw [Nat.zero_sub, h1_zero]; exact HELD0.out, O5H.out, Chg.refl _ _⟩
          case round =>
            clear O5H
            obtain ⟨k, c2, hkm, rfl, hce, hH, hO, hCh⟩ := hrel
            have hsz5 := hCh.size
            have hs51 := B5.out.size
            by_cases hk : k < m
            · have CHH := Hid.intro hCh
              have HH := Hid.intro hH
              have HCE := Hid.intro hce
              have OH := Hid.intro hO
              obtain ⟨g4, c4, u, hv, hg4, k4, ru⟩ := (RVH.out.kept hCh (fun k hk q => q.2 hk)).row (t := k) (by rw [LENH.out, ← HM.out]; exact hk)
              obtain ⟨rfl⟩ : oa = some ⟨g4, 0, none⟩ := by simp only [Value.slice.injEq] at hv; exact hv.1
              have ST := SENT.out k hk
              rw [RG.out k hk] at ru
              have WR := Hid.intro (W1.out.below (B5.out.trans (chgR_out hCh (fun k hk => R1H.out k (MXH.out.low k hk)) B5.out.size)))
              have FK := FR.out.2 k hk
              have PR := Hid.intro (parse_row ST.frm ST.byt u wr WR.out.f ru)
              obtain ⟨ua, uc, hu, _⟩ := ru
              subst hu
              have k0' : (0 : Int) ≤ (k : Int) := by omega
              have k1' : (k : Int) < (m : Int) := by omega
              rcases FK with ⟨f1, f2, f3, f4⟩ | ⟨f1, f2, f3, f4⟩
              · rw [f4] at PR k4
                dsimp only at PR
                generalize (frmY ⟨(tx : Int), 16 * (g : Int), 0, 0, 3, [0]⟩).length = fl at PR k4
                have i0' : ¬ (0 : Int) < (i : Int) := by omega
                clear f2
                subst f3
                clear hv ST f4 hCh hH hce hO
                go_wp2_with fail
                refine PR.out.mono ?_
                rintro e w6 ⟨ao6, cc, rfl, _, _, _, _, B6⟩
                have BA := (Below.refl _ w6).alloc (Nat.le_refl _) (.cells #[.int .i64 (tx : Int), .int .i64 (16 * (g : Int)), .int .i64 0, .int .i64 0, .int .i64 3, .slice ao6 1 cc] 55)
                have B7 := B6.trans (BA.mono B6.size)
                have O7 := Hid.intro (oc_below OH.out B7)
                have C7 := Hid.intro (CHH.out.trans (below_chg B7) (fun _ f _ => f.elim))
                clear B6 BA B7 PR OH CHH k4
                go_wp2_with fail
                go_roundw
                case rel => exact ⟨0 + 1, c2, by omega, by go_num, fun _ => HCE.out (by omega), by rw [show 0 + 1 - hl = 0 - hl by have := HL1.out; omega]; exact HH.out, O7.out, C7.out⟩
                case measure => simp [intOf]; omega
              · have hr := hN
                obtain ⟨r, hrk⟩ : ∃ r, r = k - hl := ⟨_, rfl⟩
                rw [← hrk] at f3 f4 HH
                have hdl : ((encL K N S T).getD r []).length = S := encL_row f3
                rw [f4] at PR ST k4
                dsimp only at PR
                have hsq : ∃ sq : Int, sq = 16 * (g : Int) + (r : Int) ∧ sq.tdiv 16 = (g : Int) ∧ sq.tmod 16 = (r : Int) ∧ sq / 16 = (g : Int) ∧ sq % 16 = (r : Int) := ⟨_, rfl, by rw [Int.tdiv_eq_ediv_of_nonneg (by omega)]; omega, by rw [Int.tmod_eq_emod_of_nonneg (by omega)]; omega, by omega, by omega⟩
                obtain ⟨sq, hsq0, hsq1, hsq2, hsq3, hsq4⟩ := hsq
                have DB : Hid (Byt ((encL K N S T).getD r [])) := Hid.intro ST.byt
                generalize (frmY ⟨(tx : Int), 16 * (g : Int) + (r : Int), 0, 0, 0, (encL K N S T).getD r []⟩).length = fl at PR k4
                rw [← hsq0] at PR
                have HRK := Hid.intro hrk
                have HDL := Hid.intro hdl
                have HONE := Hid.intro (held_one (k := r) rfl HH.out (by have := MXH.out.ord.small; omega) f3 (by omega))
                generalize (encL K N S T).getD r [] = dt at *
                clear hv ST f4 hCh hH hce hO hsq0 hrk hdl
                go_wp2_with fail
                refine PR.out.mono ?_
                rintro e w6 ⟨ao6, cc, rfl, r6, n6, m6, new6, B6⟩
                obtain ⟨bb, off6, rfl, _⟩ := reads_at r6 (by have := HDL.out; omega)
                have nb : wr.heap.size ≤ bb ∧ bb < w6.heap.size := new6 _ rfl
                have BA := (Below.refl _ w6).alloc (Nat.le_refl _) (.cells #[.int .i64 (tx : Int), .int .i64 sq, .int .i64 0, .int .i64 0, .int .i64 0, .slice (some ⟨bb, off6, none⟩) dt.length cc] 55)
                have B7 := B6.trans (BA.mono B6.size)
                have O7 := (Two.grow (dvO _ _ _) (colO _ _) OH.out B7).less (G := fun j => R5 j ∨ j = bb) (fun j hj => by
                  rcases hj with q | q
                  · exact .inl q
                  · subst q; exact .inr nb.1)
                have C7 := CHH.out.trans (below_chg B7) (fun _ f _ => f.elim)
                have RD7 := r6.below BA
                have SHD := Hid.intro (oc_shard (g : Int) (r : Int) (some ⟨bb, off6, none⟩) cc dt DB.out ⟨n6, m6.1⟩ O7 (fun j hj => by
                  rcases hj with q | q
                  · have := R2H.out j q; have := B7.size; omega
                  · subst q; have := nb.2; have := BA.size; omega) (by have := B7.size; omega) RD7 (fun _ ad ha => by cases ha; exact .inr rfl))
                have C7H := Hid.intro C7
                have S7 := Hid.intro B7.size
                clear B6 BA B7 O7 C7 RD7 r6 n6 m6 new6 PR OH CHH k4
                go_wp2_with fail
                refine SHD.out.mono ?_
                rintro e w8 ⟨rfl, O8, C8⟩
                have O8H := Hid.intro (O8.less (G := R5) (fun j hj => .inl hj))
                have C8H := Hid.intro (C7H.out.trans C8 (fun j q _ => ⟨q.1, fun z => q.2 (.inl z)⟩))
                clear O8 C8 SHD C7H
                go_wp2_with fail
                go_roundw
                case rel => exact ⟨k + 1, _, by omega, by go_num, fun q => absurd q (by omega), by rw [show k + 1 - hl = r + 1 by have := HRK.out; omega]; exact HONE.out, O8H.out, C8H.out⟩
                case measure => simp [intOf]; omega
            · obtain rfl : k = m := by omega
              have k1' : ¬ (k : Int) < (k : Int) := by omega
              have hz5 : 2 ≤ wr.heap.size := by omega
              have DU := Hid.intro (oc_due hO (fun j hj => Nat.lt_of_lt_of_le (R2H.out j hj) hsz5) hz5)
              have RNDH := Hid.intro (RND.out c2 (fun q => hce (by have := FR.out.1; omega)) (by rw [show shN N left = k - hl by have := FR.out.1; omega]; exact hH))
              have G6 := Hid.intro (G5.out.kept hCh (fun j hj q => q.2 hj))
              have H6 := Hid.intro (H5.out.kept hCh (fun j hj q => q.2 hj))
              have B6 := Hid.intro (B5.out.trans (chgR_out hCh (fun j hj => R1H.out j (MXH.out.low j hj)) B5.out.size))
              have SZ6 := Hid.intro (fun j (hj : R5 j) => Nat.lt_of_lt_of_le (R2H.out j hj) hsz5)
              clear hCh hH hce hO RVH G5 H5 B5 RND FR SENT RG
              go_wp2_with fail
              refine DU.out.mono ?_
              rintro e w9 ⟨v9, rfl, P9, O9, C9⟩
              obtain ⟨g', left', hg', hgi', hd', np1, pdat, pall, pb', pr', pa', pord⟩ := RNDH.out
              obtain ⟨ao9, cap9, e9, hp9⟩ := P9
              subst e9
              have G9 := Hid.intro (G6.out.kept C9 (fun j hj q => q.2 hj))
              have H9 := Hid.intro (H6.out.kept C9 (fun j hj q => q.2 hj))
              have B9 := Hid.intro (B6.out.trans (chgR_out C9 (fun j hj => R1H.out j (MXH.out.low j hj)) B6.out.size))
              have S9 := Hid.intro (fun j (hj : R5 j) => Nat.lt_of_lt_of_le (SZ6.out j hj) C9.size)
              have O9H := Hid.intro O9
              have HP9 := Hid.intro hp9
              have PD := Hid.intro pdat
              have PALL := Hid.intro pall
              have PORD := Hid.intro pord
              have HD' := Hid.intro hd'
              have HPA := Hid.intro pa'
              generalize dueC c2 = c3 at *
              generalize dueP c2 = ps at *
              obtain ⟨np, hnp⟩ : ∃ np, np = ps.length := ⟨_, rfl⟩
              rw [← hnp] at np1 ⊢
              have HNP := Hid.intro hnp
              have FIN0 : Hid (got ++ (ps.take np).flatMap (fun p => parseL p.data) = got ++ ps.flatMap (fun p => parseL p.data)) := Hid.intro (by rw [hnp, List.take_length])
              clear O9 hp9 pdat pall pord C9 G6 H6 B6 SZ6 DU RNDH hd' pa' hnp
              go_wp2_with fail
              go_loopw [11, 18] (fun gv2 kv wr => ∃ (k : Nat) (R6 : Nat → Prop), k ≤ np ∧ kv = .int .i64 k ∧ SR R6 wr gv2 (got ++ (ps.take k).flatMap (fun p => parseL p.data)) ∧ SR R6 wr (.slice ha ks.length hc) ks ∧ (∀ j, (Value.slice ha ks.length hc).ownBlock = some j → gv2.ownBlock ≠ some j) ∧ (∀ j, gv2.ownBlock = some j → w1.heap.size ≤ j) ∧ OC (5 * i + 1) b (tickD x) b' c3 R6 wr ∧ (∀ j, j < w1.heap.size → R6 j) ∧ (∀ j, R6 j → j < wr.heap.size) ∧ (k = 0 → Below w9.heap.size w9 wr) ∧ Below w1.heap.size w1 wr) (fun _ kv _ => np - (intOf kv).toNat)
              case atStart => exact ⟨0, R5, by omega, rfl, by simpa using G9.out, H9.out, MXH.out.apart, MXH.out.gotNew, O9H.out, fun j hj => R1H.out j (MXH.out.low j hj), S9.out, fun _ => Below.refl _ _, B9.out⟩
              case round =>
                clear G9 H9 O9H S9
                obtain ⟨k, R6, hkn, rfl, hG, hH6, hAp, hNew, hO6, hLow, hLt, hB9, hBW⟩ := hrel
                obtain ⟨ga2, gc2, hge2⟩ := hG.form
                subst hge2
                by_cases hk : k < np
                · obtain rfl : k = 0 := by omega
                  have hps : 0 < ps.length := by have := HNP.out; omega
                  obtain ⟨pb, off, rfl, hpb, hpp⟩ := HP9.out hps
                  obtain ⟨pa, pc, q0, q1, q2, q3, q4, _⟩ := hpp 0 hps
                  have hb9 := hB9 rfl
                  have k2' := cellD hb9 q2
                  have DD := PD.out ps[0] (List.getElem_mem hps)
                  have FT : (ps.take (0 + 1)).flatMap (fun p => parseL p.data) = parseL ps[0].data := by
                    rw [List.take_add_one, List.getElem?_eq_getElem hps]
                    simp
                  have PA := Hid.intro (cparse_any pa pc ps[0].data (by omega) DD.2 wr (W1.out.below hBW).r (q3.below hb9) q4)
                  have PF := parseL_few (bs := ps[0].data) (by omega)
                  have GOTL : got.length ≤ 60 := by
                    have q := congrArg List.length MXH.out.all
                    rw [List.length_append] at q
                    omega
                  have hG0 : SR R6 wr (.slice ga2 got.length gc2) got := by simpa using hG
                  have LEN0 : (got ++ (ps.take 0).flatMap (fun p => parseL p.data)).length = got.length := by simp
                  rw [LEN0]
                  have FTH := Hid.intro FT
                  generalize ps[0] = p0 at *
                  have np0 : (0 : Int) < (np : Int) := by omega
                  have GH := Hid.intro hG0
                  have HH6 := Hid.intro hH6
                  have AP := Hid.intro hAp
                  have NEWH : Hid (∀ j, (Value.slice ga2 got.length gc2).ownBlock = some j → w1.heap.size ≤ j) := Hid.intro (by rw [LEN0] at hNew; exact hNew)
                  have APH : Hid (∀ j, (Value.slice ha ks.length hc).ownBlock = some j → (Value.slice ga2 got.length gc2).ownBlock ≠ some j) := Hid.intro (by rw [LEN0] at hAp; exact hAp)
                  have OH6 := Hid.intro hO6
                  have LOWH := Hid.intro hLow
                  have LTH := Hid.intro hLt
                  have BWH := Hid.intro hBW
                  generalize parseL p0.data = ys at *
                  generalize p0.data.length = pl at *
                  clear q0 q1 q2 q3 q4 hpp hb9 hB9 DD hG hG0 hH6 hAp hNew hO6 hLow hLt hBW AP FT LEN0
                  go_wp2_with fail
                  refine PA.out.mono ?_
                  rintro e w10 ⟨ya, yc, rfl, hys, _, hyn, B10⟩
                  have SRC := Hid.intro (src_sms hys rfl hyn)
                  have G10 := Hid.intro (GH.out.below B10)
                  have H10 := Hid.intro (HH6.out.below B10)
                  have O10 := Hid.intro (oc_below OH6.out B10)
                  have BW10 := Hid.intro (BWH.out.trans (B10.mono BWH.out.size))
                  have LT10 := Hid.intro (fun j (hj : R6 j) => Nat.lt_of_lt_of_le (LTH.out j hj) B10.size)
                  clear hys hyn B10 PA GH HH6 OH6 BWH LTH k2'
                  go_wp2_with (at_builtin; refine append_row (by rfl) _ _ EL.out (by rfl) _ got.length (mcells got) (by rfl) G10.out.1 (.slice ya ys.length yc) ys.length (mcells ys) (by rfl) SRC.out (mcells_onecell _) (by omega) ?_; intro v' wb hown hgrow hat; have G11 := Hid.intro (SR.grown (m := ys) G10.out hown hat); have H11 := Hid.intro (SR.other H10.out hgrow (fun j hj => APH.out j hj)); have O11 := Hid.intro (Two.grown (dvO _ _ _) (colO _ _) O10.out hgrow G10.out.2); have B11 := Hid.intro (grownR hgrow hat BW10.out (Nat.le_refl _) NEWH.out); have LT11 := Hid.intro (moreR_lt LT10.out hgrow.size); have AP11 := Hid.intro (apart_grown H10.out APH.out hat); clear hown hgrow hat)
                  go_roundw
                  case rel => exact ⟨0 + 1, _, by omega, by go_num, by rw [FTH.out]; exact G11.out, H11.out, AP11.out, B11.out.2, O11.out, fun j hj => .inl (LOWH.out j hj), LT11.out, fun q => absurd q (by omega), B11.out.1⟩
                  case measure => simp [intOf]; omega
                · obtain rfl : k = np := by omega
                  have kn : ¬ (k : Int) < (k : Int) := by omega
                  rw [FIN0.out] at hG hNew hAp ⊢
                  have GOT : (got ++ ps.flatMap (fun p => parseL p.data)) ++ left' = ks := by rw [List.append_assoc, PALL.out]; exact MXH.out.all
                  generalize got ++ ps.flatMap (fun p => parseL p.data) = got2 at *
                  have BA := Hid.intro (oc_base hO6)
                  have RE := Hid.intro (fun (W : World) (hW : Below wr.heap.size wr W) => oc_ready (oc_below hO6 hW))
                  rw [pb'] at BA
                  rw [pr'] at RE
                  have w8 : IntKind.u8.wrap (g' : Int) = (g' : Int) := by
                    unfold IntKind.wrap
                    simp [IntKind.bits, IntKind.signed]
                    omega
                  have GH := Hid.intro hG
                  have HH6 := Hid.intro hH6
                  have AP := Hid.intro hAp
                  have NEWH := Hid.intro hNew
                  have OH6 := Hid.intro hO6
                  have LOWH := Hid.intro hLow
                  have LTH := Hid.intro hLt
                  have BWH := Hid.intro hBW
                  have GOTH := Hid.intro GOT
                  clear hG hH6 hAp hNew hO6 hLow hLt hB9 hBW GOT
                  go_wp2_with fail
                  refine BA.out.mono ?_
                  rintro e w11 ⟨rfl, B11⟩
                  have REH := Hid.intro (RE.out w11 B11)
                  have B11H := Hid.intro B11
                  clear B11 BA RE
                  go_wp2_with fail
                  refine REH.out.mono ?_
                  rintro e w12 ⟨rfl, B12⟩
                  have BD := (Below.refl _ w12).alloc (Nat.le_refl _) (.cells #[.int .u8 (g' : Int), .int .u8 0] 5)
                  have B12H := Hid.intro (B11H.out.trans (B12.mono B11H.out.size))
                  have W13 := (W1.out.below (BWH.out.trans (B12H.out.mono BWH.out.size))).below BD
                  have PU := Hid.intro (put_frame (tx : Int) 0 0 0 1 (some ⟨w12.heap.size, 0, none⟩) 2 [g', 0] (fun q => by cases q) (byt_two (by omega) (by decide)) _ W13.f (pair_row g' 0 w12))
                  have B13 := Hid.intro (B12H.out.trans (BD.mono B12H.out.size))
                  have WD13 := Hid.intro W13
                  clear B12 BD W13 REH B11H B12H
                  go_wp2_with fail
                  refine PU.out.mono ?_
                  rintro e w14 ⟨ao14, c14, rfl, r14, n14, m14, _, B14⟩
                  have B14H := Hid.intro (B13.out.trans (B14.mono B13.out.size))
                  have ackF := ackV_frm htx g'
                  obtain ⟨hb1, hb2⟩ := hearY (x := tickD x) ackF
                  have HE := oc_hear (Q := fun _ => True) (.slice ao14 (putF (tx : Int) 0 0 0 1 [g', 0]).length c14) (frmY (ackV tx g')) (by have := frmY_len ackF; omega) (frmY_byt (byt_two (by omega) (by decide))) (oc_below OH6.out B14H.out) (fun j hj => Nat.lt_of_lt_of_le (LTH.out j hj) B14H.out.size) (by have := B14H.out.size; have := BWH.out.size; omega) (WD13.out.below B14) ⟨ao14, c14, rfl, r14, n14, m14, fun _ _ _ => trivial⟩ (by omega)
                  rw [hb1, HPA.out, hb2 HPA.out] at HE
                  have HEH := Hid.intro HE
                  generalize (putF (tx : Int) 0 0 0 1 [g', 0]).length = pl at HEH ⊢
                  clear HE r14 n14 m14 B14 PU ackF hb1 hb2
                  go_wp2_with fail
                  refine HEH.out.mono ?_
                  rintro e w15 ⟨rfl, O15, C15⟩
                  have sz14 := B14H.out.size
                  have ltw : ∀ j, R6 j → j < w14.heap.size := fun j hj => Nat.lt_of_lt_of_le (LTH.out j hj) sz14
                  have MX2 : Hid (Mid tx K N S wt ms b b' w1.heap.size ks (.slice ha ks.length hc) (i + 1) g' left' got2 { tickD x with snd := hearC (tickD x).snd (ackV tx g'), was := true, acked := (tickD x).now } c3 (.slice ga2 got2.length gc2) R6 w15) := Hid.intro
                    ⟨PORD.out, GOTH.out, HD'.out, hgi', two_impO O15 (fun _ h => h.more (by omega)), (GH.out.below B14H.out).kept C15 (fun j hj q => q.2 hj), (HH6.out.below B14H.out).kept C15 (fun j hj q => q.2 hj), AP.out, NEWH.out, LOWH.out, fun j hj => Nat.lt_of_lt_of_le (ltw j hj) C15.size⟩
                  have B15 := Hid.intro ((BWH.out.trans (B14H.out.mono BWH.out.size)).trans (chgR_out C15 LOWH.out (by have := BWH.out.size; omega)))
                  clear O15 C15 HEH GH HH6 OH6 ltw B14H WD13 B13
                  go_wp2_with fail
                  go_roundw
                  case rel => exact ⟨i + 1, g', left', got2, _, c3, R6, by omega, by go_num, MX2.out, B15.out⟩
                  case measure => simp [intOf]; omega
        · obtain rfl : i = 70 := by omega
          have j1 : ¬ ((70 : Nat) : Int) < 70 := by decide
          have hleft : left = [] := by
            rcases MX.done with q | q
            · omega
            · exact q
          subst hleft
          have hgk : got = ks := by have := MX.all; rw [List.append_nil] at this; exact this
          have SAME := refSame10_any R R (.slice ga got.length gc) (.slice ha ks.length hc) got ks (by rw [hgk]; omega) (by omega) wr MX.got.sms MX.had.sms
          rw [decide_eq_true hgk] at SAME
          have SAMEH := Hid.intro SAME
          have KE := Hid.intro (fun (W : World) (hW : Below wr.heap.size wr W) => oc_kept (oc_below MX.oc hW))
          have OU := Hid.intro (fun (W : World) (hW : Below wr.heap.size wr W) => oc_out (oc_below MX.oc hW))
          rw [show x.kept.length = 0 by rw [MX.ord.dev]; rfl] at KE
          rw [show x.snd.fl.length = 0 by rw [MX.ord.dev]; rfl] at OU
          have BXH := Hid.intro BX
          clear SAME MX BX hgk
          go_wp2_with fail
          refine SAMEH.out.mono ?_
          rintro e w4 ⟨rfl, B4⟩
          have KEH := Hid.intro (KE.out w4 B4)
          have B4H := Hid.intro B4
          clear B4 KE SAMEH
          go_wp2_with fail
          refine KEH.out.mono ?_
          rintro e w5 ⟨rfl, B5⟩
          have B5H := Hid.intro (B4H.out.trans (B5.mono B4H.out.size))
          have OUH := Hid.intro (OU.out w5 B5H.out)
          clear B5 OU KEH
          go_wp2_with fail
          refine OUH.out.mono ?_
          rintro e w6 ⟨rfl, B6⟩
          have BZ := Hid.intro (B1H.out.trans ((BXH.out.trans ((B5H.out.trans (B6.mono B5H.out.size)).mono BXH.out.size)).mono B1H.out.size))
          clear B6 OUH
          go_wp2_with fail
          go_ret
          exact ⟨rfl, BZ.out⟩

theorem walk (tx k n s wt ms : Int) (ao : Option Addr) (len cap : Nat) (l : List Smp) (w : World) (_ : (Lit.int .i64 tx).wf = true) (_ : (Lit.int .i64 k).wf = true ∧ (Lit.int .i64 n).wf = true ∧ (Lit.int .i64 s).wf = true ∧ (Lit.int .i64 wt).wf = true ∧ (Lit.int .i64 ms).wf = true) (hz : l.length = len ∧ SmsAt (fun _ => True) w (.slice ao len cap) l ∧ len ≤ cap ∧ cap ≤ maxLen ∧ (ao = none → cap = 0)) (hW : Wd w) :
    Calls Tryz.prog 5 #[.int .i64 tx, Lk k n s wt ms, .slice ao len cap] w fun e w' => e = .returned (.bool true) ∧ Below w.heap.size w w' := by
  obtain ⟨rfl, hs, _⟩ := hz
  rcases hn : mayD tx k n s wt ms with _ | _
  · exact walk_nil tx k n s wt ms ao _ cap w hW hn
  · obtain ⟨T, K, N, S, A, B, rfl, rfl, rfl, rfl, rfl, rfl⟩ := dev_nums hn
    by_cases hl : l.length ≤ 60
    · exact walk_near T K N S A B ao cap l hl w hW hn hs
    · exact walk_far T K N S A B ao _ cap (by omega) w hW hn

set_option maxRecDepth 100000 in
theorem lifted (os : Os) (started : os.Started) (H : Type) (enc : TypeId × Value → H) :
    ReturnsInHanded {} Tryz.checked os 5 .any (fun w args => (Rows.deviceOrderSpec.pre enc Tryz.prog Tryz.f5 [] false w args ∧ laidMetH Tryz.prog LW w) ∧ sizedMet enc Tryz.prog Tryz.f5 (OpenSpec.ofChange Rows.deviceOrderSpec) false w args) (Rows.deviceOrderSpec.post enc Tryz.prog Tryz.f5 false true false false) := by
  refine returnsInHanded_of_change_and (C := Tryz.checked) (X := fun w _ => laidMetH Tryz.prog LW w) (fun _ _ _ hh h => h.of_heap hh) own started (by kernel_rfl) Tryz.func5
    (ChangeSpec.witness_shaped (enc := enc) (C := Tryz.checked) (os := os) (X := fun w _ => laidMetH Tryz.prog LW w) false (World.doorLaid Tryz.prog 400 os) #[.int .i64 0, .agg #[.int .i64 0, .int .i64 0, .int .i64 0, .int .i64 0, .int .i64 0], .slice none 0 0] 8 rfl (World.shaped_of_RefB (by kernel_rfl) (by kernel_rfl)) (by kernel_rfl) (by kernel_rfl) (by kernel_rfl) (door_met os _)) ?_
  intro W base args ds gs before hval0 hW _ _ hL _
  have hval : ∀ (j : Nat) t v, Tryz.f5.params[j]? = some t → args[j]? = some v → Value.okWide Tryz.prog W .any base t v := hval0
  have hW' := hW
  obtain ⟨p, q, hA0, hV, rfl, hfz, hnd⟩ := hW
  have hA : DataW.TrodAll enc Tryz.prog W 0 (fun _ => true) true Tryz.f5.params.toList args.toList ds p := hA0
  rw [Tryz.params5] at hA hval
  obtain ⟨v0, vs0, d0, ds0, p0, q0, hargs, rfl, rfl, h0, r0⟩ := trodAll_cons hA
  obtain ⟨v1, vs1, d1, ds1, p1, q1, rfl, rfl, rfl, h1, r1⟩ := trodAll_cons r0
  obtain ⟨v2, vs2, d2, ds2, p2, q2, rfl, rfl, rfl, h2, r2⟩ := trodAll_cons r1
  obtain ⟨rfl, rfl, rfl⟩ := trodAll_nil r2
  obtain rfl : args = #[v0, v1, v2] := by cases args; simp_all
  obtain ⟨rfl, rfl⟩ := trodVars_none hV
  obtain ⟨a0, rfl, rfl, rfl, w0⟩ := open_int Tryz.underlying3 (hval 0 3 v0 rfl rfl) h0
  have k1 := h1
  have lt1 : ∀ x ∈ p1, x.block < W.heap.size := by obtain ⟨m, hm⟩ := k1; exact DataW.trod_lt m _ _ _ hm
  obtain ⟨kc1, nc1, sc1, wc1, mc1, rfl, w1⟩ := open_link (hval 1 25 v1 rfl rfl) h1
  have k2 := h2
  have lt2 : ∀ x ∈ p2, x.block < W.heap.size := by obtain ⟨m, hm⟩ := k2; exact DataW.trod_lt m _ _ _ hm
  obtain ⟨a2, len2, cap2, rfl⟩ := okWide_slice Tryz.underlying50 (hval 2 50 v2 rfl rfl)
  obtain ⟨z2, w2⟩ := open_samples h2
  clear hA0 hval0
  refine (walk a0 kc1 nc1 sc1 wc1 mc1 a2 len2 cap2 z2 W w0 w1 w2 (laid_fact hL)).mono fun e W' ⟨he, bel⟩ => ?_
  subst he
  exact ⟨_, rfl, _, _, _, [], _, [], hW', trodAll_mk1 (shut_bool Tryz.underlying4 _), (trodAll_cons_mk (shut_int Tryz.underlying3 w0) (trodAll_cons_mk (Below.trod laidOut (by kernel_rfl) (of_decide_eq_true (by kernel_rfl)) k1 bel lt1) (trodAll_cons_mk (Below.trod laidOut (by kernel_rfl) (of_decide_eq_true (by kernel_rfl)) k2 bel lt2) trodAll_mk0))), rfl, bel.frame _, fun h => by cases h⟩

theorem over : Rows.deviceOrderRow.holds Tryz.pinned (OpenSpec.ofChange Rows.deviceOrderSpec) :=
  OpenClaim.holds_of_wide 5 Tryz.f5 rfl rfl rfl rfl rfl rfl rfl ⟨rfl, rfl, rfl, rfl, rfl⟩ rfl rfl rfl rfl rfl (by kernel_rfl) Tryz.func5 (by kernel_rfl)
    (of_decide_eq_true (by kernel_rfl)) (by unfold Func.isWrapper; first | (rw [if_pos (by decide +kernel)]; kernel_rfl) | (rw [if_neg (by decide +kernel)]; exact ⟨rfl, rfl⟩))
    (fun os started H enc _ => lifted os started H enc)

end Go.Proofs.YthhggjakenalpaaGreatDoor.LDeviceOrder

namespace Go.Proofs.YthhggjakenalpaaGreatDoor
theorem deviceOrder_holds : Rows.DeviceOrderCardSaid :=
  Claim7.holds_tied_plain_at .later [] [.data, .data] true (true, "671a4a5651a09961722f6897a23331ce75446318de0b513f6ea364801e92ed89") false
    LDeviceOrder.over (fun _ h => by cases h) (by kernel_rfl) (fun _ h => by cases h) deviceOrder_row_tie rfl ⟨rfl, rfl⟩ (by kernel_rfl) rfl
    (fun f fn hf hfn => by
      obtain rfl : f = 5 := Option.some.inj ((show Tryz.prog.funcNamed "gurney/gurneylaw18.DeviceOrder" = some 5 by kernel_rfl).symm.trans hf) |>.symm
      obtain rfl : fn = Tryz.f5 := (Option.some.inj (Tryz.func5.symm.trans hfn)).symm
      exact ⟨by kernel_rfl, fun j t ht => by
        rw [Tryz.params5] at ht
        have hm : t ∈ [3, 25, 50] := by simpa using Array.mem_of_getElem? ht
        have hall : ([3, 25, 50].all fun u => !Tryz.prog.wantsStandIn u) = true := by kernel_rfl
        exact (show Tryz.prog.wantsStandIn t = false by simpa using List.all_eq_true.1 hall t hm)⟩)
    (by kernel_rfl)
#print axioms deviceOrder_holds
end Go.Proofs.YthhggjakenalpaaGreatDoor
