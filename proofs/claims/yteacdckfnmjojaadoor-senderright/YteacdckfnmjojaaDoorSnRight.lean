/- The statement SenderRight: all frames are right, of the transmitter, and their shards are a text's that was handed in. -/
import Derived.Test.YteacdckfnmjojaaDoorSnAlive
import Derived.Test.YteacdckfnmjojaaDoorLinkArg
import Derived.Test.YteacdckfnmjojaaDoorFrmLaid
import Derived.Test.YteacdckfnmjojaaDoorFrmP
import Derived.Test.YteacdckfnmjojaaDoorSnTxt
import Derived.Test.YteacdckfnmjojaaDoorMRefA
import Derived.Test.YteacdckfnmjojaaDoorLStr
namespace Go.Proofs.YteacdckfnmjojaaDoor
open Go.ChangeShapes Go.WideShapes Go.ChangeAt Go.RowKit Go.Joins
open Bt

namespace LSenderRight

open Classical in
theorem walk_nil (tx k n s wt ms : Int) (a : Option Addr) (cap : Nat) (l : List Act8) (w : World) (hW : Wid w) (h : (mayL k n s wt ms && isTx tx) = false) (hr : ActsAt8 w a l) :
    Calls Tryd.prog 4 #[.int .i64 tx, Lk k n s wt ms, .slice a l.length cap] w fun e w' => e = .returned (.bool true) ∧ Below w.heap.size w w' := by
  have NO := Hid.intro (fun w hw => nnew_no tx k n s wt ms h w hw)
  have B0 := Hid.intro ((Below.refl _ w).alloc (Nat.le_refl _) (.cells #[.int .i64 k, .int .i64 n, .int .i64 s, .int .i64 wt, .int .i64 ms] 25))
  have b0 := Hid.intro (heap_alloc_new w (.cells #[.int .i64 k, .int .i64 n, .int .i64 s, .int .i64 wt, .int .i64 ms] 25))
  have W0 := Hid.intro (hW.below B0.out)
  have FE := Hid.intro (fun W (hb : Below w.heap.size w W) => few_any a cap l W (hr.below hb))
  generalize l.length = L at FE ⊢
  generalize decide (fewB l) = fb at FE
  clear h hW hr
  go_enter Tryd.func4, Tryd.ntmps4
  go_wp2_with fail
  refine (alive_any _ W0.out).mono ?_
  rintro e w1 ⟨rfl, B1⟩
  have W1 := Hid.intro (W0.out.below B1)
  have b1 := (B1.block _ (lt_of_heap b0.out)).trans b0.out
  have B1H := Hid.intro (B0.out.trans (B1.mono B0.out.size))
  obtain ⟨c0, c1, c2, c3, c4⟩ := lk_cells b1
  clear b1 B1 B0 W0 b0
  go_wp2_with fail
  refine (NO.out w1 W1.out).mono ?_
  rintro e w2 ⟨rfl, B2⟩
  have B2H := Hid.intro (B1H.out.trans (B2.mono B1H.out.size))
  clear B2 B1H NO c0 c1 c2 c3 c4
  go_wp2_with fail
  refine (FE.out w2 B2H.out).mono ?_
  rintro e w3 ⟨rfl, B3⟩
  have B3H := Hid.intro (B2H.out.trans (B3.mono B2H.out.size))
  clear B3 B2H FE
  cases fb
  · go_wp2
    go_ret
    exact ⟨rfl, B3H.out⟩
  · go_wp2
    go_ret
    exact ⟨rfl, B3H.out⟩

open Classical in
set_option maxRecDepth 100000 in
theorem walk_far (tx K N S wt ms : Nat) (a : Option Addr) (cap : Nat) (l : List Act8) (w : World) (hW : Wid w) (h : (mayL K N S wt ms && isTx tx) = true) (hf : ¬ fewB l) (hr : ActsAt8 w a l) :
    Calls Tryd.prog 4 #[.int .i64 (tx : Int), Lk K N S wt ms, .slice a l.length cap] w fun e w' => e = .returned (.bool true) ∧ Below w.heap.size w w' := by
  have NW := Hid.intro (fun w hw => nnew_yes tx K N S wt ms h w hw)
  have B0 := Hid.intro ((Below.refl _ w).alloc (Nat.le_refl _) (.cells #[.int .i64 (K : Int), .int .i64 (N : Int), .int .i64 (S : Int), .int .i64 (wt : Int), .int .i64 (ms : Int)] 25))
  have b0 := Hid.intro (heap_alloc_new w (.cells #[.int .i64 (K : Int), .int .i64 (N : Int), .int .i64 (S : Int), .int .i64 (wt : Int), .int .i64 (ms : Int)] 25))
  have W0 := Hid.intro (hW.below B0.out)
  have FE := Hid.intro (fun W (hb : Below w.heap.size w W) => few_any a cap l W (hr.below hb))
  rw [decide_eq_false hf] at FE
  generalize l.length = L at FE ⊢
  clear h hW hr hf
  go_enter Tryd.func4, Tryd.ntmps4
  go_wp2_with fail
  refine (alive_any _ W0.out).mono ?_
  rintro e w1 ⟨rfl, B1⟩
  have W1 := Hid.intro (W0.out.below B1)
  have b1 := (B1.block _ (lt_of_heap b0.out)).trans b0.out
  have B1H := Hid.intro (B0.out.trans (B1.mono B0.out.size))
  obtain ⟨c0, c1, c2, c3, c4⟩ := lk_cells b1
  clear b1 B1 B0 W0 b0
  go_wp2_with fail
  refine (NW.out w1 W1.out).mono ?_
  rintro e w2 ⟨b, F, rfl, _, _, B2⟩
  have B2H := Hid.intro (B1H.out.trans (B2.mono B1H.out.size))
  clear B2 B1H NW c0 c1 c2 c3 c4
  go_wp2_with fail
  refine (FE.out w2 B2H.out).mono ?_
  rintro e w3 ⟨rfl, B3⟩
  have B3H := Hid.intro (B2H.out.trans (B3.mono B2H.out.size))
  clear B3 B2H FE
  go_wp2
  go_ret
  exact ⟨rfl, B3H.out⟩

open Classical in
set_option maxRecDepth 100000 in
set_option maxHeartbeats 4000000 in
theorem walk_near (tx K N S wt ms : Nat) (a : Option Addr) (cap : Nat) (l : List Act8) (w : World) (hW : Wid w) (h : (mayL K N S wt ms && isTx tx) = true) (hf : fewB l) (hY : ∀ x ∈ l, x.Wf) (hr : ActsAt8 w a l) :
    Calls Tryd.prog 4 #[.int .i64 (tx : Int), Lk K N S wt ms, .slice a l.length cap] w fun e w' => e = .returned (.bool true) ∧ Below w.heap.size w w' := by
  have NW := Hid.intro (fun w hw => nnew_yes tx K N S wt ms h w hw)
  rw [Bool.and_eq_true] at h
  obtain ⟨hmay, htx⟩ := h
  have ht := isTx_true htx
  obtain ⟨h1, h2, h3, h4, h5⟩ := mayL_true hmay
  have h6 := mayC_true h1
  have HM := Hid.intro h1
  have B0 := Hid.intro ((Below.refl _ w).alloc (Nat.le_refl _) (.cells #[.int .i64 (K : Int), .int .i64 (N : Int), .int .i64 (S : Int), .int .i64 (wt : Int), .int .i64 (ms : Int)] 25))
  have b0 := Hid.intro (heap_alloc_new w (.cells #[.int .i64 (K : Int), .int .i64 (N : Int), .int .i64 (S : Int), .int .i64 (wt : Int), .int .i64 (ms : Int)] 25))
  have W0 := Hid.intro (hW.below B0.out)
  have FE := Hid.intro (fun W (hb : Below w.heap.size w W) => few_any a cap l W (hr.below hb))
  rw [decide_eq_true hf] at FE
  have HF := Hid.intro hf.2
  have hn60 := hf.1
  have HY := Hid.intro hY
  have HR := Hid.intro hr
  obtain ⟨n, hn⟩ : ∃ n, n = l.length := ⟨_, rfl⟩
  have HN := Hid.intro hn
  rw [← hn] at FE hn60 ⊢
  clear hW hmay htx h1 hf hY hr hn
  go_enter Tryd.func4, Tryd.ntmps4
  go_wp2_with fail
  refine (alive_any _ W0.out).mono ?_
  rintro e w1 ⟨rfl, B1⟩
  have b1 := (B1.block _ (lt_of_heap b0.out)).trans b0.out
  have B1H := Hid.intro (B0.out.trans (B1.mono B0.out.size))
  have W1 := Hid.intro (W0.out.below B1)
  have b1H := Hid.intro b1
  obtain ⟨c0, c1, c2, c3, c4⟩ := lk_cells b1
  clear b1 B1 B0 W0 b0
  go_wp2_with fail
  refine (NW.out w1 W1.out).mono ?_
  rintro e w2 ⟨b, F, rfl, hS, hF, B2⟩
  have L2 := Hid.intro (sl_new hS hF B2)
  have B2H := Hid.intro B2
  clear B2 hS hF NW c0 c1 c2 c3 c4
  go_wp2_with fail
  refine (FE.out w2 (B1H.out.trans (B2H.out.mono B1H.out.size))).mono ?_
  rintro e w3 ⟨rfl, B3⟩
  have L3 := Hid.intro (L2.out.below B3).here
  have B3H := Hid.intro (B2H.out.trans (B3.mono B2H.out.size))
  clear B3 B2H FE L2
  go_wp2_with fail
  go_loopw [8, 9] (fun v i wr => ∃ (t : Nat) (T : List (List Nat)) (ad : Nat → Option Addr) (cp : Nat → Nat) (x : Snd), t ≤ n ∧ i = .int .i64 t ∧ T.length ≤ t ∧ Txts tx K N S x T ∧ TxAt w1.heap.size wr v T ad cp ∧ SL (fun k => k < w1.heap.size ∨ v.ownBlock = some k) (4 * t) wr wr b x ∧ Below w1.heap.size w1 wr) (fun _ i _ => n - (intOf i).toNat)
  case atStart => exact ⟨0, [], _, _, _, by omega, rfl, Nat.le_refl _, Txts.start tx K N S wt ms, TxAt.start, L3.out.less (fun k hk => by
    rcases hk with q | q
    · exact q
    · simp [Value.ownBlock] at q), B3H.out⟩
  case round =>
    clear L3 B3H
    obtain ⟨t, T, ad, cp, x, htn, rfl, hTt, hX, hT, LX, BX⟩ := hrel
    have BW := Hid.intro (B1H.out.trans (BX.mono B1H.out.size))
    obtain ⟨ta, tc, rfl, _⟩ := ownsRow_form hT.own
    by_cases hlt : t < n
    · have hlt' : t < l.length := by rw [← HN.out]; exact hlt
      have t0 : (0 : Int) ≤ (t : Int) := by omega
      have t1 : (t : Int) < (n : Int) := by omega
      obtain ⟨lb, lo, rfl, hl⟩ := HR.out (by omega)
      obtain ⟨⟨ba, bc⟩, ⟨fa, fc⟩, y⟩ := hl t hlt'
      have yw := HY.out l[t] (List.getElem_mem hlt')
      have yf := HF.out l[t] (List.getElem_mem hlt')
      generalize l[t] = A at y yw yf
      obtain ⟨kd, nn, bs, fv⟩ := A
      obtain ⟨yY, yD, _⟩ := yw
      obtain ⟨f1, f2, f3, f4⟩ := yf
      dsimp only at yY yD f1 f2 f3 f4
      obtain ⟨x0, x1, x2, x3, x4, x5, x6, x7, x8, xr, xm, fr, fm⟩ := y.below BW.out
      have hbb : ∀ z, 0 < bs.length → ba = some z → z.block < w1.heap.size := fun z h0 hz => Nat.lt_of_lt_of_le (reads_ltN (by rw [← hz]; exact y.2.2.2.2.2.2.2.2.2.1) h0) B1H.out.size
      have hfb : ∀ z, 0 < fv.data.length → fa = some z → z.block < w1.heap.size := fun z h0 hz => Nat.lt_of_lt_of_le (reads_ltN (by rw [← hz]; exact y.2.2.2.2.2.2.2.2.2.2.2.1) h0) B1H.out.size
      clear y hl hlt'
      dsimp only at x0 x1 x2 x3 x4 x5 x6 x7 x8 xr xm fr fm hbb hfb
      obtain ⟨L, hL⟩ : ∃ L, L = bs.length := ⟨_, rfl⟩
      obtain ⟨D, hD⟩ : ∃ D, D = fv.data.length := ⟨_, rfl⟩
      have HLL := Hid.intro hL
      have HDD := Hid.intro hD
      rw [← hL] at x2
      rw [← hD] at x8
      obtain ⟨AO, hAO⟩ : ∃ AO : Obj, AO = .cells #[.int .i64 kd, .int .i64 nn, .slice ba L bc, .int .i64 fv.tx, .int .i64 fv.sq, .int .i64 fv.an, .int .i64 fv.rs, .int .i64 fv.kd, .slice fa D fc] 48 := ⟨_, rfl⟩
      have hn := heap_alloc_new wr AO
      rw [hAO] at hn
      have BA := (Below.refl _ wr).alloc (Nat.le_refl _) AO
      have LA := (LX.grow BA).less (G := fun k => k < w1.heap.size ∨ (Value.slice ta T.length tc).ownBlock = some k ∨ k = wr.heap.size) (fun k hk => by
        rcases hk with q | q | q
        · exact .inl (.inl q)
        · exact .inl (.inr q)
        · subst q; exact .inr ⟨Nat.le_refl _, by simp⟩)
      have TA := hT.below BA
      have BXA := BX.trans (BA.mono BX.size)
      have RA := xr.below BA
      have FA := fr.below BA
      have hne : ∀ k, (Value.slice ta T.length tc).ownBlock = some k → k < wr.heap.size := fun k hk => (World.ownsRow.lt hT.own k hk).2
      rw [hAO] at LA TA BXA RA FA BA
      clear hAO AO
      have a0 : (wr.alloc (.cells #[.int .i64 kd, .int .i64 nn, .slice ba L bc, .int .i64 fv.tx, .int .i64 fv.sq, .int .i64 fv.an, .int .i64 fv.rs, .int .i64 fv.kd, .slice fa D fc] 48)).cell? ⟨wr.heap.size, 0, none⟩ = some (.int .i64 kd) := by rw [cell_of_row _ _ 0 _ _ _ hn]; rfl
      have a1 : (wr.alloc (.cells #[.int .i64 kd, .int .i64 nn, .slice ba L bc, .int .i64 fv.tx, .int .i64 fv.sq, .int .i64 fv.an, .int .i64 fv.rs, .int .i64 fv.kd, .slice fa D fc] 48)).cell? ⟨wr.heap.size, 1, none⟩ = some (.int .i64 nn) := by rw [cell_of_row _ _ 1 _ _ _ hn]; rfl
      have a2 : (wr.alloc (.cells #[.int .i64 kd, .int .i64 nn, .slice ba L bc, .int .i64 fv.tx, .int .i64 fv.sq, .int .i64 fv.an, .int .i64 fv.rs, .int .i64 fv.kd, .slice fa D fc] 48)).cell? ⟨wr.heap.size, 2, none⟩ = some (.slice ba L bc) := by rw [cell_of_row _ _ 2 _ _ _ hn]; rfl
      have a3 : (wr.alloc (.cells #[.int .i64 kd, .int .i64 nn, .slice ba L bc, .int .i64 fv.tx, .int .i64 fv.sq, .int .i64 fv.an, .int .i64 fv.rs, .int .i64 fv.kd, .slice fa D fc] 48)).cell? ⟨wr.heap.size, 3, none⟩ = some (.int .i64 fv.tx) := by rw [cell_of_row _ _ 3 _ _ _ hn]; rfl
      have a4 : (wr.alloc (.cells #[.int .i64 kd, .int .i64 nn, .slice ba L bc, .int .i64 fv.tx, .int .i64 fv.sq, .int .i64 fv.an, .int .i64 fv.rs, .int .i64 fv.kd, .slice fa D fc] 48)).cell? ⟨wr.heap.size, 4, none⟩ = some (.int .i64 fv.sq) := by rw [cell_of_row _ _ 4 _ _ _ hn]; rfl
      have a5 : (wr.alloc (.cells #[.int .i64 kd, .int .i64 nn, .slice ba L bc, .int .i64 fv.tx, .int .i64 fv.sq, .int .i64 fv.an, .int .i64 fv.rs, .int .i64 fv.kd, .slice fa D fc] 48)).cell? ⟨wr.heap.size, 5, none⟩ = some (.int .i64 fv.an) := by rw [cell_of_row _ _ 5 _ _ _ hn]; rfl
      have a6 : (wr.alloc (.cells #[.int .i64 kd, .int .i64 nn, .slice ba L bc, .int .i64 fv.tx, .int .i64 fv.sq, .int .i64 fv.an, .int .i64 fv.rs, .int .i64 fv.kd, .slice fa D fc] 48)).cell? ⟨wr.heap.size, 6, none⟩ = some (.int .i64 fv.rs) := by rw [cell_of_row _ _ 6 _ _ _ hn]; rfl
      have a7 : (wr.alloc (.cells #[.int .i64 kd, .int .i64 nn, .slice ba L bc, .int .i64 fv.tx, .int .i64 fv.sq, .int .i64 fv.an, .int .i64 fv.rs, .int .i64 fv.kd, .slice fa D fc] 48)).cell? ⟨wr.heap.size, 7, none⟩ = some (.int .i64 fv.kd) := by rw [cell_of_row _ _ 7 _ _ _ hn]; rfl
      have a8 : (wr.alloc (.cells #[.int .i64 kd, .int .i64 nn, .slice ba L bc, .int .i64 fv.tx, .int .i64 fv.sq, .int .i64 fv.an, .int .i64 fv.rs, .int .i64 fv.kd, .slice fa D fc] 48)).cell? ⟨wr.heap.size, 8, none⟩ = some (.slice fa D fc) := by rw [cell_of_row _ _ 8 _ _ _ hn]; rfl
      have HN9 := Hid.intro hn
      have LAH := Hid.intro LA
      have TAH := Hid.intro TA
      have BAH := Hid.intro BXA
      have RAH := Hid.intro RA
      have FAH := Hid.intro FA
      have HX := Hid.intro hX
      have NEH := Hid.intro hne
      clear hn BA LA TA BXA RA FA xr fr LX BX hT hX hne hL hD
      by_cases k0 : kd = 0
      · subst k0
        go_wp2_with fail
        generalize wr.alloc (.cells #[.int .i64 0, .int .i64 nn, .slice ba L bc, .int .i64 fv.tx, .int .i64 fv.sq, .int .i64 fv.an, .int .i64 fv.rs, .int .i64 fv.kd, .slice fa D fc] 48) = wa at LAH TAH BAH RAH FAH HN9 a0 a1 a2 a3 a4 a5 a6 a7 a8 ⊢
        have PU := slpush ba bc bs yY xm (by omega) LAH.out RAH.out (fun h0 z hz => .inl (hbb z h0 hz))
        rw [← HLL.out] at PU
        have HPE : Hid (pushE x L = pushE x bs.length) := by rw [HLL.out]; rfl
        generalize pushE x L = E at PU HPE
        refine PU.mono ?_
        rintro e w5 ⟨rfl, L5⟩
        have T5 := TAH.out.kept L5.chg (fun k hk q => q (.inl hk)) (fun k hk q => q (.inr (.inl hk)))
        have r5 := RAH.out.kept L5.chg
        have z0 := L5.cell a0 (.inr (.inr rfl))
        have z2 := L5.cell a2 (.inr (.inr rfl))
        have B5 := Hid.intro (BAH.out.trans (L5.out (B := w1.heap.size) BAH.out.size (fun k hk => .inl hk)))
        have hs5 : wr.heap.size < w5.heap.size := cell_lt z0
        have hd5 := L5.block (k := wr.heap.size) (.inr (.inr rfl))
        have L5' := (L5.less (G := fun k => k < w1.heap.size ∨ (Value.slice ta T.length tc).ownBlock = some k) (fun k hk => by
          rcases hk with q | q
          · exact .inl q
          · exact .inr (.inl q))).here
        have L5H := Hid.intro L5'
        have T5H := Hid.intro T5
        clear PU L5 L5' T5 LAH TAH RAH FAH a0 a1 a2 a3 a4 a5 a6 a7 a8 x0 x1 x2 x3 x4 x5 x6 x7 x8
        by_cases pe : E = 0
        · subst pe
          obtain ⟨pz1, pz2⟩ := pushE_zero (show pushE x bs.length = 0 by rw [← HPE.out])
          have hlen : 0 < bs.length := by
            rw [pz1, HX.out.k, HX.out.s]
            exact Nat.mul_pos (by omega) (by omega)
          have R5 := r5 (fun z hz q => q (.inl (hbb z hlen hz)))
          have hbz : ∀ z, ba = some z → z.block < w1.heap.size := fun z hz => hbb z hlen hz
          have hX2 := HX.out.push yY (show T.length < 255 by omega) (show pushE x bs.length = 0 by rw [← HPE.out])
          have BL : Below w5.heap.size w5 (w5.alloc (.cells #[.slice ba L bc] 37)) := (Below.refl _ w5).alloc (Nat.le_refl _) _
          have OW : Hid ((w5.alloc (.cells #[.slice ba L bc] 37)).ownsRow 0 37 1 (.slice ta T.length tc) T.length ((List.range T.length).map (fun i => .slice (ad i) (T.getD i []).length (cp i)))) := ownsRow_keep T5H.out.own fun k hk => BL.block k (World.ownsRow.lt T5H.out.own k hk).2
          have NW4 : Hid (∀ j u, ([.slice ba L bc] : List Value)[j]? = some u → (w5.alloc (.cells #[.slice ba L bc] 37)).cell? ((⟨w5.heap.size, 0, none⟩ : Addr).add j) = some u) :=
            World.news_of_block (cs := #[.slice ba L bc]) (t := 37) (fr := (0, 0)) (heap_alloc_new w5 _)
          have ONE4 : Hid (∀ u ∈ ([.slice ba L bc] : List Value), u.oneCell' = true) := by simp [Hid, Value.oneCell']
          have FIN : Hid (∀ (g7 c7 : Nat) (w7 : World), w7.ownsRow 0 37 1 (.slice (some ⟨g7, 0, none⟩) (T.length + 1) c7) (T.length + 1) ((List.range T.length).map (fun i => .slice (ad i) (T.getD i []).length (cp i)) ++ [.slice ba L bc]) →
              (w5.alloc (.cells #[.slice ba L bc] 37)).grownBy w7 (Value.slice ta T.length tc).ownBlock → ((Value.slice ta T.length tc).ownBlock = some g7 ∨ g7 = w5.heap.size + 1) → g7 < w7.heap.size →
              w7.cell? ⟨wr.heap.size, 0, none⟩ = some (.int .i64 0) ∧ TxAt w1.heap.size w7 (.slice (some ⟨g7, 0, none⟩) (T.length + 1) c7) (T ++ [bs]) (fun i => if i = T.length then ba else ad i) (fun i => if i = T.length then bc else cp i) ∧
              SL (fun k => k < w1.heap.size ∨ (Value.slice (some ⟨g7, 0, none⟩) (T.length + 1) c7).ownBlock = some k) (4 * t) w7 w7 b (pushC x bs) ∧ Below w1.heap.size w1 w7) := fun g7 c7 w7 hown hgrow hat hlt7 => by
            have hat' : (Value.slice ta T.length tc).ownBlock = some g7 ∨ w5.heap.size ≤ g7 := by
              rcases hat with q | q
              · exact .inl q
              · exact .inr (by omega)
            have C7 : Chg (fun q => (Value.slice ta T.length tc).ownBlock = some q) w5 w7 := ((below_chg BL).mono (fun _ q _ => q.elim)).grown hgrow (fun q hq _ => hq)
            refine ⟨cell_chg C7 z0 (fun q => by have := NEH.out _ q; exact absurd this (Nat.lt_irrefl _)), T5H.out.more BL (by rw [← HLL.out]; exact hown) hgrow hat' B5.out.size R5 hbz, L5H.out.app BL hgrow (fun k hk => ?_), B5.out.trans (C7.below B5.out.size (fun q hq => T5H.out.ap q hq))⟩
            obtain rfl : g7 = k := by simpa [Value.ownBlock] using hk
            exact ⟨hat', hlt7⟩
          have X2 := Hid.intro hX2
          obtain ⟨iR, hiR, hzR0, hzR1, hzR2⟩ := info_parts info_row
          clear R5 hbz hX2 BL T5H L5H r5 hd5 pz1 pz2 hlen
          go_wp2_with (refine wpList_append_lies _ (by rfl) _ _ _ (by rfl) 0 37 iR (.slice none 0 0) 1 24 Tryd.underlying52 hiR hzR0 hzR1 hzR2 (by rfl) (by decide) (.slice ta T.length tc) T.length _ (by rfl) OW.out ⟨w5.heap.size, 0, none⟩ 1 1 [.slice ba L bc] (by rfl) (by rfl) NW4.out ONE4.out (by decide) (by unfold maxLen; omega) (by omega) (Nat.zero_le _) (w5.heap.size + 1) (by simp) ?_; intro g7 c7 w7 hown hgrow hat hlt7; have FN := FIN.out g7 c7 w7 hown hgrow hat hlt7; have y0 := FN.1; have F2 := Hid.intro FN.2; clear hown hgrow hat hlt7 FN)
          go_roundw
          case rel => exact ⟨t + 1, T ++ [bs], _, _, _, by omega, by go_num, by simp; omega, X2.out, F2.out.1, F2.out.2.1.more (by omega), F2.out.2.2⟩
          case measure => simp [intOf]; omega
        · have n0 : (E == 0) = false := by simpa using pe
          have hpc := pushC_no (x := x) (bs := bs) (by rw [← HPE.out]; exact pe)
          rw [hpc] at L5H
          clear r5 hpc hd5 z2
          go_wp2
          go_roundw
          case rel => exact ⟨t + 1, T, ad, cp, x, by omega, by go_num, by omega, HX.out, T5H.out, L5H.out.more (by omega), B5.out⟩
          case measure => simp [intOf]; omega
      · have e0 : (kd == 0) = false := by simpa using k0
        by_cases k2 : kd = 2
        · subst k2
          go_wp2_with fail
          generalize wr.alloc (.cells #[.int .i64 2, .int .i64 nn, .slice ba L bc, .int .i64 fv.tx, .int .i64 fv.sq, .int .i64 fv.an, .int .i64 fv.rs, .int .i64 fv.kd, .slice fa D fc] 48) = wa at LAH TAH BAH RAH FAH HN9 a0 a1 a2 a3 a4 a5 a6 a7 a8 ⊢
          have HE := slhear fv fa fc yD (by omega) LAH.out (W1.out.below BAH.out) FAH.out (fun h0 z hz => .inl (hfb z h0 hz))
          rw [← HDD.out] at HE
          refine HE.mono ?_
          rintro e w5 ⟨rfl, L5⟩
          have T5 := TAH.out.kept L5.chg (fun k hk q => q (.inl hk)) (fun k hk q => q (.inr (.inl hk)))
          have z0 := L5.cell a0 (.inr (.inr rfl))
          have B5 := Hid.intro (BAH.out.trans (L5.out (B := w1.heap.size) BAH.out.size (fun k hk => .inl hk)))
          have L5' := (L5.less (G := fun k => k < w1.heap.size ∨ (Value.slice ta T.length tc).ownBlock = some k) (fun k hk => by
            rcases hk with q | q
            · exact .inl q
            · exact .inr (.inl q))).here
          have L5H := Hid.intro L5'
          have T5H := Hid.intro T5
          have X2 := Hid.intro (HX.out.hear fv)
          clear HE L5 L5' T5 LAH TAH RAH FAH a0 a1 a2 a3 a4 a5 a6 a7 a8 x0 x1 x2 x3 x4 x5 x6 x7 x8
          go_wp2
          go_roundw
          case rel => exact ⟨t + 1, T, ad, cp, _, by omega, by go_num, by omega, X2.out, T5H.out, L5H.out.more (by omega), B5.out⟩
          case measure => simp [intOf]; omega
        · have e2 : (kd == 2) = false := by simpa using k2
          by_cases k1 : kd = 1
          · subst k1
            go_wp2_with fail
            generalize wr.alloc (.cells #[.int .i64 1, .int .i64 nn, .slice ba L bc, .int .i64 fv.tx, .int .i64 fv.sq, .int .i64 fv.an, .int .i64 fv.rs, .int .i64 fv.kd, .slice fa D fc] 48) = wa at LAH TAH BAH RAH FAH HN9 a0 a1 a2 a3 a4 a5 a6 a7 a8 ⊢
            refine (sltick nn (by omega) (by omega) LAH.out).mono ?_
            rintro e w5 ⟨v5, G5, rfl, hG5, FR5, LG5, L5⟩
            have T5 := TAH.out.kept L5.chg (fun k hk q => q (.inl hk)) (fun k hk q => q (.inr (.inl hk)))
            have B5 := Hid.intro (BAH.out.trans (L5.out (B := w1.heap.size) BAH.out.size (fun k hk => .inl hk)))
            have L5' := (L5.less (G := fun k => k < w1.heap.size ∨ (Value.slice ta T.length tc).ownBlock = some k) (fun k hk => by
              rcases hk with q | q
              · exact .inl q
              · exact .inr (.inl q))).here
            have L5H := Hid.intro L5'
            have T5H := Hid.intro T5
            have X2 := Hid.intro (HX.out.tick nn)
            have RF := Hid.intro (HX.out.right (by omega) nn)
            have FEW : (tickP x nn).length ≤ 40 := by
              have e1 := tickP_few (x := x) (by rw [HX.out.n]; omega) nn
              have e2 := LAH.out.ok.few
              rw [HX.out.n] at e1
              exact Nat.le_trans e1 (Nat.mul_le_mul (show N ≤ 10 by omega) e2)
            obtain ⟨fo, fcp, rfl, hfr⟩ := FR5
            have HFR := Hid.intro hfr
            clear L5 L5' T5 LG5 LAH TAH RAH FAH a0 a1 a2 a3 a4 a5 a6 a7 a8 x0 x1 x2 x3 x4 x5 x6 x7 x8 hG5 hfr
            obtain ⟨fs, hfs⟩ : ∃ fs, fs = tickP x nn := ⟨_, rfl⟩
            rw [← hfs] at RF HFR FEW ⊢
            clear hfs
            obtain ⟨m, hm⟩ : ∃ m, m = fs.length := ⟨_, rfl⟩
            have hm40 : m ≤ 40 := by rw [hm]; exact FEW
            have HM2 := Hid.intro hm
            rw [← hm]
            clear hm
            go_wp2_with fail
            go_loopw [12] (fun i ws => ∃ k : Nat, k ≤ m ∧ i = .int .i64 k ∧ Below w5.heap.size w5 ws) (fun i _ => m - (intOf i).toNat)
            case atStart => exact ⟨0, by omega, rfl, Below.refl _ _⟩
            case round =>
              obtain ⟨k, hkm, rfl, hB⟩ := hrel
              have BS := Hid.intro hB
              by_cases hk : k < m
              · have hk' : k < fs.length := by rw [← HM2.out]; exact hk
                have k00 : (0 : Int) ≤ (k : Int) := by omega
                have k11 : (k : Int) < (m : Int) := by omega
                obtain ⟨pb, po, rfl, _, hfr⟩ := HFR.out (by omega)
                obtain ⟨da, dc, v0, v1, v2, v3, v4, v5, vr, vm, _⟩ := hfr k hk'
                have hrf := RF.out fs[k] (List.getElem_mem hk')
                generalize fs[k] = fw at v0 v1 v2 v3 v4 v5 vr vm hrf
                obtain ⟨ftx, fsq, fan, frs, fkd, fdt⟩ := fw
                have hfrm := hrf.frm (by omega) (by omega) (by omega) (by omega)
                obtain ⟨q1, q2, q3, g, r, hg, hrN, q6, q7⟩ := hrf
                dsimp only at v0 v1 v2 v3 v4 v5 vr vm hfrm q1 q2 q3 q6 q7
                subst q1 q2 q3
                obtain ⟨z, hz⟩ : ∃ z : Nat, z = 16 * g + r := ⟨_, rfl⟩
                have q6' : fsq = (z : Int) := by rw [q6, hz]; omega
                subst q6'
                have hr16 : r < 16 := by omega
                have zd : (z : Int) / 16 = (g : Int) := by omega
                have zm : (z : Int) % 16 = (r : Int) := by omega
                have zd2 : (z : Int).tdiv 16 = (g : Int) := by rw [Int.tdiv_eq_ediv_of_nonneg (by omega)]; exact zd
                have zm2 : (z : Int).tmod 16 = (r : Int) := by rw [Int.tmod_eq_emod_of_nonneg (by omega)]; exact zm
                have hzb : z < 4096 := by omega
                replace v0 := cellF hB v0
                replace v1 := cellF hB v1
                replace v2 := cellF hB v2
                replace v3 := cellF hB v3
                replace v4 := cellF hB v4
                replace v5 := cellF hB v5
                obtain ⟨dl, hdl⟩ : ∃ dl, dl = fdt.length := ⟨_, rfl⟩
                have HDL := Hid.intro hdl
                rw [← hdl] at v5 hfrm
                have VR := Hid.intro vr
                have Q7 := Hid.intro q7
                have BF := (Below.refl _ wr).alloc (Nat.le_refl _) (.cells #[.int .i64 (tx : Int), .int .i64 (z : Int), .int .i64 0, .int .i64 0, .int .i64 fkd, .slice da dl dc] 39)
                have hnf := heap_alloc_new wr (.cells #[.int .i64 (tx : Int), .int .i64 (z : Int), .int .i64 0, .int .i64 0, .int .i64 fkd, .slice da dl dc] 39)
                have BSF := Hid.intro (hB.trans (BF.mono hB.size))
                have RG := Hid.intro (right_any (tx : Int) (z : Int) 0 0 fkd da dl dc _ ((W1.out.below B5.out).below BSF.out))
                rw [hfrm] at RG
                have HNF := Hid.intro hnf
                have hkd : fkd = 2 ∨ fkd = 0 := by
                  rcases q7 with ⟨q, _⟩ | ⟨q, _⟩
                  · exact .inl q
                  · exact .inr q
                have p0 : (wr.alloc (.cells #[.int .i64 (tx : Int), .int .i64 (z : Int), .int .i64 0, .int .i64 0, .int .i64 fkd, .slice da dl dc] 39)).cell? ⟨wr.heap.size, 0, none⟩ = some (.int .i64 (tx : Int)) := by rw [cell_of_row _ _ 0 _ _ _ hnf]; rfl
                have p1 : (wr.alloc (.cells #[.int .i64 (tx : Int), .int .i64 (z : Int), .int .i64 0, .int .i64 0, .int .i64 fkd, .slice da dl dc] 39)).cell? ⟨wr.heap.size, 1, none⟩ = some (.int .i64 (z : Int)) := by rw [cell_of_row _ _ 1 _ _ _ hnf]; rfl
                have p2 : (wr.alloc (.cells #[.int .i64 (tx : Int), .int .i64 (z : Int), .int .i64 0, .int .i64 0, .int .i64 fkd, .slice da dl dc] 39)).cell? ⟨wr.heap.size, 2, none⟩ = some (.int .i64 0) := by rw [cell_of_row _ _ 2 _ _ _ hnf]; rfl
                have p3 : (wr.alloc (.cells #[.int .i64 (tx : Int), .int .i64 (z : Int), .int .i64 0, .int .i64 0, .int .i64 fkd, .slice da dl dc] 39)).cell? ⟨wr.heap.size, 3, none⟩ = some (.int .i64 0) := by rw [cell_of_row _ _ 3 _ _ _ hnf]; rfl
                have p4 : (wr.alloc (.cells #[.int .i64 (tx : Int), .int .i64 (z : Int), .int .i64 0, .int .i64 0, .int .i64 fkd, .slice da dl dc] 39)).cell? ⟨wr.heap.size, 4, none⟩ = some (.int .i64 fkd) := by rw [cell_of_row _ _ 4 _ _ _ hnf]; rfl
                have p5 : (wr.alloc (.cells #[.int .i64 (tx : Int), .int .i64 (z : Int), .int .i64 0, .int .i64 0, .int .i64 fkd, .slice da dl dc] 39)).cell? ⟨wr.heap.size, 5, none⟩ = some (.slice da dl dc) := by rw [cell_of_row _ _ 5 _ _ _ hnf]; rfl
                clear hfr hB hdl q6 q7 hnf vr vm hz hfrm BF
                go_wp2_with fail
                refine RG.out.mono ?_
                rintro e w6 ⟨rfl, B6⟩
                have b6 := Hid.intro ((B6.block _ (lt_of_heap HNF.out)).trans HNF.out)
                have BS6 := Hid.intro (BSF.out.trans (B6.mono BSF.out.size))
                clear p0 p1 p2 p3 p4 p5
                have p0 : w6.cell? ⟨wr.heap.size, 0, none⟩ = some (.int .i64 (tx : Int)) := by rw [cell_of_row _ _ 0 _ _ _ b6.out]; rfl
                have p1 : w6.cell? ⟨wr.heap.size, 1, none⟩ = some (.int .i64 (z : Int)) := by rw [cell_of_row _ _ 1 _ _ _ b6.out]; rfl
                have p4 : w6.cell? ⟨wr.heap.size, 4, none⟩ = some (.int .i64 fkd) := by rw [cell_of_row _ _ 4 _ _ _ b6.out]; rfl
                have hgT : (g : Int) < (T.length : Int) := by omega
                have hg0 : (0 : Int) ≤ (g : Int) := by omega
                have htt : ((tx : Int) != (tx : Int)) = false := by simp
                clear B6 RG HNF v0 v1 v2 v3 v4 v5
                rcases hkd with rfl | rfl
                · go_wp2
                  go_roundw
                  case rel => exact ⟨k + 1, by omega, by go_num, BS6.out⟩
                  case measure => simp [intOf]; omega
                · have hq : fdt = (encL K N S (T.getD g [])).getD r [] := by
                    rcases Q7.out with ⟨q, _⟩ | ⟨_, q⟩
                    · exact absurd q (by decide)
                    · exact q
                  obtain ⟨tg, tcc, hv, gc⟩ := T5H.out.cells hg
                  obtain ⟨rfl, rfl⟩ : ta = some ⟨tg, 0, none⟩ ∧ tc = tcc := by cases hv; exact ⟨rfl, rfl⟩
                  have g6 := cellF BS6.out gc
                  have szt := HX.out.size (T.getD g []) (by
                    rw [List.getD_eq_getElem?_getD, List.getElem?_eq_getElem hg]
                    exact List.getElem_mem hg)
                  have ENC := refEncode_any (K : Int) N S (ad g) (cp g) (T.getD g []) szt.1 w6.drew (((T5H.out.rd g hg).1.below BS6.out).below (Below.refl _ w6).drew)
                  have hE : encE (K : Int) N S (T.getD g []).length = 0 := by
                    unfold encE
                    rw [if_pos HM.out, if_pos (by rw [szt.2]; simp)]
                  have hA : encA (K : Int) N S (T.getD g []) = encL K N S (T.getD g []) := by unfold encA; rw [if_pos hE]; rfl
                  rw [hE, hA] at ENC
                  unfold Cd at ENC
                  obtain ⟨tl, htl⟩ : ∃ tl, tl = (T.getD g []).length := ⟨_, rfl⟩
                  rw [← htl] at ENC g6
                  have ENH := Hid.intro ENC
                  have HQ := Hid.intro hq
                  obtain ⟨l0, l1, l2, l3, l4⟩ := lk_cells ((BS6.out.block _ (Nat.lt_of_lt_of_le (lt_of_heap b1H.out) B5.out.size)).trans ((B5.out.block _ (lt_of_heap b1H.out)).trans b1H.out))
                  have hw1 : IntKind.i64.wrap ((z : Int).tdiv 16) = (g : Int) := by rw [zd2]; exact IntWalk.i64_in _ (by omega)
                  have hw2 : IntKind.i64.wrap ((z : Int) / 16) = (g : Int) := by rw [zd]; exact IntWalk.i64_in _ (by omega)
                  have hw3 : IntKind.i64.wrap (g : Int) = (g : Int) := IntWalk.i64_in _ (by omega)
                  clear ENC hq hv gc szt hE hA htl l3 l4
                  go_wp2_with fail
                  go_region_held3 (fun w' => w'.cell? ⟨w.heap.size, 0, none⟩ = some (.int .i64 (K : Int)) ∧ w'.cell? ⟨w.heap.size, 1, none⟩ = some (.int .i64 (N : Int)) ∧ w'.cell? ⟨w.heap.size, 2, none⟩ = some (.int .i64 (S : Int)) ∧ w'.cell? ⟨wr.heap.size, 1, none⟩ = some (.int .i64 (z : Int)) ∧ w'.cell? ⟨tg, g, none⟩ = some (.slice (ad g) tl (cp g)))
                    (first | exact K7 | go_keep)
                    ((go_at_call 27; refine ENH.out.mono ?_; rintro e w7 ⟨sv, rfl, hsh, B7⟩; have E7 : Below w6.heap.size w6 w7 := below_undrew B7; have K7 : w7.cell? ⟨w.heap.size, 0, none⟩ = some (.int .i64 (K : Int)) ∧ w7.cell? ⟨w.heap.size, 1, none⟩ = some (.int .i64 (N : Int)) ∧ w7.cell? ⟨w.heap.size, 2, none⟩ = some (.int .i64 (S : Int)) ∧ w7.cell? ⟨wr.heap.size, 1, none⟩ = some (.int .i64 (z : Int)) ∧ w7.cell? ⟨tg, g, none⟩ = some (.slice (ad g) tl (cp g)) := ⟨cellF E7 l0, cellF E7 l1, cellF E7 l2, cellF E7 p1, cellF E7 g6⟩; clear B7))
                  all_goals
                    have b7 := (E7.block _ (lt_of_heap b6.out)).trans b6.out
                    have p1 : w7.cell? ⟨wr.heap.size, 1, none⟩ = some (.int .i64 (z : Int)) := K7.2.2.2.1
                    have p5 : w7.cell? ⟨wr.heap.size, 5, none⟩ = some (.slice da dl dc) := by rw [cell_of_row _ _ 5 _ _ _ b7]; rfl
                    have l1 : w7.cell? ⟨w.heap.size, 1, none⟩ = some (.int .i64 (N : Int)) := K7.2.1
                    have hNL := encL_length K N S (T.getD g [])
                    have BS7 := Hid.intro (BS6.out.trans (E7.mono BS6.out.size))
                    rcases hsh with ⟨hs0, _⟩ | ⟨mb, mo, mc, AA, CC, rfl, hsh⟩
                    · exfalso
                      rw [hs0] at hNL
                      simp at hNL
                      omega
                    · have sc := hsh.cell r (by rw [hNL]; exact hrN)
                      have sr := hsh.row r (by rw [hNL]; exact hrN)
                      rw [← HQ.out] at sc sr
                      rw [← HDL.out] at sc
                      have LC1 := fun n => lconv ((VR.out.below BS7.out).below (belowN (Below.refl _ w7) n)) dc
                      have LC2 := fun n => lconv (sr.below (belowN (Below.refl _ w7) n)) (CC r)
                      rw [← HDL.out] at LC1 LC2
                      generalize lstr fdt = sx at LC1 LC2
                      have r0 : (0 : Int) ≤ (r : Int) := by omega
                      have rN : (r : Int) < (N : Int) := by omega
                      have rw1 : IntKind.i64.wrap ((z : Int).tmod 16) = (r : Int) := by rw [zm2]; exact IntWalk.i64_in _ (by omega)
                      have rw2 : IntKind.i64.wrap ((z : Int) % 16) = (r : Int) := by rw [zm]; exact IntWalk.i64_in _ (by omega)
                      have rw3 : IntKind.i64.wrap (r : Int) = (r : Int) := IntWalk.i64_in _ (by omega)
                      have hss : (sx.toList == sx.toList) = true := by simp
                      rw [hNL]
                      clear sr hsh b7 K7 E7 hNL
                      generalize AA r = aar at sc LC2
                      generalize CC r = ccr at sc LC2
                      go_wp2_with fail
                      go_quiet (fail)
                      go_wp2
                      go_roundw
                      case rel => exact ⟨k + 1, by omega, by go_num, belowN BS7.out _⟩
                      case measure => simp [intOf]; omega
              · have k11 : ¬ (k : Int) < (m : Int) := by omega
                have BZ := Hid.intro (B5.out.trans (hB.mono B5.out.size))
                have TZ := Hid.intro (T5H.out.below hB)
                have LZ := Hid.intro (L5H.out.below hB).here
                clear hB BS T5H L5H
                go_wp2
                go_roundw
                case rel => exact ⟨t + 1, T, ad, cp, _, by omega, by go_num, by omega, X2.out, TZ.out, LZ.out.more (by omega), BZ.out⟩
                case measure => simp [intOf]; omega
          · have e1 : (kd != 1) = true := by simpa using k1
            have L5H := Hid.intro (LAH.out.less (G := fun k => k < w1.heap.size ∨ (Value.slice ta T.length tc).ownBlock = some k) (fun k hk => by
              rcases hk with q | q
              · exact .inl q
              · exact .inr (.inl q)))
            clear LAH RAH FAH HN9
            go_wp2
            go_roundw
            case rel => exact ⟨t + 1, T, ad, cp, x, by omega, by go_num, by omega, HX.out, TAH.out, L5H.out.more (by omega), BAH.out⟩
            case measure => simp [intOf]; omega
    · have t1 : ¬ (t : Int) < (n : Int) := by omega
      clear hT LX hX
      go_wp2
      go_ret
      exact ⟨rfl, BW.out⟩

theorem walk (tx k n s wt ms : Int) (a : Option Addr) (len cap : Nat) (l : List Act8) (w : World) (_ : (Lit.int .i64 tx).wf = true) (_ : (Lit.int .i64 k).wf = true ∧ (Lit.int .i64 n).wf = true ∧ (Lit.int .i64 s).wf = true ∧ (Lit.int .i64 wt).wf = true ∧ (Lit.int .i64 ms).wf = true) (ha : l.length = len ∧ (∀ x ∈ l, x.Wf) ∧ ActsAt8 w a l ∧ len ≤ maxLen) (hW : Wid w) :
    Calls Tryd.prog 4 #[.int .i64 tx, Lk k n s wt ms, .slice a len cap] w fun e w' => e = .returned (.bool true) ∧ Below w.heap.size w w' := by
  obtain ⟨rfl, hY, hr, _⟩ := ha
  rcases hn : (mayL k n s wt ms && isTx tx) with _ | _
  · exact walk_nil tx k n s wt ms a cap l w hW hn hr
  · have h' := hn
    rw [Bool.and_eq_true] at h'
    obtain ⟨h1, h2, h3, h4, h5⟩ := mayL_true h'.1
    have h6 := mayC_true h1
    have h7 := isTx_true h'.2
    obtain ⟨T, rfl⟩ := Int.eq_ofNat_of_zero_le h7.1
    obtain ⟨K, rfl⟩ := Int.eq_ofNat_of_zero_le (show 0 ≤ k by omega)
    obtain ⟨N, rfl⟩ := Int.eq_ofNat_of_zero_le (show 0 ≤ n by omega)
    obtain ⟨S, rfl⟩ := Int.eq_ofNat_of_zero_le (show 0 ≤ s by omega)
    obtain ⟨A, rfl⟩ := Int.eq_ofNat_of_zero_le (show 0 ≤ wt by omega)
    obtain ⟨B, rfl⟩ := Int.eq_ofNat_of_zero_le (show 0 ≤ ms by omega)
    by_cases hf : fewB l
    · exact walk_near T K N S A B a cap l w hW hn hf hY hr
    · exact walk_far T K N S A B a cap l w hW hn hf hr

set_option maxRecDepth 100000 in
theorem lifted (os : Os) (started : os.Started) (H : Type) (enc : TypeId × Value → H) :
    ReturnsInHanded {} Tryd.checked os 4 .any (fun w args => (Rows.senderRightSpec.pre enc Tryd.prog Tryd.f4 [] false w args ∧ laidMetH Tryd.prog LW w) ∧ sizedMet enc Tryd.prog Tryd.f4 (OpenSpec.ofChange Rows.senderRightSpec) false w args) (Rows.senderRightSpec.post enc Tryd.prog Tryd.f4 false true false false) := by
  refine returnsInHanded_of_change_and (C := Tryd.checked) (X := fun w _ => laidMetH Tryd.prog LW w) (fun _ _ _ hh h => h.of_heap hh) own started (by kernel_rfl) Tryd.func4
    (ChangeSpec.witness_shaped (enc := enc) (C := Tryd.checked) (os := os) (X := fun w _ => laidMetH Tryd.prog LW w) false (World.doorLaid Tryd.prog 400 os) #[.int .i64 0, .agg #[.int .i64 0, .int .i64 0, .int .i64 0, .int .i64 0, .int .i64 0], .slice none 0 0] 8 rfl (World.shaped_of_RefB (by kernel_rfl) (by kernel_rfl)) (by kernel_rfl) (by kernel_rfl) (by kernel_rfl) (door_met os _)) ?_
  intro W base args ds gs before hval0 hW _ _ hL _
  have hval : ∀ (j : Nat) t v, Tryd.f4.params[j]? = some t → args[j]? = some v → Value.okWide Tryd.prog W .any base t v := hval0
  have hW' := hW
  obtain ⟨p, q, hA0, hV, rfl, hfz, hnd⟩ := hW
  have hA : DataW.TrodAll enc Tryd.prog W 0 (fun _ => true) true Tryd.f4.params.toList args.toList ds p := hA0
  rw [Tryd.params4] at hA hval
  obtain ⟨v0, vs0, d0, ds0, p0, q0, hargs, rfl, rfl, h0, r0⟩ := trodAll_cons hA
  obtain ⟨v1, vs1, d1, ds1, p1, q1, rfl, rfl, rfl, h1, r1⟩ := trodAll_cons r0
  obtain ⟨v2, vs2, d2, ds2, p2, q2, rfl, rfl, rfl, h2, r2⟩ := trodAll_cons r1
  obtain ⟨rfl, rfl, rfl⟩ := trodAll_nil r2
  obtain rfl : args = #[v0, v1, v2] := by cases args; simp_all
  obtain ⟨rfl, rfl⟩ := trodVars_none hV
  obtain ⟨a0, rfl, rfl, rfl, w0⟩ := open_int Tryd.underlying3 (hval 0 3 v0 rfl rfl) h0
  have k1 := h1
  have lt1 : ∀ x ∈ p1, x.block < W.heap.size := by obtain ⟨m, hm⟩ := k1; exact DataW.trod_lt m _ _ _ hm
  obtain ⟨kc1, nc1, sc1, wc1, mc1, rfl, w1⟩ := open_link (hval 1 25 v1 rfl rfl) h1
  have k2 := h2
  have lt2 : ∀ x ∈ p2, x.block < W.heap.size := by obtain ⟨m, hm⟩ := k2; exact DataW.trod_lt m _ _ _ hm
  obtain ⟨a2, len2, cap2, rfl⟩ := okWide_slice Tryd.underlying26 (hval 2 26 v2 rfl rfl)
  obtain ⟨z2, w2⟩ := open_acts h2
  clear hA0 hval0
  refine (walk a0 kc1 nc1 sc1 wc1 mc1 a2 len2 cap2 z2 W w0 w1 w2 (laid_fact hL)).mono fun e W' ⟨he, bel⟩ => ?_
  subst he
  exact ⟨_, rfl, _, _, _, [], _, [], hW', trodAll_mk1 (shut_bool Tryd.underlying4 _), (trodAll_cons_mk (shut_int Tryd.underlying3 w0) (trodAll_cons_mk (Below.trod laidOut (by kernel_rfl) (of_decide_eq_true (by kernel_rfl)) k1 bel lt1) (trodAll_cons_mk (Below.trod laidOut (by kernel_rfl) (of_decide_eq_true (by kernel_rfl)) k2 bel lt2) trodAll_mk0))), rfl, bel.frame _, fun h => by cases h⟩

theorem over : Rows.senderRightRow.holds Tryd.pinned (OpenSpec.ofChange Rows.senderRightSpec) :=
  OpenClaim.holds_of_wide 4 Tryd.f4 rfl rfl rfl rfl rfl rfl rfl ⟨rfl, rfl, rfl, rfl, rfl⟩ rfl rfl rfl rfl rfl (by kernel_rfl) Tryd.func4 (by kernel_rfl)
    (of_decide_eq_true (by kernel_rfl)) (by unfold Func.isWrapper; first | (rw [if_pos (by decide +kernel)]; kernel_rfl) | (rw [if_neg (by decide +kernel)]; exact ⟨rfl, rfl⟩))
    (fun os started H enc _ => lifted os started H enc)

end Go.Proofs.YteacdckfnmjojaaDoor.LSenderRight

namespace Go.Proofs.YteacdckfnmjojaaDoor
theorem senderRight_holds : Rows.SenderRightCardSaid :=
  Claim7.holds_tied_plain_at .later [] [.data] true (true, "9b5cfb4e48c1552a5b4377346394cfbd12191835c5e1507131bd829a00487da3") false
    LSenderRight.over (fun _ h => by cases h) (by kernel_rfl) (fun _ h => by cases h) senderRight_row_tie rfl ⟨rfl, rfl⟩ (by kernel_rfl) rfl
    (fun f fn hf hfn => by
      obtain rfl : f = 4 := Option.some.inj ((show Tryd.prog.funcNamed "gurney/gurneylaw08.SenderRight" = some 4 by kernel_rfl).symm.trans hf) |>.symm
      obtain rfl : fn = Tryd.f4 := (Option.some.inj (Tryd.func4.symm.trans hfn)).symm
      exact ⟨by kernel_rfl, fun j t ht => by
        rw [Tryd.params4] at ht
        have hm : t ∈ [3, 25, 26] := by simpa using Array.mem_of_getElem? ht
        have hall : ([3, 25, 26].all fun u => !Tryd.prog.wantsStandIn u) = true := by kernel_rfl
        exact (show Tryd.prog.wantsStandIn t = false by simpa using List.all_eq_true.1 hall t hm)⟩)
    (by kernel_rfl)
#print axioms senderRight_holds
end Go.Proofs.YteacdckfnmjojaaDoor
