/- The statement WatchApart: beds don't matter to one another. -/
import Derived.Test.YtngfgahdiobcmaaWtAlive
import Derived.Test.YtngfgahdiobcmaaWtApartP
import Derived.Test.YtngfgahdiobcmaaWtFew
import Derived.Test.YtngfgahdiobcmaaWtAct
namespace Go.Proofs.Ytngfgahdiobcmaa
open Go.ChangeShapes Go.WideShapes Go.ChangeAt Go.RowKit
open Bt

namespace LWatchApart

/-- Between two steps of a round: both watches, and the act's own block. -/
structure St (ta tb bs B : Nat) (w1 wr W : World) (A C : List Wb) (k x0 x1 x2 : Int) : Prop where
  two : Two (WS ta A) (WS tb C) (fun q => q = bs) B W
  act : Cells4 W bs k x0 x1 x2
  chg : Chg (fun q => B ≤ q) w1 W
  ge : wr.heap.size < W.heap.size ∧ bs < W.heap.size ∧ B ≤ W.heap.size

variable {ta tb bs B : Nat} {w1 wr W : World} {A A' C C' : List Wb} {k x0 x1 x2 : Int}

theorem St.first (h : St ta tb bs B w1 wr W A C k x0 x1 x2) {f : Nat} {args : Array Value} {E : Ending → Prop} (hc : ∀ S, WS ta A S W → Calls Try.prog f args W fun e w' => E e ∧ LeftG (WS ta A') S W w') :
    Calls Try.prog f args W fun e w' => E e ∧ St ta tb bs B w1 wr w' A' C k x0 x1 x2 :=
  (Two.call (P' := WS ta A') (ws_owned tb C) h.two (fun q hq => by rw [hq]; exact h.ge.2.1) h.ge.2.2 hc).mono fun e w' ⟨he, h2, hC⟩ => by
    have := hC.size
    have := h.ge
    exact ⟨he, h2, h.act.chg hC (fun q => q.2 rfl), h.chg.trans hC (fun q hq _ => hq.1), by omega, by omega, by omega⟩

theorem St.second (h : St ta tb bs B w1 wr W A C k x0 x1 x2) {f : Nat} {args : Array Value} {E : Ending → Prop} (hc : ∀ S, WS tb C S W → Calls Try.prog f args W fun e w' => E e ∧ LeftG (WS tb C') S W w') :
    Calls Try.prog f args W fun e w' => E e ∧ St ta tb bs B w1 wr w' A C' k x0 x1 x2 :=
  (Two.call2 (P' := WS tb C') (ws_owned ta A) h.two (fun q hq => by rw [hq]; exact h.ge.2.1) h.ge.2.2 hc).mono fun e w' ⟨he, h2, hC⟩ => by
    have := hC.size
    have := h.ge
    exact ⟨he, h2, h.act.chg hC (fun q => q.2 rfl), h.chg.trans hC (fun q hq _ => hq.1), by omega, by omega, by omega⟩

set_option maxRecDepth 100000 in
set_option maxHeartbeats 8000000 in
theorem walk (a : Option Addr) (len cap : Nat) (l : List Act15) (bed : Int) (w : World) (hz : l.length = len ∧ ActsAt15 w a l ∧ len ≤ maxLen) (_ : (Lit.int .i64 bed).wf = true) :
    Calls Try.prog 5 #[.slice a len cap, .int .i64 bed] w fun e w' => e = .returned (.bool true) ∧ Below w.heap.size w w' := by
  obtain ⟨rfl, hact, hmx⟩ := hz
  have HA := Hid.intro hact
  have AL := Hid.intro (alive15_any w)
  have FE : Hid (∀ W, Below w.heap.size w W → Calls Try.prog 10 #[.slice a l.length cap] W fun e w' => e = .returned (.bool (few15B l)) ∧ W = w') := fun W hW => few15_any a cap l W (fun h0 => by
    obtain ⟨b, off, e, hc⟩ := hact h0
    exact ⟨b, off, e, fun i hi => (hc i hi).below hW⟩)
  have FT := Hid.intro (fun (h : few15B l = true) => few15_true h)
  obtain ⟨len, hlen⟩ : ∃ len, len = l.length := ⟨_, rfl⟩
  have HLEN := Hid.intro hlen
  rw [← hlen] at hmx FE ⊢
  unfold maxLen at hmx
  generalize few15B l = fb at *
  clear hact hlen
  go_enter Try.func5, Try.ntmps5
  go_wp2_with fail
  refine AL.out.mono ?_
  rintro e w1 ⟨rfl, B1⟩
  have BH := Hid.intro B1
  have F1 := Hid.intro (FE.out w1 B1)
  clear AL B1 FE
  go_wp2_with fail
  refine F1.out.mono ?_
  rintro e w1' ⟨rfl, rfl⟩
  clear F1
  cases fb with
  | false =>
    go_wp2
    go_ret
    exact ⟨rfl, BH.out⟩
  | true =>
  have hf := FT.out rfl
  have hl : len ≤ 100 := by rw [HLEN.out]; exact hf.1
  have HT := Hid.intro hf.2
  clear FT hf
  go_wp2_with fail
  refine (wnew_any w1).mono ?_
  rintro e w2 ⟨ta, T, rfl, hS, hF, BN⟩
  have HS := Hid.intro hS
  have HF := Hid.intro hF
  have BNH := Hid.intro BN
  clear hS hF BN
  go_wp2_with fail
  refine (wnew_any w2).mono ?_
  rintro e w3 ⟨tb, T2, rfl, hS2, hF2, BN2⟩
  have TW := Hid.intro (two_new (P := WS ta []) (Q := WS tb []) (R := fun _ => False) (ws_owned ta []) HS.out HF.out hS2 hF2 BNH.out BN2 (Nat.le_refl _) (fun _ q => q.elim))
  have C3 := Hid.intro (show Chg (fun k => w1.heap.size ≤ k) w1 w3 from ((below_chg BNH.out).mono (fun _ f _ => f.elim)).trans (below_chg BN2) (fun _ f _ => f.elim))
  clear hS2 hF2 BN2 HS HF BNH
  go_wp2_with fail
  go_loopw [7] (fun iv ws => ∃ (t : Nat) (A C : List Wb), t ≤ len ∧ iv = .int .i64 t ∧ AP bed A C ∧ Two (WS ta A) (WS tb C) (fun _ => False) w1.heap.size ws ∧ Chg (fun k => w1.heap.size ≤ k) w1 ws) (fun iv _ => len - (intOf iv).toNat)
  case atStart => exact ⟨0, [], [], by omega, rfl, ap_nil bed, TW.out, C3.out⟩
  case round =>
    clear TW C3
    obtain ⟨t, A, C, ht, rfl, hAl, hTw, hCh⟩ := hrel
    have AH := Hid.intro hAl
    have TH := Hid.intro hTw
    have CH := Hid.intro hCh
    clear hAl hTw hCh
    by_cases hlt : t < len
    · have hlt' : t < l.length := by rw [← HLEN.out]; exact hlt
      obtain ⟨ab, off, ea, hcell⟩ := HA.out (by omega)
      subst ea
      have s1 := BH.out.size
      have s2 := CH.out.size
      have hab : ab < w.heap.size := cell_lt (hcell t hlt').1
      obtain ⟨c0, c1, c2, c3⟩ := ((hcell t hlt').below BH.out).chg CH.out (by omega)
      have tm := HT.out l[t] (List.getElem_mem hlt')
      have t0 : (0 : Int) ≤ (t : Int) := by omega
      have t1 : (t : Int) < (len : Int) := by omega
      generalize l[t] = x at *
      obtain ⟨k, x0, x1, x2⟩ := x
      simp only at c0 c1 c2 c3 tm
      have BA := (Below.refl wr.heap.size wr).alloc (Nat.le_refl _) (actV15 k x0 x1 x2)
      have xs : (wr.alloc (actV15 k x0 x1 x2)).heap.size = wr.heap.size + 1 := by simp
      have ST : Hid (St ta tb wr.heap.size w1.heap.size w1 wr (wr.alloc (actV15 k x0 x1 x2)) A C k x0 x1 x2) :=
        ⟨(TH.out.grow (ws_owned _ _) (ws_owned _ _) BA).less (G := fun q => q = wr.heap.size) (fun q hq => .inr (by omega)), act15_block (heap_alloc_new wr _), CH.out.alloc (actV15 k x0 x1 x2), by omega, by omega, by omega⟩
      have okA := two_ok TH.out
      have OKA := Hid.intro okA
      have TM := Hid.intro tm
      clear hcell BA xs CH TH s1 s2 hab okA tm
      by_cases h7 : 7 < x0
      · have FI := Hid.intro (And.intro (ST.out.two.less (G := fun _ => False) (fun _ q => q.elim)) ST.out.chg)
        obtain ⟨d0, d1, d2, d3⟩ := ST.out.act
        clear ST
        go_wp2_with fail
        generalize wr.alloc (actV15 k x0 x1 x2) = wa at *
        clear c0 c1 c2 c3 d0 d1 d2 d3
        go_wp2
        go_roundw
        case rel => exact ⟨t + 1, A, C, by omega, by go_num, AH.out, FI.out.1, FI.out.2⟩
        case measure => simp [intOf]; omega
      by_cases h0 : x0 < 0
      · have FI := Hid.intro (And.intro (ST.out.two.less (G := fun _ => False) (fun _ q => q.elim)) ST.out.chg)
        obtain ⟨d0, d1, d2, d3⟩ := ST.out.act
        clear ST
        go_wp2_with fail
        generalize wr.alloc (actV15 k x0 x1 x2) = wa at *
        clear c0 c1 c2 c3 d0 d1 d2 d3
        go_wp2
        go_roundw
        case rel => exact ⟨t + 1, A, C, by omega, by go_num, AH.out, FI.out.1, FI.out.2⟩
        case measure => simp [intOf]; omega
      have hb07 : 0 ≤ x0 ∧ x0 ≤ 7 := by omega
      have HB7 := Hid.intro hb07
      obtain ⟨d0, d1, d2, d3⟩ := ST.out.act
      clear hb07
      by_cases hk0 : k = 0
      · subst hk0
        by_cases hown : x0 = bed
        · subst hown
          have f0 : (x0 == x0) = true := by simp
          have P4 := Hid.intro (ST.out.first (fun S hS => wadd_any ta x0 x1 x2 TM.out S A _ hS))
          clear ST
          go_wp2_with fail
          refine P4.out.mono ?_
          rintro e w4 ⟨rfl, s4⟩
          have S4 := Hid.intro s4
          clear d0 d1 d2 d3
          obtain ⟨d0, d1, d2, d3⟩ := s4.act
          clear P4 s4
          have P5 := Hid.intro (S4.out.second (fun S hS => wadd_any tb x0 x1 x2 TM.out S C _ hS))
          clear S4
          go_wp2_with fail
          refine P5.out.mono ?_
          rintro e w5 ⟨rfl, s5⟩
          have S5 := Hid.intro s5
          clear d0 d1 d2 d3
          obtain ⟨d0, d1, d2, d3⟩ := s5.act
          clear P5 s5
          have AO := Hid.intro (AH.out.addOwn OKA.out HB7.out x1 x2)
          have eL := AO.out.lost
          have Q1 := Hid.intro (S5.out.first (fun S hS => wlost_left ta x0 S _ _ hS))
          clear S5 AH
          go_wp2_with fail
          refine Q1.out.mono ?_
          rintro e w8 ⟨rfl, s8⟩
          have Q2 := s8.second (fun S hS => wlost_left tb x0 S _ _ hS)
          rw [← eL] at Q2
          have Q2H := Hid.intro Q2
          clear Q1 s8 Q2 d0 d1 d2 d3 eL
          generalize lostWb _ x0 = lo at *
          go_wp2_with fail
          refine Q2H.out.mono ?_
          rintro e w9 ⟨rfl, s9⟩
          have FI := Hid.intro (And.intro (s9.two.less (G := fun _ => False) (fun _ q => q.elim)) s9.chg)
          clear s9 Q2H
          go_wp2
          go_roundw
          case rel => exact ⟨t + 1, _, _, by omega, by go_num, AO.out, FI.out.1, FI.out.2⟩
          case measure => simp [intOf]; omega
        · have f0 : (x0 == bed) = false := by simpa using hown
          have hne : x0 ≠ bed := hown
          clear hown
          have P4 := Hid.intro (ST.out.first (fun S hS => wadd_any ta x0 x1 x2 TM.out S A _ hS))
          clear ST
          go_wp2_with fail
          refine P4.out.mono ?_
          rintro e w4 ⟨rfl, s4⟩
          have S4 := Hid.intro s4
          clear d0 d1 d2 d3
          obtain ⟨d0, d1, d2, d3⟩ := s4.act
          clear P4 s4
          have AO := Hid.intro (AH.out.addOther hne HB7.out x1 x2)
          have eL := AO.out.lost
          have Q1 := Hid.intro (S4.out.first (fun S hS => wlost_left ta bed S _ _ hS))
          clear S4 AH
          go_wp2_with fail
          refine Q1.out.mono ?_
          rintro e w8 ⟨rfl, s8⟩
          have Q2 := s8.second (fun S hS => wlost_left tb bed S _ _ hS)
          rw [← eL] at Q2
          have Q2H := Hid.intro Q2
          clear Q1 s8 Q2 d0 d1 d2 d3 eL
          generalize lostWb _ bed = lo at *
          go_wp2_with fail
          refine Q2H.out.mono ?_
          rintro e w9 ⟨rfl, s9⟩
          have FI := Hid.intro (And.intro (s9.two.less (G := fun _ => False) (fun _ q => q.elim)) s9.chg)
          clear s9 Q2H
          go_wp2
          go_roundw
          case rel => exact ⟨t + 1, _, _, by omega, by go_num, AO.out, FI.out.1, FI.out.2⟩
          case measure => simp [intOf]; omega
      by_cases hk1 : k = 1
      · subst hk1
        by_cases hown : x0 = bed
        · subst hown
          have f0 : (x0 == x0) = true := by simp
          have P4 := Hid.intro (ST.out.first (fun S hS => wrem_any ta x0 S A _ hS))
          clear ST
          go_wp2_with fail
          refine P4.out.mono ?_
          rintro e w4 ⟨rfl, s4⟩
          have S4 := Hid.intro s4
          clear d0 d1 d2 d3
          obtain ⟨d0, d1, d2, d3⟩ := s4.act
          clear P4 s4
          have P5 := Hid.intro (S4.out.second (fun S hS => wrem_any tb x0 S C _ hS))
          clear S4
          go_wp2_with fail
          refine P5.out.mono ?_
          rintro e w5 ⟨rfl, s5⟩
          have S5 := Hid.intro s5
          clear d0 d1 d2 d3
          obtain ⟨d0, d1, d2, d3⟩ := s5.act
          clear P5 s5
          have AO := Hid.intro (AH.out.remOwn)
          have eL := AO.out.lost
          have Q1 := Hid.intro (S5.out.first (fun S hS => wlost_left ta x0 S _ _ hS))
          clear S5 AH
          go_wp2_with fail
          refine Q1.out.mono ?_
          rintro e w8 ⟨rfl, s8⟩
          have Q2 := s8.second (fun S hS => wlost_left tb x0 S _ _ hS)
          rw [← eL] at Q2
          have Q2H := Hid.intro Q2
          clear Q1 s8 Q2 d0 d1 d2 d3 eL
          generalize lostWb _ x0 = lo at *
          go_wp2_with fail
          refine Q2H.out.mono ?_
          rintro e w9 ⟨rfl, s9⟩
          have FI := Hid.intro (And.intro (s9.two.less (G := fun _ => False) (fun _ q => q.elim)) s9.chg)
          clear s9 Q2H
          go_wp2
          go_roundw
          case rel => exact ⟨t + 1, _, _, by omega, by go_num, AO.out, FI.out.1, FI.out.2⟩
          case measure => simp [intOf]; omega
        · have f0 : (x0 == bed) = false := by simpa using hown
          have hne : x0 ≠ bed := hown
          clear hown
          have P4 := Hid.intro (ST.out.first (fun S hS => wrem_any ta x0 S A _ hS))
          clear ST
          go_wp2_with fail
          refine P4.out.mono ?_
          rintro e w4 ⟨rfl, s4⟩
          have S4 := Hid.intro s4
          clear d0 d1 d2 d3
          obtain ⟨d0, d1, d2, d3⟩ := s4.act
          clear P4 s4
          have AO := Hid.intro (AH.out.remOther hne)
          have eL := AO.out.lost
          have Q1 := Hid.intro (S4.out.first (fun S hS => wlost_left ta bed S _ _ hS))
          clear S4 AH
          go_wp2_with fail
          refine Q1.out.mono ?_
          rintro e w8 ⟨rfl, s8⟩
          have Q2 := s8.second (fun S hS => wlost_left tb bed S _ _ hS)
          rw [← eL] at Q2
          have Q2H := Hid.intro Q2
          clear Q1 s8 Q2 d0 d1 d2 d3 eL
          generalize lostWb _ bed = lo at *
          go_wp2_with fail
          refine Q2H.out.mono ?_
          rintro e w9 ⟨rfl, s9⟩
          have FI := Hid.intro (And.intro (s9.two.less (G := fun _ => False) (fun _ q => q.elim)) s9.chg)
          clear s9 Q2H
          go_wp2
          go_roundw
          case rel => exact ⟨t + 1, _, _, by omega, by go_num, AO.out, FI.out.1, FI.out.2⟩
          case measure => simp [intOf]; omega
      by_cases hk2 : k = 2
      · subst hk2
        by_cases hown : x0 = bed
        · subst hown
          have f0 : (x0 == x0) = true := by simp
          have P4 := Hid.intro (ST.out.first (fun S hS => wheard_left ta x0 x2 TM.out S A _ hS))
          clear ST
          go_wp2_with fail
          refine P4.out.mono ?_
          rintro e w4 ⟨rfl, s4⟩
          have S4 := Hid.intro s4
          clear d0 d1 d2 d3
          obtain ⟨d0, d1, d2, d3⟩ := s4.act
          clear P4 s4
          have P5 := Hid.intro (S4.out.second (fun S hS => wheard_left tb x0 x2 TM.out S C _ hS))
          clear S4
          go_wp2_with fail
          refine P5.out.mono ?_
          rintro e w5 ⟨rfl, s5⟩
          have S5 := Hid.intro s5
          clear d0 d1 d2 d3
          obtain ⟨d0, d1, d2, d3⟩ := s5.act
          clear P5 s5
          have AO := Hid.intro (AH.out.heardOwn x2)
          have eL := AO.out.lost
          have Q1 := Hid.intro (S5.out.first (fun S hS => wlost_left ta x0 S _ _ hS))
          clear S5 AH
          go_wp2_with fail
          refine Q1.out.mono ?_
          rintro e w8 ⟨rfl, s8⟩
          have Q2 := s8.second (fun S hS => wlost_left tb x0 S _ _ hS)
          rw [← eL] at Q2
          have Q2H := Hid.intro Q2
          clear Q1 s8 Q2 d0 d1 d2 d3 eL
          generalize lostWb _ x0 = lo at *
          go_wp2_with fail
          refine Q2H.out.mono ?_
          rintro e w9 ⟨rfl, s9⟩
          have FI := Hid.intro (And.intro (s9.two.less (G := fun _ => False) (fun _ q => q.elim)) s9.chg)
          clear s9 Q2H
          go_wp2
          go_roundw
          case rel => exact ⟨t + 1, _, _, by omega, by go_num, AO.out, FI.out.1, FI.out.2⟩
          case measure => simp [intOf]; omega
        · have f0 : (x0 == bed) = false := by simpa using hown
          have hne : x0 ≠ bed := hown
          clear hown
          have P4 := Hid.intro (ST.out.first (fun S hS => wheard_left ta x0 x2 TM.out S A _ hS))
          clear ST
          go_wp2_with fail
          refine P4.out.mono ?_
          rintro e w4 ⟨rfl, s4⟩
          have S4 := Hid.intro s4
          clear d0 d1 d2 d3
          obtain ⟨d0, d1, d2, d3⟩ := s4.act
          clear P4 s4
          have AO := Hid.intro (AH.out.heardOther hne x2)
          have eL := AO.out.lost
          have Q1 := Hid.intro (S4.out.first (fun S hS => wlost_left ta bed S _ _ hS))
          clear S4 AH
          go_wp2_with fail
          refine Q1.out.mono ?_
          rintro e w8 ⟨rfl, s8⟩
          have Q2 := s8.second (fun S hS => wlost_left tb bed S _ _ hS)
          rw [← eL] at Q2
          have Q2H := Hid.intro Q2
          clear Q1 s8 Q2 d0 d1 d2 d3 eL
          generalize lostWb _ bed = lo at *
          go_wp2_with fail
          refine Q2H.out.mono ?_
          rintro e w9 ⟨rfl, s9⟩
          have FI := Hid.intro (And.intro (s9.two.less (G := fun _ => False) (fun _ q => q.elim)) s9.chg)
          clear s9 Q2H
          go_wp2
          go_roundw
          case rel => exact ⟨t + 1, _, _, by omega, by go_num, AO.out, FI.out.1, FI.out.2⟩
          case measure => simp [intOf]; omega
      by_cases hk3 : k = 3
      · subst hk3
        have P4 := Hid.intro (ST.out.first (fun S hS => wlook_left ta x2 TM.out S A _ hS))
        clear ST
        go_wp2_with fail
        refine P4.out.mono ?_
        rintro e w4 ⟨⟨a4, c4, rfl⟩, s4⟩
        have S4 := Hid.intro s4
        clear d0 d1 d2 d3
        obtain ⟨d0, d1, d2, d3⟩ := s4.act
        clear P4 s4
        have P5 := Hid.intro (S4.out.second (fun S hS => wlook_left tb x2 TM.out S C _ hS))
        clear S4
        go_wp2_with fail
        refine P5.out.mono ?_
        rintro e w5 ⟨⟨a5, c5, rfl⟩, s5⟩
        have S5 := Hid.intro s5
        clear d0 d1 d2 d3
        obtain ⟨d0, d1, d2, d3⟩ := s5.act
        clear P5 s5
        have AO := Hid.intro (AH.out.look x2)
        have eL := AO.out.lost
        have Q1 := Hid.intro (S5.out.first (fun S hS => wlost_left ta bed S _ _ hS))
        clear S5 AH
        go_wp2_with fail
        refine Q1.out.mono ?_
        rintro e w8 ⟨rfl, s8⟩
        have Q2 := s8.second (fun S hS => wlost_left tb bed S _ _ hS)
        rw [← eL] at Q2
        have Q2H := Hid.intro Q2
        clear Q1 s8 Q2 d0 d1 d2 d3 eL
        generalize lostWb _ bed = lo at *
        go_wp2_with fail
        refine Q2H.out.mono ?_
        rintro e w9 ⟨rfl, s9⟩
        have FI := Hid.intro (And.intro (s9.two.less (G := fun _ => False) (fun _ q => q.elim)) s9.chg)
        clear s9 Q2H
        go_wp2
        go_roundw
        case rel => exact ⟨t + 1, _, _, by omega, by go_num, AO.out, FI.out.1, FI.out.2⟩
        case measure => simp [intOf]; omega
      have n0 : (k == 0) = false := by simpa using hk0
      have n1 : (k == 1) = false := by simpa using hk1
      have n2 : (k == 2) = false := by simpa using hk2
      have n3 : (k == 3) = false := by simpa using hk3
      clear hk0 hk1 hk2 hk3
      have AO := Hid.intro (AH.out)
      have eL := AO.out.lost
      have Q1 := Hid.intro (ST.out.first (fun S hS => wlost_left ta bed S _ _ hS))
      clear ST AH
      go_wp2_with fail
      refine Q1.out.mono ?_
      rintro e w8 ⟨rfl, s8⟩
      have Q2 := s8.second (fun S hS => wlost_left tb bed S _ _ hS)
      rw [← eL] at Q2
      have Q2H := Hid.intro Q2
      clear Q1 s8 Q2 d0 d1 d2 d3 eL
      generalize lostWb _ bed = lo at *
      go_wp2_with fail
      refine Q2H.out.mono ?_
      rintro e w9 ⟨rfl, s9⟩
      have FI := Hid.intro (And.intro (s9.two.less (G := fun _ => False) (fun _ q => q.elim)) s9.chg)
      clear s9 Q2H
      go_wp2
      go_roundw
      case rel => exact ⟨t + 1, _, _, by omega, by go_num, AO.out, FI.out.1, FI.out.2⟩
      case measure => simp [intOf]; omega
    · obtain rfl : t = len := by omega
      have t1 : ¬ (t : Int) < (t : Int) := by omega
      have FI : Hid (Below w.heap.size w wr) := BH.out.trans (CH.out.below (B := w.heap.size) BH.out.size (fun q hq => by have := BH.out.size; omega))
      clear TH CH
      go_wp2
      go_ret
      exact ⟨rfl, FI.out⟩

set_option maxRecDepth 100000 in
theorem lifted (os : Os) (started : os.Started) (H : Type) (enc : TypeId × Value → H) :
    ReturnsInHanded {} Try.checked os 5 .any (Rows.watchApartSpec.pre6 enc Try.prog Try.f5 Rows.watchApartRow.domain false) (Rows.watchApartSpec.post enc Try.prog Try.f5 false true false false) := by
  refine returnsInHanded_of_change (C := Try.checked) own started (by kernel_rfl) Try.func5
    (ChangeSpec.witness6 (enc := enc) (C := Try.checked) false ⟨#[], #[.slice none 0 0, .int .i64 0], []⟩ 8 (by kernel_rfl) (by kernel_rfl) (by kernel_rfl) (by kernel_rfl)) ?_
  intro W base args ds gs before hval0 hW hcnd _
  have hval : ∀ (j : Nat) t v, Try.f5.params[j]? = some t → args[j]? = some v → Value.okWide Try.prog W .any base t v := hval0
  have hW' := hW
  obtain ⟨p, q, hA0, hV, rfl, hfz, hnd⟩ := hW
  have hA : DataW.TrodAll enc Try.prog W 0 (fun _ => true) true Try.f5.params.toList args.toList ds p := hA0
  rw [Try.params5] at hA hval
  obtain ⟨v0, vs0, d0, ds0, p0, q0, hargs, rfl, rfl, h0, r0⟩ := trodAll_cons hA
  obtain ⟨v1, vs1, d1, ds1, p1, q1, rfl, rfl, rfl, h1, r1⟩ := trodAll_cons r0
  obtain ⟨rfl, rfl, rfl⟩ := trodAll_nil r1
  obtain rfl : args = #[v0, v1] := by cases args; simp_all
  obtain ⟨rfl, rfl⟩ := trodVars_none hV
  have k0 := h0
  have lt0 : ∀ x ∈ p0, x.block < W.heap.size := by obtain ⟨m, hm⟩ := k0; exact DataW.trod_lt m _ _ _ hm
  obtain ⟨a0, len0, cap0, rfl⟩ := okWide_slice Try.underlying22 (hval 0 22 v0 rfl rfl)
  obtain ⟨z0, w0⟩ := open_acts h0
  obtain ⟨a1, rfl, rfl, rfl, w1⟩ := open_int Try.underlying3 (hval 1 3 v1 rfl rfl) h1
  clear hA0 hval0
  refine (walk a0 len0 cap0 z0 a1 W w0 w1).mono fun e W' ⟨he, bel⟩ => ?_
  subst he
  exact ⟨_, rfl, _, _, _, [], _, [], hW', trodAll_mk1 (shut_bool Try.underlying4 _), (trodAll_cons_mk (Below.trod laidOut (by kernel_rfl) (of_decide_eq_true (by kernel_rfl)) k0 bel lt0) (trodAll_cons_mk (shut_int Try.underlying3 w1) trodAll_mk0)), rfl, bel.frame _, fun h => by cases h⟩

theorem over : Rows.watchApartRow.holds Try.pinned (OpenSpec.ofChange Rows.watchApartSpec) :=
  OpenClaim.holds_of_wide 5 Try.f5 rfl rfl rfl rfl rfl rfl rfl ⟨rfl, rfl, rfl, rfl, rfl⟩ rfl rfl rfl rfl rfl (by kernel_rfl) Try.func5 (by kernel_rfl)
    (of_decide_eq_true (by kernel_rfl)) (by unfold Func.isWrapper; first | (rw [if_pos (by decide +kernel)]; kernel_rfl) | (rw [if_neg (by decide +kernel)]; exact ⟨rfl, rfl⟩))
    (fun os started H enc _ => lifted os started H enc)

end Go.Proofs.Ytngfgahdiobcmaa.LWatchApart

namespace Go.Proofs.Ytngfgahdiobcmaa
theorem watchApart_holds : Rows.WatchApartSaid := LWatchApart.over
#print axioms watchApart_holds
end Go.Proofs.Ytngfgahdiobcmaa
