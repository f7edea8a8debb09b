/- The document's own answer of layer 10: Pack. -/
import Derived.Test.YthbfdfkkacmbhaaDoorRcRefR
import Derived.Test.YthbfdfkkacmbhaaDoorRefNum
import Derived.Test.YthbfdfkkacmbhaaDoorRefPad
import Derived.Deep.AppendLies
import Derived.Deep.RegionLaw
import Derived.Deep.RegionHeldLaw
namespace Go.Proofs.YthbfdfkkacmbhaaDoor
open Go.RowKit
open Bt

/-- A text under way. -/
def textP (l : List Smp) (i : Nat) : List Nat := l.length :: (l.take i).flatMap smB

theorem textP_zero (l : List Smp) : textP l 0 = [l.length] := by simp [textP]

theorem textP_step (l : List Smp) {i : Nat} (hi : i < l.length) : textP l (i + 1) = textP l i ++ smB l[i] := by
  unfold textP
  rw [take_snoc l i hi, List.flatMap_append]
  simp

theorem textP_all (l : List Smp) : textP l l.length = textM l := by
  unfold textP textM
  rw [List.take_length]

theorem textP_length (l : List Smp) {i : Nat} (hi : i ≤ l.length) : (textP l i).length = 1 + 3 * i := by
  unfold textP
  rw [List.length_cons, flat_length, List.length_take]
  omega

theorem low_smN {s : Smp} (h : rightM s = true) : low64 (((s.kind * 256 + s.tick) * 1024 + s.value) * 8) = smN s := by
  obtain ⟨h1, h2, h3, _⟩ := rightM_true h
  unfold low64 smN
  rw [IntKind.wrap_u64]
  omega

theorem cellsP {w : World} {R : Nat → Prop} {ao : Option Addr} {n c : Nat} {l : List Smp} (h : SmsAt R w (.slice ao n c) l) (h0 : 0 < l.length) : ∃ pb off, ao = some ⟨pb, off, none⟩ ∧ ∀ t, (ht : t < l.length) →
    w.cell? ⟨pb, off + t * 3, none⟩ = some (.int .i64 l[t].kind) ∧ w.cell? ⟨pb, off + t * 3 + 1, none⟩ = some (.int .i64 l[t].tick) ∧ w.cell? ⟨pb, off + t * 3 + 2, none⟩ = some (.int .i64 l[t].value) := by
  obtain ⟨_, _, e, hp⟩ := h
  simp only [Value.slice.injEq] at e
  obtain ⟨rfl, _, _⟩ := e
  obtain ⟨pb, off, ha, _, hq⟩ := hp h0
  exact ⟨pb, off, ha, hq⟩

theorem cellQ {w w' : World} {a : Addr} {v : Value} (h : Below w.heap.size w w') (hc : w.cell? a = some v) : w'.cell? a = some v := (h.cell (cell_lt hc)).trans hc

/-- What Pack leaves. -/
def PkA (w : World) (T : List Nat) (pe : Int) (e : Ending) (w' : World) : Prop := ∃ a c, e = .returned (.tuple #[.slice a T.length c, .int .i64 pe]) ∧ Reads w' a T ∧ Below w.heap.size w w'

theorem pka_none {w w' : World} {pe : Int} {e : Ending} (he : e = .returned (.tuple #[.slice none 0 0, .int .i64 pe])) (hb : Below w.heap.size w w') : PkA w [] pe e w' := ⟨none, 0, he, (fun q => by simp at q), hb⟩

set_option maxRecDepth 100000 in
set_option maxHeartbeats 4000000 in
theorem refPack_in (k n s : Int) (R : Nat → Prop) (ao : Option Addr) (cap : Nat) (l : List Smp) (hl : l.length ≤ 80) (w : World) (h : SmsAt R w (.slice ao l.length cap) l) :
    Calls Tryd.prog 15 #[Cd k n s, .slice ao l.length cap] w (PkA w (packT k n s l) (packE k n s l)) := by
  have BA := (Below.refl _ w).alloc (Nat.le_refl _) (.cells #[.int .i64 k, .int .i64 n, .int .i64 s] 23)
  have nA := heap_alloc_new w (.cells #[.int .i64 k, .int .i64 n, .int .i64 s] 23)
  have MA := Hid.intro (fun W => refMay_any k n s W)
  have BAH := Hid.intro BA
  have NAH := Hid.intro nA
  have HS := Hid.intro h
  have F1 : Hid (mayC k n s = false → packE k n s l = 1 ∧ packT k n s l = []) := fun hm => by
    have e : packE k n s l = 1 := by unfold packE; rw [if_neg (fun q => by rw [hm] at q; exact absurd q.1 (by decide))]
    exact ⟨e, by unfold packT; rw [e]; rfl⟩
  have F2 : Hid (allR l = false → packE k n s l = 1 ∧ packT k n s l = []) := fun hm => by
    have e : packE k n s l = 1 := by unfold packE; rw [if_neg (fun q => by rw [hm] at q; exact absurd q.2 (by decide))]
    exact ⟨e, by unfold packT; rw [e]; rfl⟩
  have F3 : Hid (mayC k n s = true → allR l = true → ¬ 1 + 3 * (l.length : Int) ≤ k * s → packE k n s l = 4 ∧ packT k n s l = []) := fun h1 h2 h3 => by
    have e : packE k n s l = 4 := by unfold packE; rw [if_pos ⟨h1, h2⟩, if_neg h3]
    exact ⟨e, by unfold packT; rw [e]; rfl⟩
  have F4 : Hid (mayC k n s = true → allR l = true → 1 + 3 * (l.length : Int) ≤ k * s → packE k n s l = 0 ∧ packT k n s l = padB k n s (textM l)) := fun h1 h2 h3 => by
    have e := packE_ok h1 h2 h3
    exact ⟨e, by unfold packT; rw [if_pos e]⟩
  obtain ⟨pe, hpe⟩ : ∃ pe, pe = packE k n s l := ⟨_, rfl⟩
  obtain ⟨T, hT⟩ : ∃ T, T = packT k n s l := ⟨_, rfl⟩
  rw [← hpe, ← hT] at F1 F2 F3 F4 ⊢
  obtain ⟨L, hL⟩ : ∃ L, L = l.length := ⟨_, rfl⟩
  have HL := Hid.intro hL
  rw [← hL] at hl F3 F4 ⊢
  clear BA nA h hL hpe hT
  go_enter Tryd.func15, Tryd.ntmps15
  go_wp2_with fail
  refine (MA.out _).mono ?_
  rintro e w1 ⟨rfl, B1⟩
  have N1 := Hid.intro ((B1.block _ (lt_of_heap NAH.out)).trans NAH.out)
  have B1H := Hid.intro (BAH.out.trans (B1.mono BAH.out.size))
  clear MA B1 NAH BAH
  cases hm : mayC k n s with
  | false =>
    obtain ⟨e1, e2⟩ := F1.out hm
    subst e1 e2
    clear hm F1 F2 F3 F4
    go_wp2
    go_ret2
    exact pka_none rfl B1H.out
  | true =>
    have hmm := mayC_true hm
    have hks : 0 ≤ k * s ∧ k * s ≤ 144 := by
      have a1 : k * s ≤ 6 * s := Int.mul_le_mul_of_nonneg_right hmm.2.1 (by omega)
      have a2 : 0 ≤ k * s := Int.mul_nonneg (by omega) (by omega)
      omega
    have G3 := Hid.intro (F3.out hm)
    have G4 := Hid.intro (F4.out hm)
    have HM := Hid.intro hm
    obtain ⟨p, hp⟩ : ∃ p, p = k * s := ⟨_, rfl⟩
    have hwq : IntKind.i64.wrap (k * s) = p := by rw [hp]; exact IntWalk.i64_in _ (by omega)
    rw [← hp] at G3 G4 hks
    clear hp F1 F3 F4 hm hmm
    go_wp2_with fail
    go_loopw [6] (fun i ws => ∃ t : Nat, t ≤ L ∧ i = .int .i64 t ∧ (∀ j, (hj : j < l.length) → j < t → rightM l[j] = true) ∧ Below w1.heap.size w1 ws) (fun i _ => L - (intOf i).toNat)
    case atStart => exact ⟨0, by omega, rfl, fun j _ hj => absurd hj (Nat.not_lt_zero _), Below.refl _ _⟩
    case round =>
      obtain ⟨t, ht, rfl, hR, hB⟩ := hrel
      have HR := Hid.intro hR
      have BH := Hid.intro hB
      by_cases hlt : t < L
      · have t0 : (0 : Int) ≤ (t : Int) := by omega
        have t1 : (t : Int) < (L : Int) := by omega
        have htl : t < l.length := by rw [← HL.out]; exact hlt
        obtain ⟨pb, off, rfl, hp⟩ := cellsP HS.out (by omega)
        obtain ⟨q0, q1, q2⟩ := hp t htl
        have s0 := cellQ hB (cellQ B1H.out q0)
        have s1 := cellQ hB (cellQ B1H.out q1)
        have s2 := cellQ hB (cellQ B1H.out q2)
        have CR := Hid.intro (refRight_any l[t] wr)
        have NX : Hid (rightM l[t] = true → ∀ j, (hj : j < l.length) → j < t + 1 → rightM l[j] = true) := fun e j hj h => by
          by_cases q : j < t
          · exact HR.out j hj q
          · obtain rfl : j = t := by omega
            exact e
        have BAD : Hid (rightM l[t] = false → allR l = false) := fun e => by
          cases q : allR l with
          | false => rfl
          | true =>
            have := List.all_eq_true.1 q _ (List.getElem_mem htl)
            rw [e] at this
            cases this
        generalize l[t] = x at s0 s1 s2 CR NX BAD
        clear hp q0 q1 q2 hR hB
        cases hx : rightM x with
        | false =>
          obtain ⟨e1, e2⟩ := F2.out (BAD.out hx)
          subst e1 e2
          rw [hx] at CR
          clear NX hx BAD G3 G4 F2
          go_wp2_with fail
          refine CR.out.mono ?_
          rintro e w2 ⟨rfl, B2⟩
          have FIN := Hid.intro (B1H.out.trans ((BH.out.trans (B2.mono BH.out.size)).mono B1H.out.size))
          clear CR B2 s0 s1 s2
          go_wp2
          go_ret2
          exact pka_none rfl FIN.out
        | true =>
          rw [hx] at CR
          have NX2 := Hid.intro (NX.out hx)
          clear NX hx BAD
          go_wp2_with fail
          refine CR.out.mono ?_
          rintro e w2 ⟨rfl, B2⟩
          have B2H := Hid.intro (BH.out.trans (B2.mono BH.out.size))
          clear CR B2 s0 s1 s2
          go_wp2
          go_roundw
          case rel => exact ⟨t + 1, by omega, by go_num, NX2.out, B2H.out⟩
          case measure => simp [intOf]; omega
      · obtain rfl : t = L := by omega
        have tt : ¬ (t : Int) < (t : Int) := by omega
        have hall : allR l = true := by
          unfold allR
          rw [List.all_eq_true]
          intro s hs
          obtain ⟨j, hj, rfl⟩ := List.getElem_of_mem hs
          exact hR j hj (by rw [HL.out]; exact hj)
        have n3 := (hB.block _ (lt_of_heap N1.out)).trans N1.out
        have c0 : wr.cell? ⟨w.heap.size, 0, none⟩ = some (.int .i64 k) := by rw [cell_of_row _ _ 0 _ _ _ n3]; rfl
        have c1 : wr.cell? ⟨w.heap.size, 1, none⟩ = some (.int .i64 n) := by rw [cell_of_row _ _ 1 _ _ _ n3]; rfl
        have c2 : wr.cell? ⟨w.heap.size, 2, none⟩ = some (.int .i64 s) := by rw [cell_of_row _ _ 2 _ _ _ n3]; rfl
        have BW := Hid.intro (B1H.out.trans (hB.mono B1H.out.size))
        have HALL := Hid.intro hall
        have K3 := Hid.intro (G3.out hall)
        have K4 := Hid.intro (G4.out hall)
        clear G3 G4 F2 n3 hall hR hB HR BH
        by_cases hfit : 1 + 3 * (t : Int) ≤ p
        case neg =>
          have hgt : p < 1 + 3 * (t : Int) := by omega
          obtain ⟨e1, e2⟩ := K3.out (by first | exact hgt | exact hfit)
          subst e1 e2
          go_wp2
          go_ret2
          exact pka_none rfl BW.out
        obtain ⟨e1, e2⟩ := K4.out hfit
        subst e1
        have HT := Hid.intro e2
        have hgt : ¬ p < 1 + 3 * (t : Int) := by omega
        clear K3 K4 e2
        have hu8 : IntKind.u8.wrap (t : Int) = (t : Int) := IntWalk.u8_in _ (by omega)
        generalize wr = wx at *
        have PADT := Hid.intro (fun (W : World) (a : Option Addr) (c : Nat) (hr : Reads W a (textM l)) (hn : a = none → c = 0) => refPad_any k n s a c (textM l) (by rw [textM_length, ← HL.out]; omega) W hr hn)
        have OB : (wx.alloc (.cells #[U t] 5)).ownsRow 0 5 1 (.slice (some ⟨wx.heap.size, 0, none⟩) 1 1) 1 ((textP l 0).map U) := by
          rw [textP_zero, ← HL.out]
          exact ⟨rfl, .inr ⟨wx.heap.size, 1, #[U t], rfl, Nat.zero_le _, heap_alloc_new _ _, Nat.le_refl _, (by decide), rfl, rfl⟩⟩
        have OBH := Hid.intro OB
        have BN := Hid.intro ((Below.refl _ wx).alloc (Nat.le_refl _) (.cells #[U t] 5))
        have C0 := Hid.intro c0
        have C1 := Hid.intro c1
        have C2 := Hid.intro c2
        obtain ⟨i8, hi8, hz80, hz81, hz82⟩ := info_parts info_u8
        clear OB
        go_wp2_with fail
        go_loopw [7, 8] (fun bv i ws => ∃ j : Nat, j ≤ t ∧ i = .int .i64 j ∧ ws.ownsRow 0 5 1 bv (1 + 3 * j) ((textP l j).map U) ∧ (∀ q, bv.ownBlock = some q → wx.heap.size ≤ q) ∧ Below wx.heap.size wx ws) (fun _ i _ => t - (intOf i).toNat)
        case atStart => exact ⟨0, by omega, rfl, OBH.out, (fun q hq => by have : wx.heap.size = q := by simpa [Value.ownBlock] using hq
                                                                          omega), BN.out⟩
        case round =>
          clear OBH BN
          obtain ⟨j, hj, rfl, hO, hN, hB⟩ := hrel
          have OH := Hid.intro hO
          have NH := Hid.intro hN
          have BH := Hid.intro hB
          by_cases hjt : j < t
          · have j0 : (0 : Int) ≤ (j : Int) := by omega
            have j1 : (j : Int) < (t : Int) := by omega
            have hjl : j < l.length := by rw [← HL.out]; exact hjt
            obtain ⟨pb, off, rfl, hp⟩ := cellsP HS.out (by omega)
            obtain ⟨q0, q1, q2⟩ := hp j hjl
            have hcw : ∀ {ad : Addr} {v : Value} {W : World}, Below wx.heap.size wx W → w.cell? ad = some v → W.cell? ad = some v := fun hb hq => cellQ hb (cellQ BW.out hq)
            have HCW : Hid (∀ W, Below wx.heap.size wx W → W.cell? ⟨pb, off + j * 3, none⟩ = some (.int .i64 l[j].kind) ∧ W.cell? ⟨pb, off + j * 3 + 1, none⟩ = some (.int .i64 l[j].tick) ∧ W.cell? ⟨pb, off + j * 3 + 2, none⟩ = some (.int .i64 l[j].value)) := fun W hb => ⟨hcw hb q0, hcw hb q1, hcw hb q2⟩
            obtain ⟨s0, s1, s2⟩ := HCW.out wr hB
            have hr : rightM l[j] = true := List.all_eq_true.1 HALL.out _ (List.getElem_mem hjl)
            have hrb := rightM_true hr
            have NU := refNumber_yes (((l[j].kind * 256 + l[j].tick) * 1024 + l[j].value) * 8) 3 (by decide) wr.drew
            rw [low_smN hr] at NU
            have ST := Hid.intro (textP_step l hjl)
            have TL := Hid.intro (textP_length l (i := j) (by omega))
            rw [show smB l[j] = numB (smN l[j]) 3 from rfl] at ST
            have NL := numB_length (smN l[j]) 3
            generalize l[j].kind = x0 at *
            generalize l[j].tick = x1 at *
            generalize l[j].value = x2 at *
            generalize numB (smN l[j]) 3 = nb at *
            have NUH := Hid.intro NU
            obtain ⟨y, hy⟩ : ∃ y, y = ((x0 * 256 + x1) * 1024 + x2) * 8 := ⟨_, rfl⟩
            have m1 : IntKind.i64.wrap (x0 * 256) = x0 * 256 := IntWalk.i64_in _ (by omega)
            have m2 : IntKind.i64.wrap (x0 * 256 + x1) = x0 * 256 + x1 := IntWalk.i64_in _ (by omega)
            have m3 : IntKind.i64.wrap ((x0 * 256 + x1) * 1024) = (x0 * 256 + x1) * 1024 := IntWalk.i64_in _ (by omega)
            have m4 : IntKind.i64.wrap ((x0 * 256 + x1) * 1024 + x2) = (x0 * 256 + x1) * 1024 + x2 := IntWalk.i64_in _ (by omega)
            have m5 : IntKind.i64.wrap (((x0 * 256 + x1) * 1024 + x2) * 8) = ((x0 * 256 + x1) * 1024 + x2) * 8 := IntWalk.i64_in _ (by omega)
            obtain ⟨ba, bc, hbv, _⟩ := ownsRow_form hO
            subst hbv
            clear hp q0 q1 q2 hcw NU hr hO hN hB
            have BL := fun (b : List Nat) => (show ∀ u ∈ b.map U, u.oneCell' = true from fun u hu => by obtain ⟨q, _, rfl⟩ := List.mem_map.1 hu; rfl)
            have ONE := Hid.intro (BL nb)
            have NLU : (nb.map U).length = 3 * 1 := by rw [List.length_map, NL]
            have FIN : Hid (∀ (W wb : World) (gz cz : Nat), Below wr.heap.size wr W → wb.ownsRow 0 5 1 (.slice (some ⟨gz, 0, none⟩) (1 + 3 * j + 3) cz) (1 + 3 * j + 3) ((textP l j).map U ++ nb.map U) → W.grownBy wb (Value.slice ba (1 + 3 * j) bc).ownBlock → ((Value.slice ba (1 + 3 * j) bc).ownBlock = some gz ∨ gz = W.heap.size) →
                wb.ownsRow 0 5 1 (.slice (some ⟨gz, 0, none⟩) (1 + 3 * j + 3) cz) (1 + 3 * (j + 1)) ((textP l (j + 1)).map U) ∧ (∀ q, (Value.slice (some ⟨gz, 0, none⟩) (1 + 3 * j + 3) cz).ownBlock = some q → wx.heap.size ≤ q) ∧ Below wx.heap.size wx wb) := fun W wb gz cz hW hown hgrow hat => by
              have hsW := hW.size
              have hsr := BH.out.size
              have C : Chg (fun q => (Value.slice ba (1 + 3 * j) bc).ownBlock = some q) wr wb := ((below_chg hW).mono (fun _ q _ => q.elim)).grown hgrow (fun q hq _ => hq)
              refine ⟨?_, fun q hq => ?_, BH.out.trans (C.below BH.out.size (fun q hq => NH.out q hq))⟩
              · rw [ST.out, List.map_append]
                exact hown
              · obtain rfl : gz = q := by simpa [Value.ownBlock] using hq
                rcases hat with r | r
                · exact NH.out gz r
                · omega
            clear BL NL hy
            go_wp2_with fail
            go_region_held_law (fun W => W.cell? ⟨pb, off + j * 3, none⟩ = some (.int .i64 x0) ∧ W.cell? ⟨pb, off + j * 3 + 1, none⟩ = some (.int .i64 x1) ∧ W.cell? ⟨pb, off + j * 3 + 2, none⟩ = some (.int .i64 x2))
              (first | exact HCW.out _ E6 | exact HCW.out _ (BH.out.trans (E5.mono BH.out.size)) | exact HCW.out _ BH.out.drew | go_keep)
              (first
                | (refine step_append_lies _ (by rfl) _ _ _ (by rfl) 0 5 i8 (.int .u8 0) 1 1 Tryd.underlying30 hi8 hz80 hz81 hz82 (by rfl) (by decide) (.slice ba (1 + 3 * j) bc) (1 + 3 * j) _ (by rfl) O5 ⟨g5, 0, none⟩ 3 3 (nb.map U) (by rfl) NLU (World.ownsRow.cells own5 (g := g5) rfl) ONE.out (by decide) (by unfold maxLen; omega) (by omega) (Nat.zero_le _) _ rfl ?_; intro gz cz wb hown hgrow hat hltz; have FN := FIN.out w5 wb gz cz E5 hown hgrow hat; have E6 := FN.2.2; have F1 := Hid.intro FN; clear FN hown hgrow hat hltz)
                | (go_at_call 31; refine NUH.out.mono ?_; rintro e w5 ⟨g5, rfl, hg5, own5, B5⟩; have E5 : Below wr.heap.size wr w5 := ⟨B5.os, B5.tape, B5.output, B5.size, B5.block⟩; have O5 := ownsRow_keep OH.out (fun q hq => E5.block q (World.ownsRow.lt OH.out q hq).2); clear B5))
            all_goals
              clear FIN NUH ONE HCW
              go_wp2
              go_roundw
              case rel => exact ⟨j + 1, by omega, by go_num, F1.out⟩
              case measure => simp [intOf]; omega
          · obtain rfl : j = t := by omega
            have jj : ¬ (j : Int) < (j : Int) := by omega
            have hOO := hO
            rw [show textP l j = textM l by rw [HL.out]; exact textP_all l] at hOO
            have hlm : (textM l).length = 1 + 3 * j := by rw [textM_length, ← HL.out]
            rw [← hlm] at hOO
            obtain ⟨ra, rc, hrv, hrd, _⟩ := row_of_owns hOO
            have hrn : ra = none → rc = 0 := fun e => by
              rw [e] at hrv
              rcases hOO.2 with ⟨h', _⟩ | ⟨g', cap', _, h', _⟩
              · rw [h'] at hrv; simp only [Value.slice.injEq] at hrv; exact hrv.2.2.symm
              · rw [h'] at hrv; simp at hrv
            subst hrv
            have PD := PADT.out wr ra rc hrd hrn
            rw [hlm] at PD
            have PDH := Hid.intro PD
            have d0 := cellQ hB C0.out
            have d1 := cellQ hB C1.out
            have d2 := cellQ hB C2.out
            have BW2 := Hid.intro (BW.out.trans (hB.mono BW.out.size))
            rw [← HT.out] at PDH
            rw [hlm]
            clear hO hN hB hOO hrd hrn PD PADT OH NH BH
            go_wp2_with fail
            refine PDH.out.mono ?_
            rintro e w6 ⟨v6, rfl, own6, new6, B6⟩
            obtain ⟨a6, c6, ev, r6, _⟩ := row_of_owns own6
            subst ev
            have BW6 := Hid.intro (BW2.out.trans (B6.mono BW2.out.size))
            have R6 := Hid.intro r6
            clear PDH own6 new6 B6 r6
            obtain ⟨TN, hTN⟩ : ∃ TN, TN = T.length := ⟨_, rfl⟩
            have HTN := Hid.intro hTN
            rw [← hTN]
            clear hTN
            go_wp2
            go_ret2
            exact ⟨a6, c6, by rw [← HTN.out]; rfl, R6.out, BW6.out⟩

theorem refPack_any (k n s : Int) (R : Nat → Prop) (ao : Option Addr) (cap : Nat) (l : List Smp) (hl : l.length ≤ 80) (w : World) (h : SmsAt R w (.slice ao l.length cap) l) :
    Calls Tryd.prog 15 #[Cd k n s, .slice ao l.length cap] w fun e w' => ∃ a c, e = .returned (.tuple #[.slice a (packT k n s l).length c, .int .i64 (packE k n s l)]) ∧ Reads w' a (packT k n s l) ∧ Below w.heap.size w w' := refPack_in k n s R ao cap l hl w h

end Go.Proofs.YthbfdfkkacmbhaaDoor
