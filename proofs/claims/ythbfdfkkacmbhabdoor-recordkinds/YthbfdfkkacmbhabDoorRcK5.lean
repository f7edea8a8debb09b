/- Package record: Pack. -/
import Derived.Test.YthbfdfkkacmbhabDoorRcK2
import Derived.Test.YthbfdfkkacmbhabDoorRcK4
import Derived.Test.YthbfdfkkacmbhabDoorRsK1P
import Derived.Deep.RegionHeld3
namespace Go.Proofs.YthbfdfkkacmbhabDoor
open Go.RowKit
open Bt

theorem undrewP {w w' : World} (h : Below w.drew.heap.size w.drew w') : Below w.heap.size w w' := ⟨h.os, h.tape, h.output, h.size, h.block⟩

theorem Rd.mono {B C : Nat} {w : World} {v : Value} {bs : List Nat} (h : Rd B w v bs) (hC : C ≤ B) : Rd C w v bs := by
  obtain ⟨ao, cap, e, h1, h2, h3⟩ := h
  exact ⟨ao, cap, e, h1, h2, fun ad q => Nat.le_trans hC (h3 ad q)⟩

/-- What Pack leaves. -/
def PkM (w : World) (F : List Nat) (pe : Int) (e : Ending) (w' : World) : Prop := ∃ a c, e = .returned (.tuple #[.slice a F.length c, .int .i64 pe]) ∧ Reads w' a F ∧ Room a c F.length ∧ (∀ ad, a = some ad → w.heap.size ≤ ad.block) ∧ Below w.heap.size w w'

theorem pkm_none {w w' : World} {pe : Int} {e : Ending} (he : e = .returned (.tuple #[.slice none 0 0, .int .i64 pe])) (hb : Below w.heap.size w w') : PkM w [] pe e w' := ⟨none, 0, he, (fun h => by simp at h), ⟨fun _ => rfl, Nat.le_refl _⟩, (fun ad h => by cases h), hb⟩

theorem packE_one {k n s : Int} {l : List Smp} (h : ¬ (mayC k n s = true ∧ allR l = true)) : packE k n s l = 1 ∧ packT k n s l = [] := by
  have e : packE k n s l = 1 := by unfold packE; rw [if_neg h]
  exact ⟨e, by unfold packT; rw [e]; rfl⟩

theorem packE_four {k n s : Int} {l : List Smp} (h1 : mayC k n s = true) (h2 : allR l = true) (h3 : ¬ 1 + 3 * (l.length : Int) ≤ k * s) : packE k n s l = 4 ∧ packT k n s l = [] := by
  have e : packE k n s l = 4 := by unfold packE; rw [if_pos ⟨h1, h2⟩, if_neg h3]
  exact ⟨e, by unfold packT; rw [e]; rfl⟩

theorem packE_yes {k n s : Int} {l : List Smp} (h1 : mayC k n s = true) (h2 : allR l = true) (h3 : 1 + 3 * (l.length : Int) ≤ k * s) : packE k n s l = 0 ∧ packT k n s l = padB k n s (textM l) := by
  have e := packE_ok h1 h2 h3
  exact ⟨e, by unfold packT; rw [if_pos e]⟩

theorem mB_fld {s : Smp} (h : rightM s = true) : mB s.kind s.tick s.value 4 = fld 3 s.kind.toNat ++ (fld 8 s.tick.toNat ++ (fld 10 s.value.toNat ++ fld 3 0)) := (mB_all h).trans (sample_bits h).symm

theorem bitsM_length (l : List Smp) (i : Nat) : (bitsM l i).length ≤ 8 + 24 * l.length := by
  unfold bitsM
  rw [List.length_append, fld_length]
  have h : ∀ m : List Smp, (m.flatMap (fun s => fld 3 s.kind.toNat ++ (fld 8 s.tick.toNat ++ (fld 10 s.value.toNat ++ fld 3 0)))).length = 24 * m.length := by
    intro m
    induction m with
    | nil => rfl
    | cons s m ih => rw [List.flatMap_cons, List.length_append, ih, List.length_cons]; simp only [List.length_append, fld_length]; omega
  rw [h]
  have : (l.take i).length ≤ l.length := List.length_take_le' _ _
  omega

theorem textM_byt {l : List Smp} (hl : l.length < 256) : Byt (textM l) := by
  intro b hb
  unfold textM at hb
  rcases List.mem_cons.1 hb with q | q
  · omega
  · obtain ⟨s, _, r⟩ := List.mem_flatMap.1 q
    exact numB_byte _ _ b r

set_option maxRecDepth 100000 in
set_option maxHeartbeats 2000000 in
theorem cpack_in (k n s : Int) (R : Nat → Prop) (ao : Option Addr) (cap : Nat) (l : List Smp) (hl : l.length ≤ 80) (w : World) (hw : WidR w) (h : SmsAt R w (.slice ao l.length cap) l) :
    Calls Tryd.prog 7 #[Cd k n s, .slice ao l.length cap] w (PkM w (packT k n s l) (packE k n s l)) := by
  obtain ⟨A, hA⟩ : ∃ A, A = w.alloc (.cells #[.int .i64 k, .int .i64 n, .int .i64 s] 27) := ⟨_, rfl⟩
  have BA : Below w.heap.size w A := by rw [hA]; exact (Below.refl _ w).alloc (Nat.le_refl _) _
  have nA : A.heap[w.heap.size]? = some (.cells #[.int .i64 k, .int .i64 n, .int .i64 s] 27 (0, 0)) := by rw [hA]; exact heap_alloc_new w _
  have h' := h.below BA
  have HM := Hid.intro (rmay_any k n s A)
  have HF := Hid.intro (fun W => cfits_any k n s W)
  have HC := Hid.intro (fun (W : World) (hB : Below A.heap.size A W) => mcontains_any R ao cap l (by omega) W (h'.below hB))
  have HP := Hid.intro (fun (W : World) (ao : Option Addr) (c : Nat) (hr : Reads W ao (textM l)) (hc : ao = none → c = 0) => rpad_any k n s ao c (textM l) (textM_byt (by omega)) (by rw [textM_length]; omega) W hr hc)
  have HW := Hid.intro (hw.below BA)
  have HS := Hid.intro h'
  have HBA := Hid.intro BA
  have HCC : Hid (∀ W, Below A.heap.size A W → W.cell? ⟨w.heap.size, 0, none⟩ = some (.int .i64 k) ∧ W.cell? ⟨w.heap.size, 1, none⟩ = some (.int .i64 n) ∧ W.cell? ⟨w.heap.size, 2, none⟩ = some (.int .i64 s)) := fun W hB => by
    have q := (hB.block _ (lt_of_heap nA)).trans nA
    exact ⟨by rw [cell_of_row _ _ 0 _ _ _ q]; rfl, by rw [cell_of_row _ _ 1 _ _ _ q]; rfl, by rw [cell_of_row _ _ 2 _ _ _ q]; rfl⟩
  rw [hA] at HM
  have HA := Hid.intro hA
  have E1 := Hid.intro (packE_one (k := k) (n := n) (s := s) (l := l))
  have E4 := Hid.intro (packE_four (k := k) (n := n) (s := s) (l := l))
  have E0 := Hid.intro (packE_yes (k := k) (n := n) (s := s) (l := l))
  obtain ⟨pe, hpe⟩ : ∃ pe, pe = packE k n s l := ⟨_, rfl⟩
  obtain ⟨F, hF⟩ : ∃ F, F = packT k n s l := ⟨_, rfl⟩
  rw [← hpe, ← hF] at E1 E4 E0 ⊢
  obtain ⟨L, hL⟩ : ∃ L, L = l.length := ⟨_, rfl⟩
  have HL := Hid.intro hL
  rw [← hL] at hl HC E4 E0 ⊢
  clear hpe hF hL hw h h' hA BA nA
  cases hmy : mayC k n s with
  | false =>
    obtain ⟨e1, e2⟩ := E1.out (fun q => by rw [hmy] at q; cases q.1)
    subst e1 e2
    rw [hmy] at HM
    clear E1 E4 E0 hmy
    go_enter Tryd.func7, Tryd.ntmps7
    go_wp2_with fail
    refine HM.out.mono ?_
    rintro e w1 ⟨rfl, B1⟩
    rw [← HA.out] at B1
    have BW := HBA.out.trans (B1.mono HBA.out.size)
    clear HM HF HC HP B1
    go_wp2
    go_ret2
    exact pkm_none rfl BW
  | true =>
  rw [hmy] at HM
  cases har : allR l with
  | false =>
    obtain ⟨e1, e2⟩ := E1.out (fun q => by rw [har] at q; cases q.2)
    subst e1 e2
    rw [har] at HC
    clear E1 E4 E0 hmy har
    go_enter Tryd.func7, Tryd.ntmps7
    go_wp2_with fail
    refine HM.out.mono ?_
    rintro e w1 ⟨rfl, B1⟩
    rw [← HA.out] at B1
    have B1H := Hid.intro B1
    clear HM HF HP B1
    go_wp2_with fail
    refine (HC.out _ B1H.out).mono ?_
    rintro e w2 ⟨rfl, B2⟩
    have BW := B1H.out.trans (B2.mono B1H.out.size)
    have BWW := HBA.out.trans (BW.mono HBA.out.size)
    clear HC B2 BW
    go_wp2
    go_ret2
    exact pkm_none rfl BWW
  | true =>
  rw [har] at HC
  have hf : fitsM k n s = (k * s - 1) / 3 := by unfold fitsM; rw [if_pos hmy]
  obtain ⟨P, hP⟩ : ∃ P, P = k * s := ⟨_, rfl⟩
  have hP1 : 1 ≤ P ∧ P ≤ 144 := by
    have hm := mayC_true hmy
    have a1 : k * s ≤ 6 * s := Int.mul_le_mul_of_nonneg_right hm.2.1 (by omega)
    have a2 : 1 * s ≤ k * s := Int.mul_le_mul_of_nonneg_right hm.1 (by omega)
    omega
  rw [← hP] at E4 E0 hf
  rw [hf] at HF
  have E4' := Hid.intro (E4.out hmy har)
  have E0' := Hid.intro (E0.out hmy har)
  obtain ⟨T, hT⟩ : ∃ T, T = (P - 1) / 3 := ⟨_, rfl⟩
  rw [← hT] at HF
  have HAR := Hid.intro har
  have HT := Hid.intro hT
  clear E1 E4 E0 hmy har hP hf hT
  by_cases hfit : (L : Int) ≤ T
  case neg =>
    obtain ⟨e1, e2⟩ := E4'.out (by have := HT.out; omega)
    subst e1 e2
    have z1 : T < (L : Int) := by omega
    clear E4' E0' HT hP1 hfit
    go_enter Tryd.func7, Tryd.ntmps7
    go_wp2_with fail
    refine HM.out.mono ?_
    rintro e w1 ⟨rfl, B1⟩
    rw [← HA.out] at B1
    have B1H := Hid.intro B1
    clear HM HP B1
    go_wp2_with fail
    refine (HC.out _ B1H.out).mono ?_
    rintro e w2 ⟨rfl, B2⟩
    have B2H := Hid.intro (B1H.out.trans (B2.mono B1H.out.size))
    obtain ⟨c0, c1, c2⟩ := HCC.out w2 B2H.out
    clear HC B2 B1H
    go_wp2_with fail
    refine (HF.out _).mono ?_
    rintro e w3 ⟨rfl, B3⟩
    have BW := B2H.out.trans (B3.mono B2H.out.size)
    have BWW := HBA.out.trans (BW.mono HBA.out.size)
    clear HF B3 B2H BW
    go_wp2
    go_ret2
    exact pkm_none rfl BWW
  case pos =>
  obtain ⟨e1, e2⟩ := E0'.out (by have := HT.out; omega)
  subst e1
  have HE := Hid.intro e2
  have z1 : ¬ T < (L : Int) := by omega
  have BP : Hid (pack (bitsM l L) = textM l) := by rw [Hid, HL.out]; exact bitsM_pack HAR.out (by rw [← HL.out]; omega)
  have BS := Hid.intro (fun (i : Nat) (hi : i < l.length) => (bitsM_step l hi).trans (congrArg (bitsM l i ++ ·) (mB_fld (List.all_eq_true.1 HAR.out _ (List.getElem_mem hi))).symm))
  have BL := Hid.intro (bitsM_length l)
  have BZ : Hid (putB (L : Int) ((8 : Nat) : Int) = bitsM l 0) := by
    have h8 : isF (L : Int) ((8 : Nat) : Int) = true := (isF_iffM _ 8 (by decide) (by decide)).2 (by omega)
    rw [Hid, putB_fldM h8, HL.out]
    unfold bitsM
    simp
  rw [← HL.out] at BL
  clear E4' E0' HT hP1 e2 hfit
  go_enter Tryd.func7, Tryd.ntmps7
  go_wp2_with fail
  refine HM.out.mono ?_
  rintro e w1 ⟨rfl, B1⟩
  rw [← HA.out] at B1
  have B1H := Hid.intro B1
  clear HM B1
  go_wp2_with fail
  refine (HC.out _ B1H.out).mono ?_
  rintro e w2 ⟨rfl, B2⟩
  have B2H := Hid.intro (B1H.out.trans (B2.mono B1H.out.size))
  obtain ⟨c0, c1, c2⟩ := HCC.out w2 B2H.out
  clear HC B2 B1H
  go_wp2_with fail
  refine (HF.out _).mono ?_
  rintro e w3 ⟨rfl, B3⟩
  have B3H := Hid.intro (B2H.out.trans (B3.mono B2H.out.size))
  have PX := pen_new w3
  have BX := B3H.out.alloc B3H.out.size (.cells #[.slice none 0 0, .int .i64 0] 41)
  have OX := own_new A.heap.size w3.heap.size B3H.out.size
  clear HF B3 B2H c0 c1 c2
  have hmf : ∀ (fn : Fn) (first cap : Array Value) (w : World), (Instr.makeFunc fn first cap).run Tryd.prog w = .ok (.func fn first cap) w := fun _ _ _ _ => rfl
  generalize hX : w3.alloc (.cells #[.slice none 0 0, .int .i64 0] 41) = X at PX BX
  generalize hpb : w3.heap.size = pb at PX OX
  have PUT := Hid.intro (put_any pb (L : Int) ((8 : Nat) : Int) (.slice none 0 0) [] (by decide) X PX)
  have BXH := Hid.intro BX
  have OXH := Hid.intro OX
  have hXH := Hid.intro hX
  have hpbH := Hid.intro hpb
  clear PX BX OX B3H hX hpb
  go_wp2_with fail
  rw [hXH.out, hpbH.out]
  clear hXH hpbH
  refine PUT.out.mono ?_
  rintro e w4 ⟨rfl, v1, P1, C1, K1⟩
  have O1 := OXH.out.next BXH.out.size K1
  have D1 := BXH.out.trans ((OXH.out.chg C1).below BXH.out.size fun _ h => h)
  rw [List.nil_append, BZ.out] at P1
  have P1H := Hid.intro P1
  have O1H := Hid.intro O1
  have D1H := Hid.intro D1
  clear PUT C1 K1 P1 O1 D1 BXH OXH BZ
  go_wp2_with fail
  go_loopw [29] (fun i wr => ∃ j : Nat, j ≤ L ∧ i = .int .i64 j ∧ (∃ u, PenAt wr pb u (bitsM l j) ∧ Own A.heap.size pb u) ∧ Below A.heap.size A wr) (fun i _ => L - (intOf i).toNat)
  case atStart => exact ⟨0, by omega, rfl, ⟨_, P1H.out, O1H.out⟩, D1H.out⟩
  case round =>
    obtain ⟨j, hj, rfl, ⟨u, hp, ho⟩, hb⟩ := hrel
    have HPN := Hid.intro hp
    have HO := Hid.intro ho
    have HB := Hid.intro hb
    clear hp ho hb P1H O1H D1H
    by_cases hlt : j < L
    · have i0 : (0 : Int) ≤ (j : Int) := by omega
      have i1 : (j : Int) < (L : Int) := by omega
      have hj1 : j < l.length := by rw [← HL.out]; exact hlt
      obtain ⟨ao', cap', ea, hcs⟩ := HS.out.below HB.out
      simp only [Value.slice.injEq] at ea
      obtain ⟨rfl, _, rfl⟩ := ea
      obtain ⟨sb, so, rfl, _, hcc⟩ := hcs (by omega)
      obtain ⟨x0, x1, x2⟩ := hcc j hj1
      have STP := BS.out j hj1
      have hlen := BL.out j
      have PS := Hid.intro (putSample_in l[j].kind l[j].tick l[j].value pb u (bitsM l j) (by omega) A (wr.alloc (.cells #[.int .i64 l[j].kind, .int .i64 l[j].tick, .int .i64 l[j].value] 23)) HW.out (HB.out.alloc HB.out.size _) (HPN.out.kept (S := fun _ => False) ((Chg.refl _ wr).alloc _) (fun _ _ h => h)) HO.out)
      rw [← STP] at PS
      generalize l[j].kind = a0 at x0 PS
      generalize l[j].tick = a1 at x1 PS
      generalize l[j].value = a2 at x2 PS
      clear STP hcc hcs hj1
      go_wp2_with fail
      refine PS.out.mono ?_
      rintro e w5 ⟨rfl, ⟨u5, P5, O5⟩, B5⟩
      have P5H := Hid.intro P5
      have O5H := Hid.intro O5
      have B5H := Hid.intro B5
      clear PS P5 O5 B5 x0 x1 x2 HPN HO HB
      go_wp2
      go_roundw
      case rel => exact ⟨j + 1, by omega, by go_num, ⟨_, P5H.out, O5H.out⟩, B5H.out⟩
      case measure => simp [intOf]; omega
    · obtain rfl : j = L := by omega
      have i1 : ¬ (j : Int) < (j : Int) := by omega
      have hlen := BL.out j
      have BY := Hid.intro (bytes_any pb u (bitsM l j) (by omega) wr.drew (HPN.out.kept (S := fun _ => False) ((Chg.refl _ wr).drew) (fun _ _ h => h)))
      rw [BP.out] at BY
      have hTL : (textM l).length = 1 + 3 * j := by rw [textM_length, ← HL.out]
      rw [hTL] at BY HP
      rw [← HE.out] at HP
      obtain ⟨c0, c1, c2⟩ := HCC.out wr HB.out
      clear hlen hTL BL
      go_wp2_with fail
      go_region_held3 (fun w' => w'.cell? ⟨w.heap.size, 0, none⟩ = some (.int .i64 k) ∧ w'.cell? ⟨w.heap.size, 1, none⟩ = some (.int .i64 n) ∧ w'.cell? ⟨w.heap.size, 2, none⟩ = some (.int .i64 s))
        (first | exact HCC.out _ E7 | exact HCC.out _ E6 | go_keep)
        (first
          | (go_at_call 19; refine BY.out.mono ?_; rintro e w6 ⟨g, rfl, hg, hrow, C6⟩; have E6 : Below A.heap.size A w6 := HB.out.trans ((undrewP (C6.below (Nat.le_refl _) (fun _ h => h.elim))).mono HB.out.size); have R6 := hrow.reads; clear hrow C6 hg)
          | (go_at_call 18; refine (HP.out _ (some ⟨g, 0, none⟩) (1 + 3 * j) R6 (fun h => by cases h)).mono ?_; rintro e w7 ⟨v7, rfl, D7, B7⟩; have E7 := E6.trans (B7.mono E6.size); have F7 := D7.mono E6.size; clear D7 B7))
      all_goals
        have E7H := Hid.intro (HBA.out.trans (E7.mono HBA.out.size))
        obtain ⟨a7, c7, rfl, r7, m7, n7⟩ := F7
        have R7 := Hid.intro r7
        have M7 := Hid.intro m7
        have N7 := Hid.intro n7
        clear E6 E7 R6 r7 m7 n7 HP BY
        go_wp2
        go_ret2
        exact ⟨a7, c7, rfl, R7.out, M7.out, fun ad h => Nat.le_trans HBA.out.size (N7.out ad h), E7H.out⟩

theorem cpack_any (k n s : Int) (R : Nat → Prop) (ao : Option Addr) (cap : Nat) (l : List Smp) (hl : l.length ≤ 80) (w : World) (hw : WidR w) (h : SmsAt R w (.slice ao l.length cap) l) :
    Calls Tryd.prog 7 #[Cd k n s, .slice ao l.length cap] w fun e w' => ∃ a c, e = .returned (.tuple #[.slice a (packT k n s l).length c, .int .i64 (packE k n s l)]) ∧ Reads w' a (packT k n s l) ∧ Room a c (packT k n s l).length ∧ (∀ ad, a = some ad → w.heap.size ≤ ad.block) ∧ Below w.heap.size w w' := cpack_in k n s R ao cap l hl w hw h

end Go.Proofs.YthbfdfkkacmbhabDoor
