/- Several texts, one behind the other: RcEq RcK2 RcK4 RsK1P RcK5. -/
import Derived.Test.YthhggjakenalpaaGreatDoorRcVal
import Derived.Laws.StructEq
import Derived.Test.YthhggjakenalpaaGreatDoorRcK1
import Derived.Test.YthhggjakenalpaaGreatDoorRcW
import Derived.Test.YthhggjakenalpaaGreatDoorMPlain
import Derived.Test.YthhggjakenalpaaGreatDoorBitsPen
import Derived.Test.YthhggjakenalpaaGreatDoorMRs
import Derived.Deep.RegionHeld3
/- Two samples held against one another. -/
namespace Go.Proofs.YthhggjakenalpaaGreatDoor
set_option maxRecDepth 100000
open Go.RowKit
open Bt

set_option maxRecDepth 100000 in
theorem smp_eq (a0 a1 a2 b0 b1 b2 : Int) (w : World) :
    (Op.equalIn 10000 35 (.agg #[.int .i64 a0, .int .i64 a1, .int .i64 a2]) (.agg #[.int .i64 b0, .int .i64 b1, .int .i64 b2])).run Tryz.prog w = .ok (a0 == b0 && (a1 == b1 && a2 == b2)) w := by
  have u := Tryz.underlying35
  rw [run_equalIn_agg (P := Tryz.prog) w 9999 35 _ _ (by kernel_rfl) (by kernel_rfl)]
  simp only [Program.fieldsOf, u]
  have p : ∀ (x0 x1 x2 : Int), (part 3 #[.int .i64 x0, .int .i64 x1, .int .i64 x2] 0).run Tryz.prog w = .ok (.int .i64 x0) w ∧ (part 3 #[.int .i64 x0, .int .i64 x1, .int .i64 x2] 1).run Tryz.prog w = .ok (.int .i64 x1) w ∧ (part 3 #[.int .i64 x0, .int .i64 x1, .int .i64 x2] 2).run Tryz.prog w = .ok (.int .i64 x2) w := fun x0 x1 x2 => ⟨by kernel_rfl, by kernel_rfl, by kernel_rfl⟩
  have q : ∀ (x y : Int), (Op.equalIn 9999 3 (.int .i64 x) (.int .i64 y)).run Tryz.prog w = .ok (x == y) w := fun x y => run_equalIn_int w 9998 3 .i64 .i64 x y Tryz.underlying3
  obtain ⟨pa0, pa1, pa2⟩ := p a0 a1 a2
  obtain ⟨pb0, pb1, pb2⟩ := p b0 b1 b2
  have n0 : ("Kind" ≠ "_") := by decide
  have n1 : ("At" ≠ "_") := by decide
  have n2 : ("Value" ≠ "_") := by decide
  simp only [Op.eqFields, if_pos n0, if_pos n1, if_pos n2, Sem.run_bind, pa0, pa1, pa2, pb0, pb1, pb2, Result.andThen_ok, q, Sem.run_ite, Sem.run_pure]
  generalize (a0 == b0) = e0
  generalize (a1 == b1) = e1
  generalize (a2 == b2) = e2
  cases e0 <;> cases e1 <;> cases e2 <;> rfl

theorem smp_beq (s t : Smp) : (s.kind == t.kind && (s.tick == t.tick && s.value == t.value)) = decide (s = t) := by
  obtain ⟨a, b, c⟩ := s
  obtain ⟨e, f, g⟩ := t
  rw [Bool.eq_iff_iff]
  simp only [Bool.and_eq_true, beq_iff_eq, decide_eq_true_eq, Smp.mk.injEq]

/-- The first so many are the same. -/
theorem take_extM {l m : List Smp} {k : Nat} (h : l.take k = m.take k) (h1 : k < l.length) (h2 : k < m.length) (e : l[k] = m[k]) : l.take (k + 1) = m.take (k + 1) := by
  rw [List.take_add_one, List.take_add_one, h, List.getElem?_eq_getElem h1, List.getElem?_eq_getElem h2, e]

end Go.Proofs.YthhggjakenalpaaGreatDoor

/- Package record: slices.IndexFunc and ContainsFunc of what is wrong; slices.Equal, Same. -/
namespace Go.Proofs.YthhggjakenalpaaGreatDoor
set_option maxRecDepth 100000
open Go.RowKit
open Bt

/-- isWrong, as a value. -/
abbrev wrongF : Value := .func (.func 122) #[] #[]

/-- Where the first is that is wrong; -1: none is. -/
def wrongP (l : List Smp) : Int := match l.findIdx? (fun s => !rightM s) with
  | some i => (i : Int)
  | none => -1

theorem wrongP_hit {l : List Smp} {i : Nat} (hi : i < l.length) (h : rightM l[i] = false) (hn : ∀ j, (hj : j < i) → rightM (l[j]'(Nat.lt_trans hj hi)) = true) : wrongP l = (i : Int) := by
  have e : l.findIdx? (fun s => !rightM s) = some i := by
    rw [List.findIdx?_eq_some_iff_getElem]
    exact ⟨hi, by simp [h], fun j hj => by simp [hn j hj]⟩
  unfold wrongP
  rw [e]

theorem wrongP_miss {l : List Smp} (hn : ∀ j, (hj : j < l.length) → rightM l[j] = true) : wrongP l = -1 := by
  have e : l.findIdx? (fun s => !rightM s) = none := by
    rw [List.findIdx?_eq_none_iff]
    intro s hs
    obtain ⟨j, hj, rfl⟩ := List.getElem_of_mem hs
    simp [hn j hj]
  unfold wrongP
  rw [e]

theorem wrongP_all (l : List Smp) : decide (0 ≤ wrongP l) = !allR l := by
  unfold wrongP
  cases e : l.findIdx? (fun s => !rightM s) with
  | some i =>
    have h := List.findIdx?_eq_some_iff_getElem.1 e
    obtain ⟨hi, h1, _⟩ := h
    have : allR l = false := by
      unfold allR
      rw [List.all_eq_false]
      exact ⟨l[i], List.getElem_mem hi, by simpa using h1⟩
    rw [this]
    simp
  | none =>
    have h := List.findIdx?_eq_none_iff.1 e
    have : allR l = true := by
      unfold allR
      rw [List.all_eq_true]
      intro s hs
      simpa using h s hs
    rw [this]
    simp

set_option maxRecDepth 100000 in
set_option maxHeartbeats 1000000 in
theorem mindex_any (R : Nat → Prop) (ao : Option Addr) (c : Nat) (l : List Smp) (hl : l.length ≤ 1000) (w : World) (h : SmsAt R w (.slice ao l.length c) l) :
    Calls Tryz.prog 153 #[.slice ao l.length c, wrongF] w fun e w' => e = .returned (.int .i64 (wrongP l)) ∧ Below w.heap.size w w' := by
  obtain ⟨ao', c', e0, hs⟩ := h
  simp only [Value.slice.injEq] at e0
  obtain ⟨rfl, _, rfl⟩ := e0
  have HS := Hid.intro hs
  clear hs
  obtain ⟨L, hL⟩ : ∃ L, L = l.length := ⟨_, rfl⟩
  have HL := Hid.intro hL
  obtain ⟨P, hP⟩ : ∃ P, P = wrongP l := ⟨_, rfl⟩
  have HP := Hid.intro hP
  rw [← hL] at hl ⊢
  rw [← hP]
  clear hL hP
  go_enter Tryz.func153, Tryz.ntmps153
  go_wp2_with fail
  go_loopw [8] (fun i ws => ∃ t : Nat, t ≤ L ∧ i = .int .i64 t ∧ Below w.heap.size w ws ∧ ∀ j, (hj : j < l.length) → j < t → rightM l[j] = true) (fun i _ => L - (intOf i).toNat)
  case atStart => exact ⟨0, by omega, rfl, Below.refl _ w, fun j _ hj => absurd hj (Nat.not_lt_zero _)⟩
  case round =>
    obtain ⟨t, ht, rfl, hB, hno⟩ := hrel
    have HNO := Hid.intro hno
    have BH := Hid.intro hB
    clear hno
    by_cases hlt : t < L
    · have hlt' : t < l.length := by rw [← HL.out]; exact hlt
      obtain ⟨pb, off, rfl, _, hc⟩ := HS.out (by omega)
      obtain ⟨q0, q1, q2⟩ := hc t hlt'
      have c0 := cell_chg (below_chg hB) q0 id
      have c1 := cell_chg (below_chg hB) q1 id
      have c2 := cell_chg (below_chg hB) q2 id
      have CL := Hid.intro (isWrong_any l[t] wr)
      have HIT := Hid.intro (fun (e : rightM l[t] = false) => wrongP_hit hlt' e (fun j hj => HNO.out j (by omega) hj))
      have t1 : (t : Int) < (L : Int) := by omega
      have t0 : (0 : Int) ≤ (t : Int) := by omega
      have NX : Hid (rightM l[t] = true → ∀ j, (hj : j < l.length) → j < t + 1 → rightM l[j] = true) := fun e j hj h => by
        by_cases q : j < t
        · exact HNO.out j hj q
        · obtain rfl : j = t := by omega
          exact e
      generalize l[t] = s at CL HIT NX c0 c1 c2
      clear q0 q1 q2 hc hB HNO hlt'
      cases e : rightM s with
      | false =>
        rw [e] at CL
        have HPE : Hid (P = (t : Int)) := by rw [Hid, HP.out]; exact HIT.out e
        clear HIT e NX
        go_wp2_with fail
        refine CL.out.mono ?_
        rintro e w3 ⟨rfl, B3⟩
        have B3w := Hid.intro (BH.out.trans (B3.mono BH.out.size))
        clear CL B3 BH c0 c1 c2
        go_wp2
        go_ret
        exact ⟨by rw [HPE.out]; rfl, B3w.out⟩
      | true =>
        rw [e] at CL
        have NXT := Hid.intro (NX.out e)
        clear HIT e NX
        go_wp2_with fail
        refine CL.out.mono ?_
        rintro e w3 ⟨rfl, B3⟩
        have B3w := Hid.intro (BH.out.trans (B3.mono BH.out.size))
        clear CL B3 BH c0 c1 c2
        go_wp2
        go_roundw
        case rel => exact ⟨t + 1, by omega, by go_num, B3w.out, NXT.out⟩
        case measure => simp [intOf]; omega
    · obtain rfl : t = L := by omega
      have k1 : ¬ (t : Int) < (t : Int) := by omega
      have HPE : Hid (P = -1) := by
        rw [Hid, HP.out]
        exact wrongP_miss (fun j hj => HNO.out j hj (by rw [HL.out]; exact hj))
      clear HNO hB
      go_wp2
      go_ret
      exact ⟨by rw [HPE.out]; rfl, BH.out⟩

theorem mcontains_any (R : Nat → Prop) (ao : Option Addr) (c : Nat) (l : List Smp) (hl : l.length ≤ 1000) (w : World) (h : SmsAt R w (.slice ao l.length c) l) :
    Calls Tryz.prog 121 #[.slice ao l.length c, wrongF] w fun e w' => e = .returned (.bool (!allR l)) ∧ Below w.heap.size w w' := by
  have A := Hid.intro (mindex_any R ao c l hl w h)
  rw [← wrongP_all]
  obtain ⟨P, hP⟩ : ∃ P, P = wrongP l := ⟨_, rfl⟩
  rw [← hP] at A ⊢
  clear hP h
  generalize l.length = L at *
  go_enter Tryz.func121, Tryz.ntmps121
  go_wp2_with fail
  refine A.out.mono ?_
  rintro e w1 ⟨rfl, B1⟩
  clear A
  go_wp2
  go_ret
  exact ⟨rfl, B1⟩

end Go.Proofs.YthhggjakenalpaaGreatDoor

/- Package record: putSample: a sample's fields, by a pen's method value. -/
namespace Go.Proofs.YthhggjakenalpaaGreatDoor
set_option maxRecDepth 100000
open Go.RowKit
open Bt

/-- A pen's Put, as a value. -/
abbrev putV (pb : Nat) : Value := .func (.func 114) #[.pointer (some ⟨pb, 0, none⟩)] #[]

/-- A sample's fields, by the place. -/
def mAt (k t v : Int) (i : Nat) : Int := [k, t, v, 0].getD i 0

/-- The bits that were put. -/
def mB (k t v : Int) : Nat → List Nat
  | 0 => []
  | i + 1 => mB k t v i ++ putB (mAt k t v i) (wR i)

theorem mB_length (k t v : Int) (i : Nat) : (mB k t v i).length ≤ 32 * i := by
  induction i with
  | zero => simp [mB]
  | succ i ih => rw [mB, List.length_append]; have := putB_length (mAt k t v i) (wR i); omega

theorem ma_index (k t v : Int) (i : Nat) (hi : i < 4) (w : World) :
    (Instr.index 148 (.agg #[.int .i64 k, .int .i64 t, .int .i64 v, .int .i64 0]) (.int .i64 (i : Int))).run Tryz.prog w = .ok (.int .i64 (mAt k t v i)) w := by
  have i0 : (Instr.index 148 (.agg #[.int .i64 k, .int .i64 t, .int .i64 v, .int .i64 0]) (.int .i64 0)).run Tryz.prog w = .ok (.int .i64 k) w := by kernel_rfl
  have i1 : (Instr.index 148 (.agg #[.int .i64 k, .int .i64 t, .int .i64 v, .int .i64 0]) (.int .i64 1)).run Tryz.prog w = .ok (.int .i64 t) w := by kernel_rfl
  have i2 : (Instr.index 148 (.agg #[.int .i64 k, .int .i64 t, .int .i64 v, .int .i64 0]) (.int .i64 2)).run Tryz.prog w = .ok (.int .i64 v) w := by kernel_rfl
  have i3 : (Instr.index 148 (.agg #[.int .i64 k, .int .i64 t, .int .i64 v, .int .i64 0]) (.int .i64 3)).run Tryz.prog w = .ok (.int .i64 0) w := by kernel_rfl
  match i, hi with
  | 0, _ => exact i0
  | 1, _ => exact i1
  | 2, _ => exact i2
  | 3, _ => exact i3

theorem isF_iffM (n : Int) (m : Nat) (h1 : 1 ≤ m) (h2 : m ≤ 32) : isF n m = true ↔ 0 ≤ n ∧ n < 2 ^ m := by
  simp only [isF, isW, Bool.and_eq_true, decide_eq_true_eq, Int.toNat_natCast]
  omega

theorem putB_fldM {n : Int} {m : Nat} (h : isF n m = true) : putB n m = fld m n.toNat := by simp [putB, h]

/-- A right sample's fields, all of them. -/
theorem mB_all {s : Smp} (h : rightM s = true) : mB s.kind s.tick s.value 4 = unpack (smB s) := by
  rw [← sample_bits h]
  obtain ⟨h1, h2, h3, _⟩ := rightM_true h
  have p0 : putB (mAt s.kind s.tick s.value 0) (wR 0) = fld 3 s.kind.toNat := putB_fldM ((isF_iffM _ 3 (by decide) (by decide)).2 (by simp only [mAt, List.getD_cons_zero]; omega))
  have p1 : putB (mAt s.kind s.tick s.value 1) (wR 1) = fld 8 s.tick.toNat := putB_fldM ((isF_iffM _ 8 (by decide) (by decide)).2 (by simp only [mAt, List.getD_cons_zero, List.getD_cons_succ]; omega))
  have p2 : putB (mAt s.kind s.tick s.value 2) (wR 2) = fld 10 s.value.toNat := putB_fldM ((isF_iffM _ 10 (by decide) (by decide)).2 (by simp only [mAt, List.getD_cons_zero, List.getD_cons_succ]; omega))
  have p3 : putB (mAt s.kind s.tick s.value 3) (wR 3) = fld 3 0 := putB_fldM ((isF_iffM _ 3 (by decide) (by decide)).2 (by simp only [mAt, List.getD_cons_zero, List.getD_cons_succ]; omega))
  simp only [mB, p0, p1, p2, p3, List.nil_append, List.append_assoc]

set_option maxRecDepth 100000 in
set_option maxHeartbeats 1000000 in
theorem putSample_in (k t v : Int) (pb : Nat) (u : Value) (l : List Nat) (hl : l.length < 2 ^ 38) (W0 w : World) (hw : WidR W0) (hb : Below W0.heap.size W0 w) (hp : PenAt w pb u l) (ho : Own W0.heap.size pb u) :
    Calls Tryz.prog 123 #[putV pb, .agg #[.int .i64 k, .int .i64 t, .int .i64 v]] w fun e w' => e = .returned (.tuple #[]) ∧ (∃ u', PenAt w' pb u' (l ++ mB k t v 4) ∧ Own W0.heap.size pb u') ∧ Below W0.heap.size W0 w' := by
  have HW := Hid.intro hw
  have FI := Hid.intro (fun (i : Nat) (hi : i < 4) => ma_index k t v i hi)
  have P1 := Hid.intro (fun o => hp.kept (S := fun _ => False) ((Chg.refl _ w).alloc o) (fun _ _ h => h))
  have B1 := Hid.intro (fun o => hb.alloc hb.size o)
  have HO := Hid.intro ho
  clear hw hp hb ho
  go_enter Tryz.func123, Tryz.ntmps123
  go_wp2_with fail
  go_loopw [13] (fun i wr => ∃ j : Nat, j ≤ 4 ∧ i = .int .i64 j ∧ (∃ u', PenAt wr pb u' (l ++ mB k t v j) ∧ Own W0.heap.size pb u') ∧ Below W0.heap.size W0 wr) (fun i _ => 4 - (intOf i).toNat)
  case atStart => exact ⟨0, by omega, rfl, ⟨_, by rw [mB, List.append_nil]; exact P1.out _, HO.out⟩, B1.out _⟩
  case round =>
    obtain ⟨j, hj, rfl, ⟨u', hp, ho⟩, hb⟩ := hrel
    have HP := Hid.intro hp
    have HO' := Hid.intro ho
    have HB := Hid.intro hb
    clear hp ho hb HO P1 B1
    by_cases hlt : j < 4
    · have i0 : (0 : Int) ≤ (j : Int) := by omega
      have i1 : (j : Int) < 4 := by omega
      have fi := FI.out j hlt
      have c := (HW.out.below HB.out).cell j hlt
      obtain ⟨N, hN⟩ : ∃ N, N = mAt k t v j := ⟨_, rfl⟩
      obtain ⟨M, hM⟩ : ∃ M, M = wR j := ⟨_, rfl⟩
      rw [← hN] at fi
      rw [← hM] at c
      have STP : Hid (l ++ mB k t v j ++ putB N M = l ++ mB k t v (j + 1)) := by rw [Hid, mB, ← hN, ← hM, List.append_assoc]
      have hlen : (l ++ mB k t v j).length < 2 ^ 39 := by
        rw [List.length_append]
        have := mB_length k t v j
        omega
      have HC := Hid.intro (put_any pb N M u' _ hlen wr HP.out)
      clear hlen hN hM
      go_wp2_with fail
      refine HC.out.mono ?_
      rintro e w1 ⟨rfl, v1, P1, C1, K1⟩
      have O1 := HO'.out.next HB.out.size K1
      have B1 := HB.out.trans ((HO'.out.chg C1).below HB.out.size fun _ h => h)
      rw [STP.out] at P1
      have P1H := Hid.intro P1
      have O1H := Hid.intro O1
      have B1H := Hid.intro B1
      clear P1 O1 B1 C1 K1 HC HP HO' HB fi c STP
      go_wp2
      go_roundw
      case rel => exact ⟨j + 1, by omega, by go_num, ⟨_, P1H.out, O1H.out⟩, B1H.out⟩
      case measure => simp [intOf]; omega
    · obtain rfl : j = 4 := by omega
      go_wp2
      go_end0
      exact ⟨rfl, ⟨_, HP.out, HO'.out⟩, HB.out⟩

end Go.Proofs.YthhggjakenalpaaGreatDoor

/- Package rs: Pad. -/
namespace Go.Proofs.YthhggjakenalpaaGreatDoor
set_option maxRecDepth 100000
open Go.RowKit
open Bt

set_option maxRecDepth 100000 in
set_option maxHeartbeats 1000000 in
theorem rpad_any (k n s : Int) (ao : Option Addr) (cap : Nat) (bs : List Nat) (_ : Byt bs) (_ : bs.length ≤ 300) (w : World) (hr : Reads w ao bs) (_ : ao = none → cap = 0) :
    Calls Tryz.prog 124 #[Cd k n s, .slice ao bs.length cap] w fun e w' => ∃ v, e = .returned v ∧ Rd w.heap.size w' v (padB k n s bs) ∧ Below w.heap.size w w' := by
  obtain ⟨i8, hi8, hz80, hz81, hz82⟩ := info_parts info_u8
  have hsz : (Tryz.prog.info? 5).map (·.size) = some 1 := by rw [hi8]; simp [hz81]
  have HR := Hid.intro hr
  clear hr
  have HM := Hid.intro (fun w => rmay_any k n s w)
  have b0 := heap_alloc_new w (.cells #[.int .i64 k, .int .i64 n, .int .i64 s] 23)
  rcases hmay : mayC k n s with _ | _
  · have e : padB k n s bs = [] := by unfold padB; rw [if_neg (by rw [hmay]; simp)]
    rw [e]
    rw [hmay] at HM
    clear e b0
    go_enter Tryz.func124, Tryz.ntmps124
    go_wp2_with fail
    refine (HM.out _).mono ?_
    rintro e1 w1 ⟨rfl, B1⟩
    go_wp2
    go_ret
    exact ⟨_, rfl, rd_nil _ _, ((Below.refl _ _).alloc (Nat.le_refl _) _).trans ((below_chg B1).below (by simp) (fun _ f => f.elim))⟩
  · obtain ⟨h1, h2, h3, h4, h5, h6⟩ := mayC_true hmay
    obtain ⟨K, rfl⟩ := Int.eq_ofNat_of_zero_le (show 0 ≤ k by omega)
    obtain ⟨N, rfl⟩ := Int.eq_ofNat_of_zero_le (show 0 ≤ n by omega)
    obtain ⟨S, rfl⟩ := Int.eq_ofNat_of_zero_le (show 0 ≤ s by omega)
    have hKS := may_prod hmay
    have hks : (K : Int) * (S : Int) = ((K * S : Nat) : Int) := by simp
    rw [hmay] at HM
    obtain ⟨L, hL⟩ : ∃ L, L = K * S := ⟨_, rfl⟩
    rw [← hL] at hks hKS
    have HT := Hid.intro (fun w => textBytes_any K S N L hL (by omega) w)
    have E : Hid (padB K N S bs = if bs.length ≤ L then bs ++ List.replicate (L - bs.length) 0 else []) := by
      show _ = _
      unfold padB
      by_cases hle : bs.length ≤ L
      · rw [if_pos ⟨hmay, by omega⟩, if_pos hle, hks, Int.toNat_natCast]
      · rw [if_neg (by rw [hks]; omega), if_neg hle]
    generalize padB K N S bs = P at E ⊢
    clear hL hks hmay
    go_enter Tryz.func124, Tryz.ntmps124
    go_wp2_with fail
    refine (HM.out _).mono ?_
    rintro e1 w1 ⟨rfl, B1⟩
    have b1 : w1.heap[w.heap.size]? = some (.cells #[.int .i64 (K : Int), .int .i64 (N : Int), .int .i64 (S : Int)] 23 (0, 0)) := by
      rw [B1.block _ (by simp)]; exact b0
    have B1w : Below w.heap.size w w1 := ((Below.refl _ _).alloc (Nat.le_refl _) _).trans ((below_chg B1).below (by simp) (fun _ f => f.elim))
    have c0 : w1.cell? ⟨w.heap.size, 0, none⟩ = some (.int .i64 (K : Int)) := by rw [cell_of_row w1 _ 0 _ _ _ b1]; rfl
    have c1 : w1.cell? ⟨w.heap.size, 1, none⟩ = some (.int .i64 (N : Int)) := by rw [cell_of_row w1 _ 1 _ _ _ b1]; rfl
    have c2 : w1.cell? ⟨w.heap.size, 2, none⟩ = some (.int .i64 (S : Int)) := by rw [cell_of_row w1 _ 2 _ _ _ b1]; rfl
    have BH := Hid.intro B1w
    have CH := Hid.intro b1
    clear b0 B1 b1 B1w HM
    go_wp2_with fail
    refine (HT.out _).mono ?_
    rintro e1 w2 ⟨rfl, B2⟩
    have b2 := (B2.block _ (lt_of_heap CH.out)).trans CH.out
    have B2w := BH.out.trans (B2.mono BH.out.size)
    by_cases hle : bs.length ≤ L
    · have e : P = bs ++ List.replicate (L - bs.length) 0 := by rw [E.out, if_pos hle]
      subst e
      clear E c0 c1 c2
      have c0 : w2.cell? ⟨w.heap.size, 0, none⟩ = some (.int .i64 (K : Int)) := by rw [cell_of_row w2 _ 0 _ _ _ b2]; rfl
      have c1 : w2.cell? ⟨w.heap.size, 1, none⟩ = some (.int .i64 (N : Int)) := by rw [cell_of_row w2 _ 1 _ _ _ b2]; rfl
      have c2 : w2.cell? ⟨w.heap.size, 2, none⟩ = some (.int .i64 (S : Int)) := by rw [cell_of_row w2 _ 2 _ _ _ b2]; rfl
      have l0 : ¬ (L : Int) < (bs.length : Int) := by omega
      have l1 : ¬ L < bs.length := by omega
      have B2H := Hid.intro B2w
      clear B2 b2 BH CH B2w
      go_wp2_with fail
      refine (HT.out _).mono ?_
      rintro e1 w3 ⟨rfl, B3⟩
      have B3H := Hid.intro (B2H.out.trans (B3.mono B2H.out.size))
      clear B2H B3 c0 c1 c2 HT
      go_wp2_with (at_make; refine wpList_make_full _ rfl _ _ 42 rfl 0 5 i8 (.int .u8 0) 1 Tryz.underlying42 hi8 hz80 hz81 _ _ _ _ L rfl rfl (by omega) (by omega) (by rw [hz82]; omega) (by unfold maxLen; omega) (Nat.zero_le _) ?_)
      intro w4 hown hgrow
      have hB : Below w.heap.size w w4 := B3H.out.grown hgrow B3H.out.size (fun k hk => by cases hk)
      have hcur : w4.heap[w3.heap.size]? = some (.cells (List.replicate L (U 0)).toArray 5 (0, 0)) := by
        rcases hown.2 with ⟨h', _⟩ | ⟨g', cap', cur, h', _, hg, _, _, hcs, hq⟩
        · simp at h'
        · simp only [Value.slice.injEq, Option.some.injEq, Addr.mk.injEq, and_true, true_and] at h'
          obtain ⟨rfl, rfl⟩ := h'
          rw [hg]
          rw [toList_madeCells_one] at hq
          have h2 : cur.toList.length = L := by simpa using hcs
          have h3 : cur.toList = List.replicate L (U 0) := (List.take_of_length_le (by omega)).symm.trans hq
          rw [← h3]
      have hR4 := HR.out.below hB
      have H1 := Hid.intro hcur
      have H2 := Hid.intro hR4
      have H3 := Hid.intro hB
      have NB := Hid.intro B3H.out.size
      clear hown hgrow hcur hR4 hB
      go_wp2_with (refine wpList_copy_splice rfl _ _ 42 42 rfl 5 Tryz.underlying42 hsz (some ⟨w3.heap.size, 0, none⟩) ao L L bs.length cap rfl rfl w3.heap.size 0 (List.replicate L (U 0)) 5 H1.out (bs.map U) (by rw [List.length_map]; exact (Nat.min_eq_left hle).symm) ?_ (by simp; exact hle) ?_ w.heap.size w H3.out NB.out ?_)
      · intro h0
        obtain ⟨ad, ha, hj⟩ := H2.out (by simpa using h0)
        exact ⟨ad, ha, fun j a hja => hj j (U a) (by rw [List.getElem?_map, hja]; rfl)⟩
      · intro u hu
        obtain ⟨b, _, rfl⟩ := List.mem_map.1 hu
        rfl
      · intro w5 hg5 hB5
        go_wp2
        go_ret
        have e : splice (List.replicate L (U 0)) 0 (bs.map U) = (bs ++ List.replicate (L - bs.length) 0).map U := by
          simp [splice]
        have hl2 : (bs ++ List.replicate (L - bs.length) 0).length = L := by simp; omega
        have hg := hg5.out
        rw [e] at hg
        refine ⟨_, rfl, ⟨some ⟨w3.heap.size, 0, none⟩, L, by rw [hl2]; rfl, fun _ => ⟨_, rfl, World.news_of_block (cs := ((bs ++ List.replicate (L - bs.length) 0).map U).toArray) hg⟩, ⟨(fun h => by cases h), by rw [hl2]; exact Nat.le_refl _⟩, (fun ad h => by cases h; exact NB.out)⟩, hB5⟩
    · have e : P = [] := by rw [E.out, if_neg hle]
      subst e
      have l0 : (L : Int) < (bs.length : Int) := by omega
      have l1 : L < bs.length := by omega
      clear B2 b2
      go_wp2
      go_ret
      exact ⟨_, rfl, rd_nil _ _, B2w⟩

end Go.Proofs.YthhggjakenalpaaGreatDoor

/- Package record: Pack. -/
namespace Go.Proofs.YthhggjakenalpaaGreatDoor
set_option maxRecDepth 100000
open Go.RowKit
open Bt

theorem undrewP {w w' : World} (h : Below w.drew.heap.size w.drew w') : Below w.heap.size w w' := ⟨h.os, h.tape, h.output, h.size, h.block⟩

theorem Rd.mono {B C : Nat} {w : World} {v : Value} {bs : List Nat} (h : Rd B w v bs) (hC : C ≤ B) : Rd C w v bs := by
  obtain ⟨ao, cap, e, h1, h2, h3⟩ := h
  exact ⟨ao, cap, e, h1, h2, fun ad q => Nat.le_trans hC (h3 ad q)⟩

/-- What Pack leaves. -/
def PkM (w : World) (F : List Nat) (pe : Int) (e : Ending) (w' : World) : Prop := ∃ a c, e = .returned (.tuple #[.slice a F.length c, .int .i64 pe]) ∧ Reads w' a F ∧ Room a c F.length ∧ (∀ ad, a = some ad → w.heap.size ≤ ad.block) ∧ Below w.heap.size w w'

theorem pkm_none {w w' : World} {pe : Int} {e : Ending} (he : e = .returned (.tuple #[.slice none 0 0, .int .i64 pe])) (hb : Below w.heap.size w w') : PkM w [] pe e w' := ⟨none, 0, he, (fun h => by simp at h), ⟨fun _ => rfl, Nat.le_refl _⟩, (fun ad h => by cases h), hb⟩

theorem packE_one {k n s : Int} {l : List Smp} (h : ¬ (mayC k n s = true ∧ allR l = true)) : packE k n s l = 1 ∧ packT k n s l = [] := by
  have e : packE k n s l = 1 := by unfold packE; rw [if_neg h]
  exact ⟨e, by unfold packT; rw [e]; rfl⟩

theorem packE_four {k n s : Int} {l : List Smp} (h1 : mayC k n s = true) (h2 : allR l = true) (h3 : ¬ 1 + 3 * (l.length : Int) ≤ k * s) : packE k n s l = 4 ∧ packT k n s l = [] := by
  have e : packE k n s l = 4 := by unfold packE; rw [if_pos ⟨h1, h2⟩, if_neg h3]
  exact ⟨e, by unfold packT; rw [e]; rfl⟩

theorem packE_yes {k n s : Int} {l : List Smp} (h1 : mayC k n s = true) (h2 : allR l = true) (h3 : 1 + 3 * (l.length : Int) ≤ k * s) : packE k n s l = 0 ∧ packT k n s l = padB k n s (textM l) := by
  have e := packE_ok h1 h2 h3
  exact ⟨e, by unfold packT; rw [if_pos e]⟩

theorem mB_fld {s : Smp} (h : rightM s = true) : mB s.kind s.tick s.value 4 = fld 3 s.kind.toNat ++ (fld 8 s.tick.toNat ++ (fld 10 s.value.toNat ++ fld 3 0)) := (mB_all h).trans (sample_bits h).symm

theorem bitsM_length (l : List Smp) (i : Nat) : (bitsM l i).length ≤ 8 + 24 * l.length := by
  unfold bitsM
  rw [List.length_append, fld_length]
  have h : ∀ m : List Smp, (m.flatMap (fun s => fld 3 s.kind.toNat ++ (fld 8 s.tick.toNat ++ (fld 10 s.value.toNat ++ fld 3 0)))).length = 24 * m.length := by
    intro m
    induction m with
    | nil => rfl
    | cons s m ih => rw [List.flatMap_cons, List.length_append, ih, List.length_cons]; simp only [List.length_append, fld_length]; omega
  rw [h]
  have : (l.take i).length ≤ l.length := List.length_take_le' _ _
  omega

theorem textM_byt {l : List Smp} (hl : l.length < 256) : Byt (textM l) := by
  intro b hb
  unfold textM at hb
  rcases List.mem_cons.1 hb with q | q
  · omega
  · obtain ⟨s, _, r⟩ := List.mem_flatMap.1 q
    exact numB_byte _ _ b r

set_option maxRecDepth 100000 in
set_option maxHeartbeats 2000000 in
theorem cpack_in (k n s : Int) (R : Nat → Prop) (ao : Option Addr) (cap : Nat) (l : List Smp) (hl : l.length ≤ 80) (w : World) (hw : WidR w) (h : SmsAt R w (.slice ao l.length cap) l) :
    Calls Tryz.prog 83 #[Cd k n s, .slice ao l.length cap] w (PkM w (packT k n s l) (packE k n s l)) := by
  obtain ⟨A, hA⟩ : ∃ A, A = w.alloc (.cells #[.int .i64 k, .int .i64 n, .int .i64 s] 23) := ⟨_, rfl⟩
  have BA : Below w.heap.size w A := by rw [hA]; exact (Below.refl _ w).alloc (Nat.le_refl _) _
  have nA : A.heap[w.heap.size]? = some (.cells #[.int .i64 k, .int .i64 n, .int .i64 s] 23 (0, 0)) := by rw [hA]; exact heap_alloc_new w _
  have h' := h.below BA
  have HM := Hid.intro (rmay_any k n s A)
  have HF := Hid.intro (fun W => cfits_any k n s W)
  have HC := Hid.intro (fun (W : World) (hB : Below A.heap.size A W) => mcontains_any R ao cap l (by omega) W (h'.below hB))
  have HP := Hid.intro (fun (W : World) (ao : Option Addr) (c : Nat) (hr : Reads W ao (textM l)) (hc : ao = none → c = 0) => rpad_any k n s ao c (textM l) (textM_byt (by omega)) (by rw [textM_length]; omega) W hr hc)
  have HW := Hid.intro (hw.below BA)
  have HS := Hid.intro h'
  have HBA := Hid.intro BA
  have HCC : Hid (∀ W, Below A.heap.size A W → W.cell? ⟨w.heap.size, 0, none⟩ = some (.int .i64 k) ∧ W.cell? ⟨w.heap.size, 1, none⟩ = some (.int .i64 n) ∧ W.cell? ⟨w.heap.size, 2, none⟩ = some (.int .i64 s)) := fun W hB => by
    have q := (hB.block _ (lt_of_heap nA)).trans nA
    exact ⟨by rw [cell_of_row _ _ 0 _ _ _ q]; rfl, by rw [cell_of_row _ _ 1 _ _ _ q]; rfl, by rw [cell_of_row _ _ 2 _ _ _ q]; rfl⟩
  rw [hA] at HM
  have HA := Hid.intro hA
  have E1 := Hid.intro (packE_one (k := k) (n := n) (s := s) (l := l))
  have E4 := Hid.intro (packE_four (k := k) (n := n) (s := s) (l := l))
  have E0 := Hid.intro (packE_yes (k := k) (n := n) (s := s) (l := l))
  obtain ⟨pe, hpe⟩ : ∃ pe, pe = packE k n s l := ⟨_, rfl⟩
  obtain ⟨F, hF⟩ : ∃ F, F = packT k n s l := ⟨_, rfl⟩
  rw [← hpe, ← hF] at E1 E4 E0 ⊢
  obtain ⟨L, hL⟩ : ∃ L, L = l.length := ⟨_, rfl⟩
  have HL := Hid.intro hL
  rw [← hL] at hl HC E4 E0 ⊢
  clear hpe hF hL hw h h' hA BA nA
  cases hmy : mayC k n s with
  | false =>
    obtain ⟨e1, e2⟩ := E1.out (fun q => by rw [hmy] at q; cases q.1)
    subst e1 e2
    rw [hmy] at HM
    clear E1 E4 E0 hmy
    go_enter Tryz.func83, Tryz.ntmps83
    go_wp2_with fail
    refine HM.out.mono ?_
    rintro e w1 ⟨rfl, B1⟩
    rw [← HA.out] at B1
    have BW := HBA.out.trans (B1.mono HBA.out.size)
    clear HM HF HC HP B1
    go_wp2
    go_ret2
    exact pkm_none rfl BW
  | true =>
  rw [hmy] at HM
  cases har : allR l with
  | false =>
    obtain ⟨e1, e2⟩ := E1.out (fun q => by rw [har] at q; cases q.2)
    subst e1 e2
    rw [har] at HC
    clear E1 E4 E0 hmy har
    go_enter Tryz.func83, Tryz.ntmps83
    go_wp2_with fail
    refine HM.out.mono ?_
    rintro e w1 ⟨rfl, B1⟩
    rw [← HA.out] at B1
    have B1H := Hid.intro B1
    clear HM HF HP B1
    go_wp2_with fail
    refine (HC.out _ B1H.out).mono ?_
    rintro e w2 ⟨rfl, B2⟩
    have BW := B1H.out.trans (B2.mono B1H.out.size)
    have BWW := HBA.out.trans (BW.mono HBA.out.size)
    clear HC B2 BW
    go_wp2
    go_ret2
    exact pkm_none rfl BWW
  | true =>
  rw [har] at HC
  have hf : fitsM k n s = (k * s - 1) / 3 := by unfold fitsM; rw [if_pos hmy]
  obtain ⟨P, hP⟩ : ∃ P, P = k * s := ⟨_, rfl⟩
  have hP1 : 1 ≤ P ∧ P ≤ 144 := by
    have hm := mayC_true hmy
    have a1 : k * s ≤ 6 * s := Int.mul_le_mul_of_nonneg_right hm.2.1 (by omega)
    have a2 : 1 * s ≤ k * s := Int.mul_le_mul_of_nonneg_right hm.1 (by omega)
    omega
  rw [← hP] at E4 E0 hf
  rw [hf] at HF
  have E4' := Hid.intro (E4.out hmy har)
  have E0' := Hid.intro (E0.out hmy har)
  obtain ⟨T, hT⟩ : ∃ T, T = (P - 1) / 3 := ⟨_, rfl⟩
  rw [← hT] at HF
  have HAR := Hid.intro har
  have HT := Hid.intro hT
  clear E1 E4 E0 hmy har hP hf hT
  by_cases hfit : (L : Int) ≤ T
  case neg =>
    obtain ⟨e1, e2⟩ := E4'.out (by have := HT.out; omega)
    subst e1 e2
    have z1 : T < (L : Int) := by omega
    clear E4' E0' HT hP1 hfit
    go_enter Tryz.func83, Tryz.ntmps83
    go_wp2_with fail
    refine HM.out.mono ?_
    rintro e w1 ⟨rfl, B1⟩
    rw [← HA.out] at B1
    have B1H := Hid.intro B1
    clear HM HP B1
    go_wp2_with fail
    refine (HC.out _ B1H.out).mono ?_
    rintro e w2 ⟨rfl, B2⟩
    have B2H := Hid.intro (B1H.out.trans (B2.mono B1H.out.size))
    obtain ⟨c0, c1, c2⟩ := HCC.out w2 B2H.out
    clear HC B2 B1H
    go_wp2_with fail
    refine (HF.out _).mono ?_
    rintro e w3 ⟨rfl, B3⟩
    have BW := B2H.out.trans (B3.mono B2H.out.size)
    have BWW := HBA.out.trans (BW.mono HBA.out.size)
    clear HF B3 B2H BW
    go_wp2
    go_ret2
    exact pkm_none rfl BWW
  case pos =>
  obtain ⟨e1, e2⟩ := E0'.out (by have := HT.out; omega)
  subst e1
  have HE := Hid.intro e2
  have z1 : ¬ T < (L : Int) := by omega
  have BP : Hid (pack (bitsM l L) = textM l) := by rw [Hid, HL.out]; exact bitsM_pack HAR.out (by rw [← HL.out]; omega)
  have BS := Hid.intro (fun (i : Nat) (hi : i < l.length) => (bitsM_step l hi).trans (congrArg (bitsM l i ++ ·) (mB_fld (List.all_eq_true.1 HAR.out _ (List.getElem_mem hi))).symm))
  have BL := Hid.intro (bitsM_length l)
  have BZ : Hid (putB (L : Int) ((8 : Nat) : Int) = bitsM l 0) := by
    have h8 : isF (L : Int) ((8 : Nat) : Int) = true := (isF_iffM _ 8 (by decide) (by decide)).2 (by omega)
    rw [Hid, putB_fldM h8, HL.out]
    unfold bitsM
    simp
  rw [← HL.out] at BL
  clear E4' E0' HT hP1 e2 hfit
  go_enter Tryz.func83, Tryz.ntmps83
  go_wp2_with fail
  refine HM.out.mono ?_
  rintro e w1 ⟨rfl, B1⟩
  rw [← HA.out] at B1
  have B1H := Hid.intro B1
  clear HM B1
  go_wp2_with fail
  refine (HC.out _ B1H.out).mono ?_
  rintro e w2 ⟨rfl, B2⟩
  have B2H := Hid.intro (B1H.out.trans (B2.mono B1H.out.size))
  obtain ⟨c0, c1, c2⟩ := HCC.out w2 B2H.out
  clear HC B2 B1H
  go_wp2_with fail
  refine (HF.out _).mono ?_
  rintro e w3 ⟨rfl, B3⟩
  have B3H := Hid.intro (B2H.out.trans (B3.mono B2H.out.size))
  have PX := pen_new w3
  have BX := B3H.out.alloc B3H.out.size (.cells #[.slice none 0 0, .int .i64 0] 150)
  have OX := own_new A.heap.size w3.heap.size B3H.out.size
  clear HF B3 B2H c0 c1 c2
  have hmf : ∀ (fn : Fn) (first cap : Array Value) (w : World), (Instr.makeFunc fn first cap).run Tryz.prog w = .ok (.func fn first cap) w := fun _ _ _ _ => rfl
  generalize hX : w3.alloc (.cells #[.slice none 0 0, .int .i64 0] 150) = X at PX BX
  generalize hpb : w3.heap.size = pb at PX OX
  have PUT := Hid.intro (put_any pb (L : Int) ((8 : Nat) : Int) (.slice none 0 0) [] (by decide) X PX)
  have BXH := Hid.intro BX
  have OXH := Hid.intro OX
  have hXH := Hid.intro hX
  have hpbH := Hid.intro hpb
  clear PX BX OX B3H hX hpb
  go_wp2_with fail
  rw [hXH.out, hpbH.out]
  clear hXH hpbH
  refine PUT.out.mono ?_
  rintro e w4 ⟨rfl, v1, P1, C1, K1⟩
  have O1 := OXH.out.next BXH.out.size K1
  have D1 := BXH.out.trans ((OXH.out.chg C1).below BXH.out.size fun _ h => h)
  rw [List.nil_append, BZ.out] at P1
  have P1H := Hid.intro P1
  have O1H := Hid.intro O1
  have D1H := Hid.intro D1
  clear PUT C1 K1 P1 O1 D1 BXH OXH BZ
  go_wp2_with fail
  go_loopw [29] (fun i wr => ∃ j : Nat, j ≤ L ∧ i = .int .i64 j ∧ (∃ u, PenAt wr pb u (bitsM l j) ∧ Own A.heap.size pb u) ∧ Below A.heap.size A wr) (fun i _ => L - (intOf i).toNat)
  case atStart => exact ⟨0, by omega, rfl, ⟨_, P1H.out, O1H.out⟩, D1H.out⟩
  case round =>
    obtain ⟨j, hj, rfl, ⟨u, hp, ho⟩, hb⟩ := hrel
    have HPN := Hid.intro hp
    have HO := Hid.intro ho
    have HB := Hid.intro hb
    clear hp ho hb P1H O1H D1H
    by_cases hlt : j < L
    · have i0 : (0 : Int) ≤ (j : Int) := by omega
      have i1 : (j : Int) < (L : Int) := by omega
      have hj1 : j < l.length := by rw [← HL.out]; exact hlt
      obtain ⟨ao', cap', ea, hcs⟩ := HS.out.below HB.out
      simp only [Value.slice.injEq] at ea
      obtain ⟨rfl, _, rfl⟩ := ea
      obtain ⟨sb, so, rfl, _, hcc⟩ := hcs (by omega)
      obtain ⟨x0, x1, x2⟩ := hcc j hj1
      have STP := BS.out j hj1
      have hlen := BL.out j
      have PS := Hid.intro (putSample_in l[j].kind l[j].tick l[j].value pb u (bitsM l j) (by omega) A (wr.alloc (.cells #[.int .i64 l[j].kind, .int .i64 l[j].tick, .int .i64 l[j].value] 35)) HW.out (HB.out.alloc HB.out.size _) (HPN.out.kept (S := fun _ => False) ((Chg.refl _ wr).alloc _) (fun _ _ h => h)) HO.out)
      rw [← STP] at PS
      generalize l[j].kind = a0 at x0 PS
      generalize l[j].tick = a1 at x1 PS
      generalize l[j].value = a2 at x2 PS
      clear STP hcc hcs hj1
      go_wp2_with fail
      refine PS.out.mono ?_
      rintro e w5 ⟨rfl, ⟨u5, P5, O5⟩, B5⟩
      have P5H := Hid.intro P5
      have O5H := Hid.intro O5
      have B5H := Hid.intro B5
      clear PS P5 O5 B5 x0 x1 x2 HPN HO HB
      go_wp2
      go_roundw
      case rel => exact ⟨j + 1, by omega, by go_num, ⟨_, P5H.out, O5H.out⟩, B5H.out⟩
      case measure => simp [intOf]; omega
    · obtain rfl : j = L := by omega
      have i1 : ¬ (j : Int) < (j : Int) := by omega
      have hlen := BL.out j
      have BY := Hid.intro (bytes_any pb u (bitsM l j) (by omega) wr.drew (HPN.out.kept (S := fun _ => False) ((Chg.refl _ wr).drew) (fun _ _ h => h)))
      rw [BP.out] at BY
      have hTL : (textM l).length = 1 + 3 * j := by rw [textM_length, ← HL.out]
      rw [hTL] at BY HP
      rw [← HE.out] at HP
      obtain ⟨c0, c1, c2⟩ := HCC.out wr HB.out
      clear hlen hTL BL
      go_wp2_with fail
      go_region_held3 (fun w' => w'.cell? ⟨w.heap.size, 0, none⟩ = some (.int .i64 k) ∧ w'.cell? ⟨w.heap.size, 1, none⟩ = some (.int .i64 n) ∧ w'.cell? ⟨w.heap.size, 2, none⟩ = some (.int .i64 s))
        (first | exact HCC.out _ E7 | exact HCC.out _ E6 | go_keep)
        (first
          | (go_at_call 116; refine BY.out.mono ?_; rintro e w6 ⟨g, rfl, hg, hrow, C6⟩; have E6 : Below A.heap.size A w6 := HB.out.trans ((undrewP (C6.below (Nat.le_refl _) (fun _ h => h.elim))).mono HB.out.size); have R6 := hrow.reads; clear hrow C6 hg)
          | (go_at_call 124; refine (HP.out _ (some ⟨g, 0, none⟩) (1 + 3 * j) R6 (fun h => by cases h)).mono ?_; rintro e w7 ⟨v7, rfl, D7, B7⟩; have E7 := E6.trans (B7.mono E6.size); have F7 := D7.mono E6.size; clear D7 B7))
      all_goals
        have E7H := Hid.intro (HBA.out.trans (E7.mono HBA.out.size))
        obtain ⟨a7, c7, rfl, r7, m7, n7⟩ := F7
        have R7 := Hid.intro r7
        have M7 := Hid.intro m7
        have N7 := Hid.intro n7
        clear E6 E7 R6 r7 m7 n7 HP BY
        go_wp2
        go_ret2
        exact ⟨a7, c7, rfl, R7.out, M7.out, fun ad h => Nat.le_trans HBA.out.size (N7.out ad h), E7H.out⟩

theorem cpack_any (k n s : Int) (R : Nat → Prop) (ao : Option Addr) (cap : Nat) (l : List Smp) (hl : l.length ≤ 80) (w : World) (hw : WidR w) (h : SmsAt R w (.slice ao l.length cap) l) :
    Calls Tryz.prog 83 #[Cd k n s, .slice ao l.length cap] w fun e w' => ∃ a c, e = .returned (.tuple #[.slice a (packT k n s l).length c, .int .i64 (packE k n s l)]) ∧ Reads w' a (packT k n s l) ∧ Room a c (packT k n s l).length ∧ (∀ ad, a = some ad → w.heap.size ≤ ad.block) ∧ Below w.heap.size w w' := cpack_in k n s R ao cap l hl w hw h

end Go.Proofs.YthhggjakenalpaaGreatDoor
