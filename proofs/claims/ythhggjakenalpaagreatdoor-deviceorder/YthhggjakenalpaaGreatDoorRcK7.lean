/- Package record: onlyZeros, Parse. -/
import Derived.Test.YthhggjakenalpaaGreatDoorRcK6
import Derived.Deep.AppendLies
namespace Go.Proofs.YthhggjakenalpaaGreatDoor
set_option maxRecDepth 100000
open Go.RowKit
open Bt

/-- Are all bytes from the i-th on 0? -/
def zerosF (bs : List Nat) (i : Nat) : Bool := decide (∀ j, j < bs.length → i ≤ j → bs.getD j 0 = 0)

theorem num8 {bs : List Nat} (hY : ∀ b ∈ bs, b < 256) {i : Nat} (hi : i < bs.length) : num (((unpack bs).drop (8 * i)).take 8) = bs.getD i 0 := by
  have e : bs = bs.take i ++ (bs[i] :: bs.drop (i + 1)) := by rw [List.getElem_cons_drop, List.take_append_drop]
  have l1 : (unpack (bs.take i)).length = 8 * i := by rw [unpack_length, List.length_take]; omega
  have s1 : (unpack bs).drop (8 * i) = fld 8 bs[i] ++ unpack (bs.drop (i + 1)) := by
    conv => lhs; rw [e]
    rw [unpack_append, ← l1, List.drop_left, unpack_cons]
  have t : (fld 8 bs[i] ++ unpack (bs.drop (i + 1))).take 8 = fld 8 bs[i] := by
    have h8 := fld_length 8 bs[i]
    conv => lhs; rw [← h8]
    exact List.take_left ..
  rw [s1, t, num_fld]
  have hb := hY _ (List.getElem_mem hi)
  have : bs.getD i 0 = bs[i] := by simp [hi]
  rw [this]
  omega

/-- Where an eye is, as its cell says. -/
def eyeP (eb : Nat) (w : World) : Nat := (intOf ((w.cell? ⟨eb, 1, none⟩).getD undef)).toNat

theorem EyeAt.eyeP {w : World} {eb g : Nat} {bs : List Nat} {pos : Nat} (h : EyeAt w eb g bs pos) : Go.Proofs.YthhggjakenalpaaGreatDoor.eyeP eb w = pos := by
  have c1 : w.cell? ⟨eb, 1, none⟩ = some (.int .i64 pos) := by rw [cell_of_row w eb 1 _ _ _ h.here]; rfl
  unfold Go.Proofs.YthhggjakenalpaaGreatDoor.eyeP
  rw [c1]
  simp [intOf]

set_option maxRecDepth 100000 in
set_option maxHeartbeats 1000000 in
theorem onlyZeros_any (eb g : Nat) (bs : List Nat) (i : Nat) (hi : i ≤ bs.length) (w : World) (hE : EyeAt w eb g bs (8 * i)) :
    Calls Tryz.prog 73 #[getV eb] w fun e w' => e = .returned (.bool (zerosF bs i)) ∧ Chg (fun k => k = eb) w w' := by
  obtain ⟨Z, hZ⟩ : ∃ Z, Z = zerosF bs i := ⟨_, rfl⟩
  rw [← hZ]
  have HZ := Hid.intro hZ
  have HY := Hid.intro hE.byte
  have HE := Hid.intro hE
  clear hZ hE
  go_enter Tryz.func73, Tryz.ntmps73
  go_wp2_with fail
  go_loopw [] (fun wr => ∃ j : Nat, i ≤ j ∧ j ≤ bs.length ∧ EyeAt wr eb g bs (8 * j) ∧ (∀ r, i ≤ r → r < j → bs.getD r 0 = 0) ∧ Chg (fun k => k = eb) w wr) (fun wr => 8 * bs.length - eyeP eb wr)
  case atStart => exact ⟨i, Nat.le_refl _, hi, HE.out, (fun r h1 h2 => by omega), Chg.refl _ _⟩
  case round =>
    obtain ⟨j, hj1, hj2, he, hz, hc⟩ := hrel
    have E := Hid.intro he
    have HZ2 := Hid.intro hz
    have C := Hid.intro hc
    have PW := Hid.intro he.eyeP
    clear he hz hc HE
    by_cases hlt : j < bs.length
    · have HC := Hid.intro (get_yes eb g bs (8 * j) 8 wr E.out (by decide) (by decide) (by omega))
      rw [num8 HY.out hlt] at HC
      have NXT : Hid (bs.getD j 0 = 0 → ∀ r, i ≤ r → r < j + 1 → bs.getD r 0 = 0) := fun e r h1 h2 => by
        by_cases u : r < j
        · exact HZ2.out r h1 u
        · obtain rfl : r = j := by omega
          exact e
      have BAD : Hid (bs.getD j 0 ≠ 0 → Z = false) := fun e => by
        rw [HZ.out]
        exact decide_eq_false (fun q => e (q j hlt hj1))
      generalize bs.getD j 0 = y at HC NXT BAD
      by_cases hy : y = 0
      · subst hy
        have NX := Hid.intro (NXT.out rfl)
        clear NXT BAD HZ2
        go_wp2_with fail
        refine HC.out.mono ?_
        rintro e w1 ⟨rfl, E1, C1⟩
        have E1H : Hid (EyeAt w1 eb g bs (8 * (j + 1))) := by
          have q := E1
          rw [show 8 * j + 8 = 8 * (j + 1) by omega] at q
          exact q
        have C1H := Hid.intro (C.out.trans C1 (fun _ h _ => h))
        have PW1 := Hid.intro E1H.out.eyeP
        clear HC E1 C1 E C
        go_wp2
        go_roundw
        case rel => exact ⟨j + 1, by omega, by omega, E1H.out, NX.out, C1H.out⟩
        case measure => rw [PW.out, PW1.out]; omega
      · have hzf := BAD.out hy
        subst hzf
        have y0 : ((y : Int) != 0) = true := by rw [bne_iff_ne]; omega
        have y1 : ¬ (y : Int) = 0 := by omega
        clear NXT BAD HZ HZ2 PW
        go_wp2_with fail
        refine HC.out.mono ?_
        rintro e w1 ⟨rfl, E1, C1⟩
        have C1H := Hid.intro (C.out.trans C1 (fun _ h _ => h))
        clear HC E1 C1 E C
        go_wp2
        go_ret
        exact ⟨rfl, C1H.out⟩
    · obtain rfl : j = bs.length := by omega
      have HC := Hid.intro (get_no eb g bs (8 * bs.length) 8 wr E.out (.inr (by omega)))
      have hzt : Z = true := by
        rw [HZ.out]
        exact decide_eq_true (fun r h1 h2 => HZ2.out r h2 h1)
      subst hzt
      clear HZ HZ2 PW
      go_wp2_with fail
      refine HC.out.mono ?_
      rintro e w1 ⟨rfl, nn, rfl⟩
      have C1H := Hid.intro (C.out.drewN nn)
      clear HC E C
      go_wp2
      go_ret
      exact ⟨rfl, C1H.out⟩

/-- What Parse leaves. -/
def PsM (w : World) (L : List Smp) (pe : Int) (e : Ending) (w' : World) : Prop := ∃ a c, e = .returned (.tuple #[.slice a L.length c, .int .i64 pe]) ∧ SmsAt (fun k => w.heap.size ≤ k) w' (.slice a L.length c) L ∧ L.length ≤ c ∧ (a = none → c = 0) ∧ Below w.heap.size w w'

theorem psm_none {w w' : World} {pe : Int} {e : Ending} (he : e = .returned (.tuple #[.slice none 0 0, .int .i64 pe])) (hb : Below w.heap.size w w') : PsM w [] pe e w' := ⟨none, 0, he, ⟨none, 0, rfl, fun q => by simp at q⟩, Nat.le_refl _, fun _ => rfl, hb⟩

theorem ownsRow_roomM {w : World} {e : TypeId} {sz n cap : Nat} {ao : Option Addr} {xs : List Value} (h : w.ownsRow 0 e sz (.slice ao n cap) n xs) : n ≤ cap ∧ (ao = none → cap = 0) := by
  rcases h.2 with ⟨h', _⟩ | ⟨g', cap', _, h', _, _, hn, hm, _⟩
  · simp only [Value.slice.injEq] at h'
    obtain ⟨_, rfl, rfl⟩ := h'
    exact ⟨Nat.le_refl _, fun _ => rfl⟩
  · simp only [Value.slice.injEq] at h'
    obtain ⟨rfl, _, rfl⟩ := h'
    exact ⟨hn, fun q => by cases q⟩

theorem gO_eq (bs : List Nat) (j : Nat) : gO bs (1 + 3 * j) = (decide (1 + 3 * (j + 1) ≤ bs.length) && smOk bs j) := by
  unfold gO smOk nR smAt
  congr 1

theorem gS_eq {bs : List Nat} {j : Nat} (h : gO bs (1 + 3 * j) = true) : gS bs (1 + 3 * j) = smOf (smAt bs j) := by
  unfold gO at h
  simp only [Bool.and_eq_true, decide_eq_true_eq] at h
  unfold gS
  rw [if_pos h.1]
  rfl

set_option maxRecDepth 100000 in
set_option maxHeartbeats 4000000 in
theorem cparse_in (ao : Option Addr) (cap : Nat) (bs : List Nat) (hl : bs.length ≤ 300) (hY : ∀ b ∈ bs, b < 256) (w : World) (hw : WidR w) (hr : Reads w ao bs) :
    Calls Tryz.prog 31 #[.slice ao bs.length cap] w (PsM w (parseL bs) (parseEM bs)) := by
  have NO := Hid.intro (parse_no (bs := bs))
  have YES := Hid.intro (parse_yes (bs := bs))
  have HY := Hid.intro hY
  have HW := Hid.intro hw
  obtain ⟨pe, hpe⟩ : ∃ pe, pe = parseEM bs := ⟨_, rfl⟩
  obtain ⟨T, hT⟩ : ∃ T, T = parseL bs := ⟨_, rfl⟩
  rw [← hpe, ← hT] at NO YES ⊢
  have LK := Hid.intro (look_any ao cap bs (by omega) hY w hr)
  obtain ⟨L, hL⟩ : ∃ L, L = bs.length := ⟨_, rfl⟩
  have HL := Hid.intro hL
  rw [← hL] at hl NO YES LK ⊢
  have hmf : ∀ (fn : Fn) (first cap : Array Value) (w : World), (Instr.makeFunc fn first cap).run Tryz.prog w = .ok (.func fn first cap) w := fun _ _ _ _ => rfl
  clear hpe hT hL hr hY hw
  go_enter Tryz.func31, Tryz.ntmps31
  go_wp2_with fail
  refine LK.out.mono ?_
  rintro e w1 ⟨eb, g, rfl, hg, heb, E1, C1⟩
  have E1H := Hid.intro E1
  have B1H := Hid.intro (C1.below (Nat.le_refl _) (fun _ h => h.elim))
  clear LK E1 C1
  by_cases h0 : L = 0
  · obtain ⟨e1, e2⟩ := NO.out (fun q => by omega)
    subst e1 e2
    have HC := Hid.intro (get_no eb g bs 0 8 w1 E1H.out (.inr (by rw [← HL.out, h0]; decide)))
    clear NO YES
    go_wp2_with fail
    refine HC.out.mono ?_
    rintro e w2 ⟨rfl, nn, rfl⟩
    have BW : Below w.heap.size w (w1.drewN nn) := ⟨B1H.out.os, B1H.out.tape, B1H.out.output, B1H.out.size, B1H.out.block⟩
    clear HC
    go_wp2
    go_ret2
    exact psm_none rfl BW
  have HC := get_yes eb g bs 0 8 w1 E1H.out (by decide) (by decide) (by rw [← HL.out]; omega)
  have n8 := num8 HY.out (i := 0) (by rw [← HL.out]; omega)
  rw [Nat.mul_zero] at n8
  rw [n8] at HC
  have hcn : bs.getD 0 0 = cntM bs := rfl
  have hn256 : cntM bs < 256 := by
    have h0' : 0 < bs.length := by rw [← HL.out]; omega
    have : cntM bs = bs[0] := by unfold cntM; simp [h0']
    rw [this]; exact HY.out _ (List.getElem_mem _)
  rw [hcn] at HC
  obtain ⟨C, hC⟩ : ∃ C, C = cntM bs := ⟨_, rfl⟩
  have HCN := Hid.intro hC
  rw [← hC] at NO YES hn256 HC
  have HCH := Hid.intro HC
  clear hcn hC n8 HC
  go_wp2_with fail
  refine HCH.out.mono ?_
  rintro e w2 ⟨rfl, E2, C2⟩
  have E2H : Hid (EyeAt w2 eb g bs (8 * (1 + 3 * 0))) := E2
  have B2H := Hid.intro (B1H.out.trans (C2.below B1H.out.size (fun k h => by rw [h]; exact heb)))
  clear HCH E2 C2 E1H B1H
  go_wp2_with fail
  go_loopw [7, 21] (fun lv iv ws => ∃ j : Nat, j ≤ C ∧ iv = .int .i64 j ∧ ws.ownsRow 0 35 3 lv j (mcells (smsP bs j)) ∧ (∀ q, lv.ownBlock = some q → w.heap.size ≤ q ∧ ¬ q = eb ∧ ¬ q = g) ∧ (∀ q, q < j → smOk bs q = true) ∧ EyeAt ws eb g bs (8 * (1 + 3 * j)) ∧ Below w.heap.size w ws) (fun _ iv _ => C - (intOf iv).toNat)
  case atStart => exact ⟨0, by omega, rfl, World.ownsRow_nil _ _ _ _, (fun q hq => by simp [Value.ownBlock] at hq), (fun q hq => absurd hq (Nat.not_lt_zero _)), E2H.out, B2H.out⟩
  case round =>
    obtain ⟨j, hj, rfl, hO, hN, hK, hE, hB⟩ := hrel
    have OH := Hid.intro hO
    have NH := Hid.intro hN
    have KH := Hid.intro hK
    have EH := Hid.intro hE
    have BH := Hid.intro hB
    clear hO hN hK hE hB E2H B2H
    by_cases hlt : j < C
    · have j0 : (0 : Int) ≤ (j : Int) := by omega
      have j1 : (j : Int) < (C : Int) := by omega
      have GS := getSample_any eb g bs (1 + 3 * j) wr (HW.out.below BH.out) EH.out
      have GO := Hid.intro (gO_eq bs j)
      have GSE := Hid.intro (gS_eq (bs := bs) (j := j))
      have STP := Hid.intro (smsP_step bs j)
      have SPL := Hid.intro (smsP_length bs j)
      rw [← HL.out] at GO
      obtain ⟨O, hOe⟩ : ∃ O, O = gO bs (1 + 3 * j) := ⟨_, rfl⟩
      obtain ⟨S, hSe⟩ : ∃ S, S = gS bs (1 + 3 * j) := ⟨_, rfl⟩
      rw [← hOe, ← hSe] at GS
      rw [← hOe] at GO GSE
      rw [← hSe] at GSE
      obtain ⟨n1, n2, n3⟩ := S
      have GSH := Hid.intro GS
      clear GS hOe hSe
      have BX := Hid.intro (fun (W : World) (hc : Chg (fun k => k = eb) wr W) => BH.out.trans (hc.below BH.out.size (fun k h => by rw [h]; exact heb)))
      cases O with
      | false =>
        obtain ⟨e1, e2⟩ := NO.out (fun q => by
          have q1 := q.2.2.1 j hlt
          have q2 := GO.out
          rw [q1, decide_eq_true (by omega)] at q2
          cases q2)
        subst e1 e2
        clear NO YES GO GSE STP SPL
        go_wp2_with fail
        refine GSH.out.mono ?_
        rintro e w3 ⟨rfl, _, C3⟩
        have B3 := BX.out w3 C3
        have B3H := Hid.intro (B3.alloc B3.size (.cells #[.int .i64 n1, .int .i64 n2, .int .i64 n3] 35))
        clear GSH C3 B3 BX
        go_wp2
        go_ret2
        exact psm_none rfl B3H.out
      | true =>
        have hgo := GO.out
        have hok : smOk bs j = true := by
          cases q : smOk bs j with
          | true => rfl
          | false => rw [q, Bool.and_false] at hgo; cases hgo
        have hS := GSE.out rfl
        rw [← hS] at STP
        have KN : Hid (∀ q, q < j + 1 → smOk bs q = true) := fun q hq => by
          by_cases r : q < j
          · exact KH.out q r
          · obtain rfl : q = j := by omega
            exact hok
        obtain ⟨oa, oc, hov, _⟩ := ownsRow_form OH.out
        subst hov
        clear GO GSE NO hgo hok hS KH
        go_wp2_with fail
        refine GSH.out.mono ?_
        rintro e w3 ⟨rfl, E3, C3⟩
        have E3' := E3 trivial
        have BA := (Below.refl _ w3).alloc (Nat.le_refl _) (.cells #[.int .i64 n1, .int .i64 n2, .int .i64 n3] 35)
        have nA := heap_alloc_new w3 (.cells #[.int .i64 n1, .int .i64 n2, .int .i64 n3] 35)
        have B4 := BH.out.trans ((C3.below BH.out.size (fun k h => by rw [h]; exact heb)))
        have E4 := E3'.kept (S := fun _ => False) (below_chg BA) id id
        have O3 := ownsRow_keep OH.out (fun q hq => (BA.block q (Nat.lt_of_lt_of_le (World.ownsRow.lt OH.out q hq).2 C3.size)).trans (C3.block q (World.ownsRow.lt OH.out q hq).2 (NH.out q hq).2.1))
        have B5 := B4.trans (BA.mono B4.size)
        have zA : (w3.alloc (.cells #[.int .i64 n1, .int .i64 n2, .int .i64 n3] 35)).heap.size = w3.heap.size + 1 := by rw [World.size_alloc]
        have hle : wr.heap.size ≤ w3.heap.size := C3.size
        obtain ⟨A, hA⟩ : ∃ A, A = w3.alloc (.cells #[.int .i64 n1, .int .i64 n2, .int .i64 n3] 35) := ⟨_, rfl⟩
        rw [← hA] at E4 O3 B5 zA
        have BN := (Below.refl _ A).alloc (Nat.le_refl _) (.cells #[.int .i64 n1, .int .i64 n2, .int .i64 n3] 35)
        have ON := O3.alloc (.cells #[.int .i64 n1, .int .i64 n2, .int .i64 n3] 35)
        have GR := heap_alloc_new A (.cells #[.int .i64 n1, .int .i64 n2, .int .i64 n3] 35)
        rw [zA] at GR
        have FIN : Hid (∀ (gz cz : Nat) (wb : World), wb.ownsRow 0 35 3 (.slice (some ⟨gz, 0, none⟩) (j + 1) cz) (j + 1) (mcells (smsP bs j) ++ [.int .i64 n1, .int .i64 n2, .int .i64 n3]) → (A.alloc (.cells #[.int .i64 n1, .int .i64 n2, .int .i64 n3] 35)).grownBy wb (Value.slice oa j oc).ownBlock → ((Value.slice oa j oc).ownBlock = some gz ∨ gz = (A.alloc (.cells #[.int .i64 n1, .int .i64 n2, .int .i64 n3] 35)).heap.size) →
            wb.ownsRow 0 35 3 (.slice (some ⟨gz, 0, none⟩) (j + 1) cz) (j + 1) (mcells (smsP bs (j + 1))) ∧ (∀ q, (Value.slice (some ⟨gz, 0, none⟩) (j + 1) cz).ownBlock = some q → w.heap.size ≤ q ∧ ¬ q = eb ∧ ¬ q = g) ∧ (∀ q, q < j + 1 → smOk bs q = true) ∧ EyeAt wb eb g bs (8 * (1 + 3 * (j + 1))) ∧ Below w.heap.size w wb) := fun gz cz wb hown hgrow hat => by
          have sN := BN.size
          have s5 := B5.size
          have leb := E4.lt
          have lg := E4.row.lt
          have C6 : Chg (fun q => (Value.slice oa j oc).ownBlock = some q) A wb := ((below_chg BN).mono (T := fun q => (Value.slice oa j oc).ownBlock = some q) (fun _ q _ => q.elim)).grown hgrow (fun q hq _ => hq)
          refine ⟨?_, fun q hq => ?_, KN.out, ?_, B5.trans (C6.below B5.size (fun q hq => (NH.out q hq).1))⟩
          · rw [STP.out, mcells_append, mcells_one]
            exact hown
          · obtain rfl : gz = q := by simpa [Value.ownBlock] using hq
            rcases hat with r | r
            · exact NH.out gz r
            · refine ⟨by omega, by omega, by omega⟩
          · have q := E4.kept C6 (fun h => (NH.out _ h).2.1 rfl) (fun h => (NH.out _ h).2.2 rfl)
            exact q
        have x0 : A.cell? ⟨w3.heap.size, 0, none⟩ = some (.int .i64 n1) := by rw [hA, cell_of_row _ _ 0 _ _ _ nA]; rfl
        have x1 : A.cell? ⟨w3.heap.size, 1, none⟩ = some (.int .i64 n2) := by rw [hA, cell_of_row _ _ 1 _ _ _ nA]; rfl
        have x2 : A.cell? ⟨w3.heap.size, 2, none⟩ = some (.int .i64 n3) := by rw [hA, cell_of_row _ _ 2 _ _ _ nA]; rfl
        have ONH := Hid.intro ON
        have GRH := Hid.intro GR
        rw [hA] at ONH GRH FIN x0 x1 x2
        obtain ⟨iF, hiF, hzF0, hzF1, hzF2⟩ := info_parts info_smp
        generalize mcells (smsP bs j) = ns at *
        clear GSH E3 E3' C3 BA nA B4 E4 O3 B5 hA zA BN ON GR hle OH BX
        go_wp2_with (refine wpList_append_lies _ (by rfl) _ _ _ (by rfl) 0 35 iF (.agg #[.int .i64 0, .int .i64 0, .int .i64 0]) 3 24 Tryz.underlying50 hiF hzF0 hzF1 hzF2 (by rfl) (by decide) (.slice oa j oc) j ns (by rfl) ONH.out ⟨w3.heap.size + 1, 0, none⟩ 1 1 [.int .i64 n1, .int .i64 n2, .int .i64 n3] (by rfl) (by rfl) (World.news_of_block (cs := #[.int .i64 n1, .int .i64 n2, .int .i64 n3]) GRH.out) (by simp [Value.oneCell']) (by decide) (by unfold maxLen; omega) (by omega) (Nat.zero_le _) (w3.heap.size + 1 + 1) (by simp) ?_; intro gz cz wb hown hgrow hat hltz; have FN := Hid.intro (FIN.out gz cz wb hown hgrow (by simpa using hat)); clear hown hgrow hat hltz)
        exact ⟨⟨j + 1, by omega, by go_num, FN.out⟩, by simp [intOf]; omega⟩
    · obtain rfl : j = C := by omega
      have jj : ¬ (j : Int) < (j : Int) := by omega
      have hle : 1 + 3 * j ≤ bs.length := by have := EH.out.pos_le; omega
      have OZ := Hid.intro (onlyZeros_any eb g bs (1 + 3 * j) hle wr EH.out)
      obtain ⟨oa, oc, hov, _⟩ := ownsRow_form OH.out
      subst hov
      rw [← HL.out] at hle
      cases hz : zerosF bs (1 + 3 * j) with
      | false =>
        rw [hz] at OZ
        obtain ⟨e1, e2⟩ := NO.out (fun q => by
          have : zerosF bs (1 + 3 * j) = true := decide_eq_true (fun r h1 h2 => q.2.2.2 r (by rw [HL.out]; exact h1) h2)
          rw [hz] at this
          cases this)
        subst e1 e2
        clear NO YES hz
        go_wp2_with fail
        refine OZ.out.mono ?_
        rintro e w3 ⟨rfl, C3⟩
        have B3H := Hid.intro (BH.out.trans (C3.below BH.out.size (fun k h => by rw [h]; exact heb)))
        clear OZ C3
        go_wp2
        go_ret2
        exact psm_none rfl B3H.out
      | true =>
        rw [hz] at OZ
        obtain ⟨e1, e2⟩ := YES.out ⟨by omega, hle, KH.out, fun r h1 h2 => of_decide_eq_true hz r (by rw [← HL.out]; exact h1) h2⟩
        have hT : T = smsP bs j := by rw [e2, HCN.out]; rfl
        have TL : Hid (T.length = j) := by rw [Hid, hT, smsP_length]
        subst e1
        have HT := Hid.intro hT
        clear NO YES hz e2 hT
        go_wp2_with fail
        refine OZ.out.mono ?_
        rintro e w3 ⟨rfl, C3⟩
        have B3H := Hid.intro (BH.out.trans (C3.below BH.out.size (fun k h => by rw [h]; exact heb)))
        have O3 := ownsRow_keep OH.out (fun q hq => C3.block q (World.ownsRow.lt OH.out q hq).2 (NH.out q hq).2.1)
        have RM := Hid.intro (ownsRow_roomM O3)
        have SM : Hid (SmsAt (fun k => w.heap.size ≤ k) w3 (.slice oa j oc) T) := by
          rw [HT.out]
          have O4 := O3
          rw [← smsP_length bs j] at O4
          exact sms_of_owns (R := fun k => w.heap.size ≤ k) (l := smsP bs j) (v := .slice oa j oc) (by rw [smsP_length] at O4 ⊢; exact O4) (fun r hr => (NH.out r hr).1)
        clear OZ C3 O3
        go_wp2
        go_ret2
        exact ⟨oa, oc, by rw [TL.out]; rfl, by rw [TL.out]; exact SM.out, by rw [TL.out]; exact RM.out.1, RM.out.2, B3H.out⟩

theorem cparse_any (ao : Option Addr) (cap : Nat) (bs : List Nat) (hl : bs.length ≤ 300) (hY : Byt bs) (w : World) (hw : WidR w) (hr : Reads w ao bs) (_ : Room ao cap bs.length) :
    Calls Tryz.prog 31 #[.slice ao bs.length cap] w fun e w' => ∃ a c, e = .returned (.tuple #[.slice a (parseL bs).length c, .int .i64 (parseEM bs)]) ∧ SmsAt (fun k => w.heap.size ≤ k) w' (.slice a (parseL bs).length c) (parseL bs) ∧ (parseL bs).length ≤ c ∧ (a = none → c = 0) ∧ Below w.heap.size w w' := cparse_in ao cap bs hl hY w hw hr

end Go.Proofs.YthhggjakenalpaaGreatDoor
