/- The document's own answer of layer 10: Parse. -/
import Derived.Test.YthbfdfkkacmbhaaDoorRcRefR
import Derived.Test.YthbfdfkkacmbhaaDoorRefNum
import Derived.Test.YthbfdfkkacmbhaaDoorRcPs
import Derived.Deep.AppendLies
import Derived.Deep.RegionLaw
import Derived.Deep.RegionHeld3
namespace Go.Proofs.YthbfdfkkacmbhaaDoor
open Go.RowKit
open Bt

theorem reads_partM {w : World} {bb off : Nat} {bs : List Nat} (h : Reads w (some ⟨bb, off, none⟩) bs) (i n : Nat) (hin : i + n ≤ bs.length) : Reads w (some ⟨bb, off + i, none⟩) ((bs.drop i).take n) := by
  intro h0
  have h0' : 0 < n ∧ i < bs.length := by
    simp only [List.length_take, List.length_drop] at h0
    omega
  obtain ⟨bb', off', e, hc⟩ := reads_at h (by omega)
  cases e
  refine ⟨_, rfl, fun j u hu => ?_⟩
  have hj := (List.getElem?_eq_some_iff.1 hu).1
  simp only [List.length_map, List.length_take, List.length_drop] at hj
  have hu2 : u = U (bs[i + j]'(by omega)) := by
    have := (List.getElem?_eq_some_iff.1 hu).2
    rw [← this]
    simp
  rw [WideShapes.add_plain, Nat.add_assoc, hc (i + j) (by omega), hu2]

set_option maxRecDepth 100000 in
set_option maxHeartbeats 4000000 in
theorem refParse_in (ao : Option Addr) (cap : Nat) (bs : List Nat) (hl : bs.length ≤ 300) (hY : ∀ b ∈ bs, b < 256) (hcap : bs.length ≤ cap) (w : World) (hr : Reads w ao bs) :
    Calls Tryd.prog 21 #[.slice ao bs.length cap] w (PsA w (parseL bs) (parseE bs)) := by
  have NO := Hid.intro (parse_no (bs := bs))
  have YES := Hid.intro (parse_yes (bs := bs))
  have HR := Hid.intro hr
  have HY := Hid.intro hY
  obtain ⟨pe, hpe⟩ : ∃ pe, pe = parseE bs := ⟨_, rfl⟩
  obtain ⟨T, hT⟩ : ∃ T, T = parseL bs := ⟨_, rfl⟩
  rw [← hpe, ← hT] at NO YES ⊢
  obtain ⟨L, hL⟩ : ∃ L, L = bs.length := ⟨_, rfl⟩
  have HL := Hid.intro hL
  rw [← hL] at hl hcap NO YES ⊢
  clear hpe hT hL hr hY
  by_cases h0 : L = 0
  · obtain ⟨e1, e2⟩ := NO.out (fun q => by omega)
    subst e1 e2 h0
    clear NO YES
    go_enter Tryd.func21, Tryd.ntmps21
    go_wp2
    go_ret2
    exact psa_none rfl (Below.refl _ _)
  have z0 : ((L : Int) == 0) = false := by simp; omega
  obtain ⟨bb, off, rfl, hc⟩ := reads_at HR.out (by rw [← HL.out]; omega)
  have HC := Hid.intro hc
  have b0 := hc 0 (by rw [← HL.out]; omega)
  have hcn : cntM bs = bs[0]'(by rw [← HL.out]; omega) := by
    unfold cntM
    have : 0 < bs.length := by rw [← HL.out]; omega
    simp [this]
  have hn256 : cntM bs < 256 := by rw [hcn]; exact HY.out _ (List.getElem_mem _)
  rw [← hcn, Nat.add_zero] at b0
  obtain ⟨C, hC⟩ : ∃ C, C = cntM bs := ⟨_, rfl⟩
  have HCN := Hid.intro hC
  rw [← hC] at NO YES hn256 b0
  clear hc hcn hC
  by_cases h1 : L < 1 + 3 * C
  · have z1 : (L : Int) < 1 + 3 * (C : Int) := by omega
    obtain ⟨e1, e2⟩ := NO.out (fun q => by omega)
    subst e1 e2
    clear NO YES
    go_enter Tryd.func21, Tryd.ntmps21
    go_wp2
    go_ret2
    exact psa_none rfl (Below.refl _ _)
  have z1 : ¬ (L : Int) < 1 + 3 * (C : Int) := by omega
  go_enter Tryd.func21, Tryd.ntmps21
  go_wp2_with fail
  go_loopw [4, 5] (fun ov i ws => ∃ j : Nat, j ≤ C ∧ i = .int .i64 j ∧ ws.ownsRow 0 28 3 ov j (mcells (smsP bs j)) ∧ (∀ q, ov.ownBlock = some q → w.heap.size ≤ q) ∧ (∀ q, q < j → smOk bs q = true) ∧ Below w.heap.size w ws) (fun _ i _ => C - (intOf i).toNat)
  case atStart => exact ⟨0, by omega, rfl, World.ownsRow_nil _ _ _ _, (fun q hq => by simp [Value.ownBlock] at hq), (fun q hq => absurd hq (Nat.not_lt_zero _)), Below.refl _ _⟩
  case round =>
    obtain ⟨j, hj, rfl, hO, hN, hK, hB⟩ := hrel
    have OH := Hid.intro hO
    have NH := Hid.intro hN
    have KH := Hid.intro hK
    have BH := Hid.intro hB
    have d0 := cellZ hB b0
    by_cases hlt : j < C
    · have j0 : (0 : Int) ≤ (j : Int) := by omega
      have j1 : (j : Int) < (C : Int) := by omega
      have hpart := reads_partM (HR.out.below hB) (1 + 3 * j) 3 (by rw [← HL.out]; omega)
      have h3 : ((bs.drop (1 + 3 * j)).take 3).length = 3 := by simp; rw [← HL.out]; omega
      have RD := refRead_any (some ⟨bb, off + (1 + 3 * j), none⟩) (cap - (1 + 3 * j)) ((bs.drop (1 + 3 * j)).take 3) (by rw [h3]; decide) (fun b hb => HY.out b (List.mem_of_mem_drop (List.mem_of_mem_take hb))) wr hpart
      rw [h3, if_neg (by decide)] at RD
      have hlt24 := readB3 HY.out (1 + 3 * j)
      have SA : Hid (smAt bs j = readB ((bs.drop (1 + 3 * j)).take 3)) := rfl
      have SK : Hid (smOk bs j = (decide (smAt bs j % 8 = 0) && rightM (smOf (smAt bs j)))) := rfl
      have STP := Hid.intro (smsP_step bs j)
      have SPL := Hid.intro (smsP_length bs j)
      rw [SA.out] at SK STP
      generalize readB ((bs.drop (1 + 3 * j)).take 3) = N at *
      have RDH := Hid.intro RD
      have zc : 4 + 3 * (j : Int) ≤ (cap : Int) := by omega
      have CR := Hid.intro (fun W => refRight_any (smOf N) W)
      unfold smOf at CR STP SK
      unfold Sm at CR
      obtain ⟨n1, hn1⟩ : ∃ n1, n1 = N / 2097152 := ⟨_, rfl⟩
      obtain ⟨n2, hn2⟩ : ∃ n2, n2 = N / 8192 % 256 := ⟨_, rfl⟩
      obtain ⟨n3, hn3⟩ : ∃ n3, n3 = N / 8 % 1024 := ⟨_, rfl⟩
      rw [← hn1, ← hn2, ← hn3] at CR STP SK
      have q1 : (N : Int) / 2097152 = (n1 : Int) := by rw [hn1]; simp
      have q2 : (N : Int) / 8192 % 256 = (n2 : Int) := by rw [hn2]; simp
      have q3 : (N : Int) / 8 % 1024 = (n3 : Int) := by rw [hn3]; simp
      have BAD : Hid (smOk bs j = false → pe = 6 ∧ T = []) := fun e => NO.out (fun q => by have := q.2.2.1 j hlt; rw [e] at this; cases this)
      have hcut : 4 + 3 * j - (1 + 3 * j) = 3 := by omega
      clear hpart h3 RD hO hN hK hB SA hn1 hn2 hn3
      by_cases h8 : N % 8 = 0
      case neg =>
        have e : smOk bs j = false := by rw [SK.out, decide_eq_false h8]; rfl
        obtain ⟨e1, e2⟩ := BAD.out e
        subst e1 e2
        have q8 : (N : Int) % 8 ≠ 0 := by omega
        have q8' : ((N : Int) % 8 != 0) = true := by rw [bne_iff_ne]; exact q8
        clear e SK STP BAD NO YES CR
        go_wp2_with fail
        first | rw [hcut] | skip
        refine RDH.out.mono ?_
        rintro e w2 ⟨rfl, rfl⟩
        have BX := Hid.intro (BH.out.alloc BH.out.size (.cells #[.int .i64 (n1 : Int), .int .i64 (n2 : Int), .int .i64 (n3 : Int)] 28))
        clear RDH
        go_wp2
        go_ret2
        exact psa_none rfl BX.out
      have q8 : (N : Int) % 8 = 0 := by omega
      rw [decide_eq_true h8, Bool.true_and] at SK
      cases hx : rightM ⟨(n1 : Int), (n2 : Int), (n3 : Int)⟩ with
      | false =>
        obtain ⟨e1, e2⟩ := BAD.out (by rw [SK.out]; exact hx)
        subst e1 e2
        rw [hx] at CR
        clear SK STP BAD NO YES hx
        go_wp2_with fail
        first | rw [hcut] | skip
        refine RDH.out.mono ?_
        rintro e w2 ⟨rfl, rfl⟩
        have BX := Hid.intro (BH.out.alloc BH.out.size (.cells #[.int .i64 (n1 : Int), .int .i64 (n2 : Int), .int .i64 (n3 : Int)] 28))
        clear RDH
        go_wp2_with fail
        refine (CR.out _).mono ?_
        rintro e w3 ⟨rfl, B3⟩
        have BX3 := Hid.intro (BX.out.trans (B3.mono BX.out.size))
        clear CR B3 BX
        go_wp2
        go_ret2
        exact psa_none rfl BX3.out
      | true =>
        have hok : smOk bs j = true := by rw [SK.out]; exact hx
        have KN : Hid (∀ q, q < j + 1 → smOk bs q = true) := fun q hq => by
          by_cases r : q < j
          · exact KH.out q r
          · obtain rfl : q = j := by omega
            exact hok
        rw [hx] at CR
        obtain ⟨oa, oc, hov, _⟩ := ownsRow_form OH.out
        subst hov
        clear SK BAD NO hx hok
        go_wp2_with fail
        first | rw [hcut] | skip
        refine RDH.out.mono ?_
        rintro e w2 ⟨rfl, rfl⟩
        have BA := (Below.refl _ wr).alloc (Nat.le_refl _) (.cells #[.int .i64 (n1 : Int), .int .i64 (n2 : Int), .int .i64 (n3 : Int)] 28)
        have nA := heap_alloc_new wr (.cells #[.int .i64 (n1 : Int), .int .i64 (n2 : Int), .int .i64 (n3 : Int)] 28)
        have BAH := Hid.intro BA
        have NAH := Hid.intro nA
        clear RDH BA nA
        go_wp2_with fail
        refine (CR.out _).mono ?_
        rintro e w3 ⟨rfl, B3⟩
        have n3b := (B3.block _ (lt_of_heap NAH.out)).trans NAH.out
        have E3 := BAH.out.trans (B3.mono BAH.out.size)
        have x0 : w3.cell? ⟨wr.heap.size, 0, none⟩ = some (.int .i64 (n1 : Int)) := by rw [cell_of_row _ _ 0 _ _ _ n3b]; rfl
        have x1 : w3.cell? ⟨wr.heap.size, 1, none⟩ = some (.int .i64 (n2 : Int)) := by rw [cell_of_row _ _ 1 _ _ _ n3b]; rfl
        have x2 : w3.cell? ⟨wr.heap.size, 2, none⟩ = some (.int .i64 (n3 : Int)) := by rw [cell_of_row _ _ 2 _ _ _ n3b]; rfl
        have O3 := ownsRow_keep OH.out (fun q hq => E3.block q (World.ownsRow.lt OH.out q hq).2)
        have BN := (Below.refl _ w3).alloc (Nat.le_refl _) (.cells #[.int .i64 (n1 : Int), .int .i64 (n2 : Int), .int .i64 (n3 : Int)] 28)
        have ON := Hid.intro (O3.alloc (.cells #[.int .i64 (n1 : Int), .int .i64 (n2 : Int), .int .i64 (n3 : Int)] 28))
        have GR := Hid.intro (heap_alloc_new w3 (.cells #[.int .i64 (n1 : Int), .int .i64 (n2 : Int), .int .i64 (n3 : Int)] 28))
        have FIN : Hid (∀ (gz cz : Nat) (wb : World), wb.ownsRow 0 28 3 (.slice (some ⟨gz, 0, none⟩) (j + 1) cz) (j + 1) (mcells (smsP bs j) ++ [.int .i64 (n1 : Int), .int .i64 (n2 : Int), .int .i64 (n3 : Int)]) → (w3.alloc (.cells #[.int .i64 (n1 : Int), .int .i64 (n2 : Int), .int .i64 (n3 : Int)] 28)).grownBy wb (Value.slice oa j oc).ownBlock → ((Value.slice oa j oc).ownBlock = some gz ∨ gz = (w3.alloc (.cells #[.int .i64 (n1 : Int), .int .i64 (n2 : Int), .int .i64 (n3 : Int)] 28)).heap.size) →
            wb.ownsRow 0 28 3 (.slice (some ⟨gz, 0, none⟩) (j + 1) cz) (j + 1) (mcells (smsP bs (j + 1))) ∧ (∀ q, (Value.slice (some ⟨gz, 0, none⟩) (j + 1) cz).ownBlock = some q → w.heap.size ≤ q) ∧ (∀ q, q < j + 1 → smOk bs q = true) ∧ Below w.heap.size w wb) := fun gz cz wb hown hgrow hat => by
          have s3 := E3.size
          have sr := BH.out.size
          have sN := BN.size
          have C3 : Chg (fun q => (Value.slice oa j oc).ownBlock = some q) wr wb := ((below_chg (E3.trans (BN.mono E3.size))).mono (fun _ q _ => q.elim)).grown hgrow (fun q hq _ => hq)
          refine ⟨?_, fun q hq => ?_, KN.out, BH.out.trans (C3.below sr (fun q hq => NH.out q hq))⟩
          · rw [STP.out, mcells_append, mcells_one]
            exact hown
          · obtain rfl : gz = q := by simpa [Value.ownBlock] using hq
            rcases hat with r | r
            · exact NH.out gz r
            · omega
        obtain ⟨iF, hiF, hzF0, hzF1, hzF2⟩ := info_parts info_smp
        generalize mcells (smsP bs j) = ns at *
        clear CR B3 BAH NAH n3b O3 BN E3
        go_wp2_with (refine wpList_append_lies _ (by rfl) _ _ _ (by rfl) 0 28 iF (.agg #[.int .i64 0, .int .i64 0, .int .i64 0]) 3 24 Tryd.underlying24 hiF hzF0 hzF1 hzF2 (by rfl) (by decide) (.slice oa j oc) j ns (by rfl) ON.out ⟨w3.heap.size, 0, none⟩ 1 1 [.int .i64 (n1 : Int), .int .i64 (n2 : Int), .int .i64 (n3 : Int)] (by rfl) (by rfl) (World.news_of_block (cs := #[.int .i64 (n1 : Int), .int .i64 (n2 : Int), .int .i64 (n3 : Int)]) GR.out) (by simp [Value.oneCell']) (by decide) (by unfold maxLen; omega) (by omega) (Nat.zero_le _) (w3.heap.size + 1) (by simp) ?_; intro gz cz wb hown hgrow hat hltz; have FN := Hid.intro (FIN.out gz cz wb hown hgrow (by simpa using hat)); clear hown hgrow hat hltz)
        exact ⟨⟨j + 1, by omega, by go_num, FN.out⟩, by simp [intOf]; omega⟩
    · obtain rfl : j = C := by omega
      have jj : ¬ (j : Int) < (j : Int) := by omega
      generalize wr = wx at *
      obtain ⟨oa, oc, hov, hof⟩ := ownsRow_form hO
      subst hov
      clear hB hO hN hK
      go_wp2_with fail
      go_loopw [8] (fun i ws => ∃ q : Nat, 1 + 3 * j ≤ q ∧ q ≤ L ∧ i = .int .i64 q ∧ (∀ r, 1 + 3 * j ≤ r → r < q → bs.getD r 0 = 0) ∧ Below wx.heap.size wx ws) (fun i _ => L - (intOf i).toNat)
      case atStart => exact ⟨1 + 3 * j, by omega, by omega, by go_num, (fun r h1 h2 => by omega), Below.refl _ _⟩
      case round =>
        obtain ⟨q, hq1, hq2, rfl, hz, hB2⟩ := hrel
        have HZ := Hid.intro hz
        have BH2 := Hid.intro hB2
        by_cases hql : q < L
        · have r0 : (0 : Int) ≤ (q : Int) := by omega
          have r1 : (q : Int) < (L : Int) := by omega
          have hqb : q < bs.length := by rw [← HL.out]; exact hql
          have c := cellZ hB2 (cellZ BH.out (HC.out q hqb))
          have hg : bs.getD q 0 = bs[q] := by simp [hqb]
          have NXT : Hid (bs[q] = 0 → ∀ r, 1 + 3 * j ≤ r → r < q + 1 → bs.getD r 0 = 0) := fun e r h1 h2 => by
            by_cases u : r < q
            · exact HZ.out r h1 u
            · obtain rfl : r = q := by omega
              rw [hg, e]
          have BAD : Hid (bs[q] ≠ 0 → pe = 6 ∧ T = []) := fun e => NO.out (fun u => e (by rw [← hg]; exact u.2.2.2 q hql hq1))
          generalize bs[q] = y at c NXT BAD
          clear hz hB2 hg
          by_cases hy : y = 0
          · subst hy
            have NX := Hid.intro (NXT.out rfl)
            clear NXT BAD
            go_wp2
            go_roundw
            case rel => exact ⟨q + 1, by omega, by omega, by go_num, NX.out, BH2.out⟩
            case measure => simp [intOf]; omega
          · obtain ⟨e1, e2⟩ := BAD.out hy
            subst e1 e2
            have y0 : ((y : Int) != 0) = true := by rw [bne_iff_ne]; omega
            have y1 : ¬ (y : Int) = 0 := by omega
            have FIN := Hid.intro (BH.out.trans (BH2.out.mono BH.out.size))
            clear NXT BAD NO YES
            go_wp2
            go_ret2
            exact psa_none rfl FIN.out
        · obtain rfl : q = L := by omega
          have rr : ¬ (q : Int) < (q : Int) := by omega
          have FIN := Hid.intro (BH.out.trans (hB2.mono BH.out.size))
          obtain ⟨e1, e2⟩ := YES.out ⟨by omega, by omega, KH.out, fun r h1 h2 => hz r h2 h1⟩
          have hT : T = smsP bs j := by rw [e2, HCN.out]; rfl
          have O2 := ownsRow_keep OH.out (fun r hr => hB2.block r (World.ownsRow.lt OH.out r hr).2)
          have SM : Hid (SmsAt (fun k => w.heap.size ≤ k) wr (.slice oa j oc) T) := by
            rw [hT]
            have O3 := O2
            rw [← smsP_length bs j] at O3
            have q := sms_of_owns (R := fun k => w.heap.size ≤ k) (l := smsP bs j) (v := .slice oa j oc) (by rw [smsP_length] at O3 ⊢; exact O3) (fun r hr => NH.out r hr)
            exact q
          have TL : Hid (T.length = j) := by rw [Hid, hT, smsP_length]
          subst e1
          clear NO YES hz hB2 e2 hT O2
          go_wp2
          go_ret2
          exact ⟨oa, oc, by rw [TL.out]; rfl, by rw [TL.out]; exact SM.out, FIN.out⟩

theorem refParse_any (ao : Option Addr) (cap : Nat) (bs : List Nat) (hl : bs.length ≤ 300) (hY : ∀ b ∈ bs, b < 256) (hcap : bs.length ≤ cap) (w : World) (hr : Reads w ao bs) :
    Calls Tryd.prog 21 #[.slice ao bs.length cap] w fun e w' => ∃ a c, e = .returned (.tuple #[.slice a (parseL bs).length c, .int .i64 (parseE bs)]) ∧ SmsAt (fun k => w.heap.size ≤ k) w' (.slice a (parseL bs).length c) (parseL bs) ∧ Below w.heap.size w w' := refParse_in ao cap bs hl hY hcap w hr

end Go.Proofs.YthbfdfkkacmbhaaDoor
