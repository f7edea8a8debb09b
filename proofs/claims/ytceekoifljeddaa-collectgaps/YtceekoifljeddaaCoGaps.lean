/- The statement CollectGaps: groups that are given up are gaps, in order, unless their shards are there, and behind Due the base isn't ready. -/
import Derived.Test.YtceekoifljeddaaCoAlive
import Derived.Test.YtceekoifljeddaaMPlain
import Derived.Test.YtceekoifljeddaaRsArg
import Derived.Test.YtceekoifljeddaaMRs
namespace Go.Proofs.Ytceekoifljeddaa
open Go.ChangeShapes Go.WideShapes Go.ChangeAt Go.RowKit Go.Joins
open Bt

namespace LCollectGaps

/-- The rows of a text, for the base's group alone. -/
abbrev R0 (K S : Nat) (bs : List Nat) : Nat → Nat → List Nat := fun _ r => shL K S bs S r
abbrev H0 (M : Nat) : Nat → Nat → Bool := fun j r => decide (j = 0) && decide (r < M)

theorem h0_put (k j r : Nat) : ((decide (j = 0) && decide (r = k)) || H0 k j r) = H0 (k + 1) j r := by
  unfold H0
  rw [← Bool.and_or_distrib_left]
  congr 1
  rw [Bool.eq_iff_iff]
  simp
  omega

/-- What is due: as many as were given up. -/
theorem due_all {K N S G m M : Nat} {bs : List Nat} {x : Col} (hmay : mayC K N S = true) (hG : G < 256) (hm1 : 1 ≤ m) (hm : m ≤ 4) (hM : M = 0 ∨ M = N) (h : Held K N S G (R0 K S bs) (H0 M) (fun i => decide (i < m)) x) :
    (dueP x).length = m ∧ (∀ t, (ht : t < (dueP x).length) → (dueP x)[t].group = (G + t) % 256 ∧ (dueP x)[t].gap = (decide (0 < t) || decide (M = 0))) ∧ (dueC x).base = (G + m) % 256 ∧ readyN (dueC x) = 0 ∧ skipE (dueC x) (G : Int) = 9 := by
  obtain ⟨q1, q2, q3, q4, q5, q6⟩ := mayC_true hmay
  have hR : ∀ i r, i < 4 → r < N → 0 < (R0 K S bs i r).length := fun i r _ _ => by rw [shL_length]; omega
  have hb : x.base < 256 := by rw [h.base]; exact hG
  have c0 : cntH N (H0 M 0) = M := by
    rcases hM with e | e
    · subst e
      rw [show H0 0 0 = fun _ => false from funext fun r => by simp [H0]]
      exact cntH_none N
    · subst e
      exact cntH_all (fun r hr => by simp [H0, hr])
  have cj : ∀ i, i ≠ 0 → cntH N (H0 M i) = 0 := fun i hi => by
    rw [show H0 M i = fun _ => false from funext fun r => by simp [H0, hi]]
    exact cntH_none N
  have hrd : ∀ i, i < m → rdy x i = true := fun i hi => by
    rw [h.rdy hR (by omega), decide_eq_true hi]; rfl
  have hrn : ∀ i, m ≤ i → i < 4 → rdy x i = false := fun i h1 h2 => by
    rw [h.rdy hR h2, cj i (by omega)]
    simp; omega
  have hdm : dueM 4 x = m := dueM_of hm hrd (fun q => hrn m (Nat.le_refl _) q)
  have hP := dueP_of hb hdm
  have hlen : (dueP x).length = m := by rw [hP]; simp
  have hbs : (dueC x).base = (G + m) % 256 := by unfold dueC; rw [hdm, shiftN_base hb, h.base]
  refine ⟨hlen, fun t ht => ?_, hbs, ?_, ?_⟩
  · have e : (dueP x)[t] = prtAt x t := by simp [hP]
    rw [e]
    have ht4 : t < 4 := by omega
    unfold prtAt
    rw [h.k, h.base, h.rows t ht4, cnt_rowsH (fun r hr => hR t r ht4 hr)]
    by_cases e0 : t = 0
    · subst e0
      rw [c0]
      rcases hM with e | e
      · rw [if_neg (by omega)]; subst e; exact ⟨rfl, rfl⟩
      · rw [if_pos (by omega)]
        refine ⟨rfl, ?_⟩
        simp; omega
    · rw [cj t e0, if_neg (by omega)]
      refine ⟨rfl, ?_⟩
      simp; omega
  · refine ready_none (fun i hi => ?_)
    unfold dueC
    rw [hdm]
    by_cases q : i + m < 4
    · rw [rdy_shift x q]; exact hrn _ (by omega) q
    · exact rdy_past (by rw [h.k]; omega) hi (by omega)
  · have hf : farA (((G + m) % 256 : Nat) : Int) (G : Int) = 256 - (m : Int) := by
      rw [farA_in (by omega) (by omega)]
      omega
    have hp : placeE (dueC x) (G : Int) = 9 := by
      unfold placeE behindA
      rw [hbs, hf, if_pos (by simp; omega)]
    unfold skipE
    rw [if_pos (isG_of (by omega)), hp, if_neg (by decide)]

theorem walk_nil (k n s g m : Int) (a : Option Addr) (len cap : Nat) (f : Bool) (w : World) (h : (mayC k n s && isG g) = false) :
    Calls Try.prog 5 #[Cd k n s, .int .i64 g, .int .u8 m, .slice a len cap, .bool f] w fun e w' => e = .returned (.bool true) ∧ Below w.heap.size w w' := by
  have b0 := Hid.intro (heap_alloc_new w (.cells #[.int .i64 k, .int .i64 n, .int .i64 s] 23))
  have B0 := Hid.intro ((Below.refl _ w).alloc (Nat.le_refl _) (.cells #[.int .i64 k, .int .i64 n, .int .i64 s] 23))
  go_enter Try.func5, Try.ntmps5
  go_wp2_with fail
  refine (alive_any _).mono ?_
  rintro e w1 ⟨rfl, B1⟩
  have b1 := (B1.block _ (lt_of_heap b0.out)).trans b0.out
  have B1H := Hid.intro (B0.out.trans (B1.mono B0.out.size))
  obtain ⟨c0, c1, c2⟩ := cd_cells b1
  clear b1 B1
  go_wp2_with fail
  refine (cnew_no k n s g h w1).mono ?_
  rintro e w2 ⟨rfl, B2⟩
  have B2w := B1H.out.trans (B2.mono B1H.out.size)
  clear c0 c1 c2 B2
  go_wp2
  go_ret
  exact ⟨rfl, B2w⟩

theorem walk_far (K N S G : Nat) (m : Int) (a : Option Addr) (len cap : Nat) (f : Bool) (w : World) (hnew : (mayC K N S && isG G) = true) (hlen : len ≤ maxLen) (h : 200 < len) :
    Calls Try.prog 5 #[Cd K N S, .int .i64 (G : Int), .int .u8 m, .slice a len cap, .bool f] w fun e w' => e = .returned (.bool true) ∧ Below w.heap.size w w' := by
  unfold maxLen at hlen
  have j : decide ((200 : Int) < (len : Int)) = true := by simp; omega
  have b0 := Hid.intro (heap_alloc_new w (.cells #[.int .i64 (K : Int), .int .i64 (N : Int), .int .i64 (S : Int)] 23))
  have B0 := Hid.intro ((Below.refl _ w).alloc (Nat.le_refl _) (.cells #[.int .i64 (K : Int), .int .i64 (N : Int), .int .i64 (S : Int)] 23))
  go_enter Try.func5, Try.ntmps5
  go_wp2_with fail
  refine (alive_any _).mono ?_
  rintro e w1 ⟨rfl, B1⟩
  have b1 := (B1.block _ (lt_of_heap b0.out)).trans b0.out
  have B1H := Hid.intro (B0.out.trans (B1.mono B0.out.size))
  obtain ⟨c0, c1, c2⟩ := cd_cells b1
  clear b1 B1
  go_wp2_with fail
  refine (cnew_yes K N S G hnew w1).mono ?_
  rintro e w2 ⟨b, F, rfl, _, _, B2⟩
  have B2w := B1H.out.trans (B2.mono B1H.out.size)
  clear c0 c1 c2 B2
  go_wp2
  go_ret
  exact ⟨rfl, B2w⟩

set_option maxRecDepth 100000 in
set_option maxHeartbeats 4000000 in
theorem walk_near (K N S G : Nat) (hnew : (mayC K N S && isG G) = true) (m : Nat) (hmb : m < 256) (a : Option Addr) (cap : Nat) (bs : List Nat) (also : Bool) (w : World) (h2 : bs.length ≤ 200) (hn : Room a cap bs.length) (hY : Byt bs) (hr : Reads w a bs) :
    Calls Try.prog 5 #[Cd K N S, .int .i64 (G : Int), .int .u8 (m : Int), .slice a bs.length cap, .bool also] w fun e w' => e = .returned (.bool true) ∧ Below w.heap.size w w' := by
  have hnew2 := hnew
  rw [Bool.and_eq_true] at hnew2
  have hmay := hnew2.1
  obtain ⟨m1, m2, m3, m4, m5, m6⟩ := mayC_true hmay
  have hG : G < 256 := by have := isG_true hnew2.2; omega
  have HMAY := Hid.intro hmay
  have HR := Hid.intro hr
  have HY := Hid.intro hY
  have NW := Hid.intro (fun w => cnew_yes K N S G hnew w)
  have HEN := Hid.intro (fun W (h : Reads W a bs) => rencode_any K N S a cap bs hY (by omega) W h hn)
  obtain ⟨E, hE⟩ : ∃ E, E = encE K N S bs.length := ⟨_, rfl⟩
  rw [← hE] at HEN
  have HE := Hid.intro hE
  have b0 := Hid.intro (heap_alloc_new w (.cells #[.int .i64 (K : Int), .int .i64 (N : Int), .int .i64 (S : Int)] 23))
  have B0 := Hid.intro ((Below.refl _ w).alloc (Nat.le_refl _) (.cells #[.int .i64 (K : Int), .int .i64 (N : Int), .int .i64 (S : Int)] 23))
  have j : decide ((200 : Int) < (bs.length : Int)) = false := by simp; omega
  obtain ⟨q, hq⟩ : ∃ q, q = m % 4 := ⟨_, rfl⟩
  have hq4 : q < 4 := by omega
  have hqm : (m : Int) % 4 = (q : Int) := by omega
  obtain ⟨c, hc⟩ : ∃ c, c = 1 + q := ⟨_, rfl⟩
  have hcq : (1 : Int) + (q : Int) = (c : Int) := by omega
  have hc4 : 1 ≤ c ∧ c ≤ 4 := by omega
  obtain ⟨f, hf⟩ : ∃ f : Bool, f = (also && (E == 0)) := ⟨_, rfl⟩
  have HF := Hid.intro hf
  obtain ⟨M, hM⟩ : ∃ M, M = if f = true then N else 0 := ⟨_, rfl⟩
  have HM := Hid.intro hM
  clear hr hY hn hmay hE hnew hnew2 hq hc hf hM
  go_enter Try.func5, Try.ntmps5
  go_wp2_with fail
  refine (alive_any _).mono ?_
  rintro e w1 ⟨rfl, B1⟩
  have b1 := (B1.block _ (lt_of_heap b0.out)).trans b0.out
  have B1H := Hid.intro (B0.out.trans (B1.mono B0.out.size))
  have b1H := Hid.intro b1
  obtain ⟨c0, c1, c2⟩ := cd_cells b1
  clear b1 B1 B0 b0
  go_wp2_with fail
  refine (NW.out w1).mono ?_
  rintro e w2 ⟨b, F, rfl, hC, hF, B2⟩
  have L2 := Hid.intro (cl_new hC hF B2)
  have b2 := (B2.block _ (lt_of_heap b1H.out)).trans b1H.out
  have B2H := Hid.intro (B1H.out.trans (B2.mono B1H.out.size))
  have W12 := Hid.intro B2.size
  have b2H := Hid.intro b2
  clear c0 c1 c2
  obtain ⟨c0, c1, c2⟩ := cd_cells b2
  clear b2 B2 hC hF NW
  go_wp2_with fail
  refine (HEN.out w2 (HR.out.below B2H.out)).mono ?_
  rintro e w3 ⟨v3, rfl, S3, B3⟩
  have L3 := L2.out.grow B3
  have SL : Hid (f = true → ∃ mb off mc A C, v3 = .slice (some ⟨mb, off, none⟩) N mc ∧ ShsAt w2.heap.size w3 mb off A C (encL K N S bs) ∧ bs.length = K * S) := fun hf => by
    have h0 : E = 0 := by
      rw [HF.out, Bool.and_eq_true] at hf
      simpa using hf.2
    have e0 : encE K N S bs.length = 0 := by rw [← HE.out]; exact h0
    have eA : encA K N S bs = encL K N S bs := by unfold encA; rw [e0, if_pos rfl]; rfl
    rw [eA] at S3
    have hl := (encE_ok e0).2
    rw [← Int.natCast_mul] at hl
    rcases S3 with ⟨q1, _⟩ | ⟨mb, off, mc, A, C, rfl, S3⟩
    · have := encL_length K N S bs; rw [q1] at this; simp at this; omega
    · exact ⟨mb, off, mc, A, C, by rw [encL_length], S3, by omega⟩
  have b3 := (B3.block _ (lt_of_heap b2H.out)).trans b2H.out
  have L3H := Hid.intro L3
  have B3H := Hid.intro (B2H.out.trans (B3.mono B2H.out.size))
  have b3H := Hid.intro b3
  clear c0 c1 c2 b3 L3 B3 S3 HEN L2 b2H HR
  go_wp2_with fail
  clear hqm hcq
  go_loopw [15] (fun i wr => ∃ (t : Nat) (x : Col), t ≤ c ∧ i = .int .i64 t ∧ CL (fun k => k < w1.heap.size ∨ (w2.heap.size ≤ k ∧ k < w3.heap.size)) w3 wr b x ∧ Held K N S G (R0 K S bs) (H0 0) (fun i => decide (i < t)) x) (fun i _ => c - (intOf i).toNat)
  case atStart => exact ⟨0, _, by omega, rfl, L3H.out, (held_new K N S G (R0 K S bs)).congr (fun i r _ => by simp) (fun _ _ => by simp)⟩
  case round =>
    clear L3H
    obtain ⟨t, x, ht, rfl, LX, HX⟩ := hrel
    have LXH := Hid.intro LX
    have HXH := Hid.intro HX
    clear LX HX
    by_cases hlt : t < c
    · have t1 : (t : Int) < (c : Int) := by omega
      obtain ⟨s1, s2⟩ := HXH.out.skip hG (i := t) (by omega)
      rw [if_neg (by simp)] at s1
      have HS := clskip (((G + t) % 256 : Nat) : Int) LXH.out
      rw [s1] at HS
      have S2 := Hid.intro (s2.congr (H' := H0 0) (D' := fun i => decide (i < t + 1)) (fun _ _ _ => rfl) (fun i _ => by
        rw [Bool.eq_iff_iff]; simp; omega))
      have hgm : ((G : Int) + (t : Int)) % 256 = (((G + t) % 256 : Nat) : Int) := by omega
      have HSH := Hid.intro HS
      clear s1 s2 HS HXH LXH
      generalize (G + t) % 256 = g2 at hgm HSH S2
      go_wp2_with fail
      refine HSH.out.mono ?_
      rintro e w4 ⟨rfl, L4⟩
      have L4H := Hid.intro L4
      clear L4 HSH
      go_wp2
      go_roundw
      case rel => exact ⟨t + 1, _, by omega, by go_num, L4H.out, S2.out⟩
      case measure => simp [intOf]; omega
    · have hte : c = t := by omega
      have t1 : ¬ (t : Int) < (c : Int) := by omega
      subst hte
      have hf3 : (also = false ∧ f = false) ∨ (also = true ∧ (E == 0) = false ∧ f = false) ∨ (also = true ∧ (E == 0) = true ∧ f = true) := by
        have := HF.out
        rcases also with _ | _
        · exact .inl ⟨rfl, by simpa using this⟩
        · rcases e0 : (E == 0) with _ | _
          · exact .inr (.inl ⟨rfl, rfl, by rw [this, e0]; rfl⟩)
          · exact .inr (.inr ⟨rfl, rfl, by rw [this, e0]; rfl⟩)
      clear HF hlt ht
      rcases hf3 with ⟨rfl, rfl⟩ | ⟨rfl, hE0, rfl⟩ | ⟨rfl, hE0, rfl⟩
      all_goals
        go_wp2_with fail
        go_loopw [17] (fun i wr => ∃ (t : Nat) (x : Col), t ≤ M ∧ i = .int .i64 t ∧ CL (fun k => k < w1.heap.size ∨ (w2.heap.size ≤ k ∧ k < w3.heap.size)) w3 wr b x ∧ Held K N S G (R0 K S bs) (H0 t) (fun i => decide (i < c)) x) (fun i _ => M - (intOf i).toNat)
        case atStart => exact ⟨0, _, by omega, rfl, LXH.out, HXH.out⟩
        case round =>
          clear LXH HXH
          obtain ⟨t, x, ht, rfl, LX, HX⟩ := hrel
          have LXH := Hid.intro LX
          have HXH := Hid.intro HX
          have bt := (LX.block (.inl (lt_of_heap b1H.out))).trans b3H.out
          obtain ⟨c0, c1, c2⟩ := cd_cells bt
          clear LX HX bt
          by_cases hlt : t < M
          · first
              | (exfalso; have := HM.out; simp at this; omega)
              | (have hMN : M = N := by have := HM.out; simpa using this
                 have t0 : (0 : Int) ≤ (t : Int) := by omega
                 have t1 : (t : Int) < (N : Int) := by omega
                 obtain ⟨mb, off, mc, A, C, rfl, S3, hl⟩ := SL.out (by first | rfl | trivial)
                 have hkN : t < N := by omega
                 have hrow : (encL K N S bs).getD t [] = shL K S bs S t := encL_getD hkN
                 have hkl : t < (encL K N S bs).length := by rw [encL_length]; exact hkN
                 have cr := LXH.out.cell (S3.cell t hkl) (.inr ⟨S3.newTop, S3.ltTop⟩)
                 have rr := S3.row t hkl
                 have rcap := S3.cap t hkl
                 have rlen := S3.lenCap t hkl
                 have rnew := fun ad (h : A t = some ad) => (S3.newRow t ad hkl h).1
                 rw [hrow, shL_length] at cr
                 rw [hrow] at rr rlen
                 have sb := shL_byt (S := S) (show K ≤ 256 by omega) HY.out (i := t) (show t < 256 by omega) S
                 have sl := shL_length K S bs S t
                 have hFF : ∀ ad, A t = some ad → (ad.block < w1.heap.size ∨ (w2.heap.size ≤ ad.block ∧ ad.block < w3.heap.size)) := fun ad ha => .inr ⟨rnew ad ha, reads_lt (by rw [← ha]; exact rr) (by rw [sl]; omega)⟩
                 have SH := HXH.out.shard hG (i := 0) (k := t) (by omega) hkN (by omega) sl
                 rw [show (G + 0) % 256 = G by omega] at SH
                 have HS := clshard (G : Int) (t : Int) (A t) (C t) (shL K S bs S t) sb ⟨rcap, rlen⟩ LXH.out (LXH.out.reads rr hFF) (fun _ => hFF)
                 rw [SH.1, sl] at HS
                 have SH2 := Hid.intro (SH.2.congr (fun i r _ => h0_put t i r) (fun _ _ => rfl))
                 have HSH := Hid.intro HS
                 have HMN := Hid.intro hMN
                 have HHL := Hid.intro hl
                 clear hMN hl
                 clear SH HS hrow hkl rr rcap rlen rnew sb sl hFF HXH LXH S3
                 go_wp2_with fail
                 refine HSH.out.mono ?_
                 rintro e w4 ⟨rfl, L4⟩
                 have L4H := Hid.intro L4
                 clear L4 HSH c0 c1 c2 cr
                 go_wp2
                 go_roundw
                 case rel => exact ⟨t + 1, _, by have := HMN.out; omega, by go_num, L4H.out, SH2.out⟩
                 case measure => simp [intOf]; omega)
          · have hte : M = t := by omega
            have hM2 : M = 0 ∨ M = N := by have := HM.out; simp at this; omega
            subst hte
            obtain ⟨d1, d2, d3, d4, d5⟩ := due_all HMAY.out hG hc4.1 hc4.2 hM2 HXH.out
            have HD := cldue LXH.out
            generalize dueP x = ps at d1 d2 HD
            generalize dueC x = y at d3 d4 d5 HD
            have HDH := Hid.intro HD
            have D1 := Hid.intro d1
            have D2 := Hid.intro d2
            have D3 := Hid.intro d3
            have D4 := Hid.intro d4
            have D5 := Hid.intro d5
            clear HD d1 d2 d3 d4 d5 hM2 hlt ht
            rcases Classical.em ((M : Int) < (N : Int)) with jN | jN
            all_goals first
              | (exfalso; have := HM.out; simp at this; omega)
              | (go_wp2_with fail
                 refine HDH.out.mono ?_
                 rintro e w4 ⟨v4, rfl, ⟨a4, c4, rfl, P4⟩, L4⟩
                 rw [D1.out]
                 have hgm : ((G : Int) + (c : Int)) % 256 = (((G + c) % 256 : Nat) : Int) := by omega
                 have s4 := clbase L4
                 rw [D3.out] at s4
                 have S4 := Hid.intro s4
                 have P4H : Hid (PartsAt wr.heap.size w4 (.slice a4 ps.length c4) ps) := ⟨a4, c4, rfl, P4⟩
                 clear HDH s4 P4 L4 c0 c1 c2
                 obtain ⟨g4, hg4⟩ : ∃ g4, g4 = (G + c) % 256 := ⟨_, rfl⟩
                 rw [← hg4] at hgm S4
                 clear hg4
                 go_wp2_with fail
                 refine S4.out.mono ?_
                 rintro e w5 ⟨rfl, B5, L5⟩
                 have P5 := P4H.out.below B5
                 have s5 := clready L5
                 rw [D4.out] at s5
                 have S5 := Hid.intro s5
                 have P5H := Hid.intro P5
                 clear S4 P4H s5 P5 B5 L5
                 go_wp2_with fail
                 refine S5.out.mono ?_
                 rintro e w6 ⟨rfl, B6, L6⟩
                 obtain ⟨B0, hB0⟩ : ∃ B0, B0 = wr.heap.size := ⟨_, rfl⟩
                 have P6 := P5H.out.below B6
                 rw [← hB0] at P6
                 have P6H := Hid.intro P6
                 have L6H := Hid.intro L6
                 clear S5 P5H B6 L6 hgm hB0 P6
                 go_wp2_with fail
                 rename World => w7
                 go_loopw [19] (fun i wr => ∃ t : Nat, t ≤ c ∧ i = .int .i64 t ∧ PartsAt B0 wr (.slice a4 ps.length c4) ps ∧ CL (fun k => k < w1.heap.size ∨ (w2.heap.size ≤ k ∧ k < w3.heap.size)) w3 wr b y) (fun i _ => c - (intOf i).toNat)
                 case atStart => exact ⟨0, by omega, rfl, P6H.out, L6H.out⟩
                 case round =>
                   clear P6H L6H
                   obtain ⟨t, ht, rfl, PT, LT⟩ := hrel
                   have PTH := Hid.intro PT
                   have LTH := Hid.intro LT
                   by_cases hlt : t < c
                   · have t1 : (t : Int) < (c : Int) := by omega
                     have t0 : (0 : Int) ≤ (t : Int) := by omega
                     obtain ⟨ao, cp, e4, hp⟩ := PT
                     obtain ⟨rfl, rfl⟩ : a4 = ao ∧ c4 = cp := by simpa using e4
                     have htp : t < ps.length := by rw [D1.out]; exact hlt
                     obtain ⟨pb, po, rfl, _, hp⟩ := hp (by omega)
                     obtain ⟨d, dc, x0, x1, y2, y3, y4, y5⟩ := hp t htp
                     obtain ⟨z1, z2⟩ := D2.out t htp
                     have hgm : ((G : Int) + (t : Int)) % 256 = (((G + t) % 256 : Nat) : Int) := by omega
                     rw [z1] at x0
                     generalize (G + t) % 256 = g4 at hgm x0
                     have Z2 := Hid.intro z2
                     generalize ps[t].gap = gp at x1 Z2
                     clear hp z1 z2 y2 y3 y4 y5 htp LT e4
                     by_cases tz : t = 0
                     · subst tz
                       have u0 : ¬ (0 : Int) < ((0 : Nat) : Int) := by omega
                       obtain rfl : g4 = G := by omega
                       have hgm0 : (g4 : Int) % 256 = (g4 : Int) := by omega
                       simp only [Nat.zero_mul, Nat.add_zero] at x0 x1
                       first
                         | (have hgp : gp = true := by
                              rw [Z2.out]
                              have := HM.out
                              simp at this
                              simp [this]
                            subst hgp
                            clear Z2
                            go_wp2
                            go_roundw
                            case rel => exact ⟨1, by omega, by go_num, PTH.out, LTH.out⟩
                            case measure => simp [intOf]; omega)
                         | (have hgp : gp = false := by
                              rw [Z2.out]
                              have := HM.out
                              simp at this
                              simp
                              omega
                            subst hgp
                            clear Z2
                            go_wp2
                            go_roundw
                            case rel => exact ⟨1, by omega, by go_num, PTH.out, LTH.out⟩
                            case measure => simp [intOf]; omega)
                     · have u0 : (0 : Int) < (t : Int) := by omega
                       have u1 : 0 < t := by omega
                       have hgp : gp = true := by rw [Z2.out]; simp [u1]
                       subst hgp
                       clear Z2
                       go_wp2
                       go_roundw
                       case rel => exact ⟨t + 1, by omega, by go_num, PTH.out, LTH.out⟩
                       case measure => simp [intOf]; omega
                   · have hte : c = t := by omega
                     have t1 : ¬ (t : Int) < (c : Int) := by omega
                     subst hte
                     have s7 := clskip (G : Int) LT
                     rw [D5.out] at s7
                     have S7 := Hid.intro s7
                     clear s7 LT PT hlt ht PTH LTH
                     go_wp2_with fail
                     refine S7.out.mono ?_
                     rintro e w8 ⟨rfl, L8⟩
                     have O8 := B3H.out.trans (L8.out (B := w.heap.size) B3H.out.size (fun k hk => .inl (Nat.lt_of_lt_of_le hk B1H.out.size)))
                     clear L8 S7
                     go_wp2
                     go_ret
                     exact ⟨rfl, O8⟩)

theorem walk (k n s g m : Int) (a : Option Addr) (len cap : Nat) (zs : List Int) (f : Bool) (w : World) (_ : (Lit.int .i64 k).wf = true ∧ (Lit.int .i64 n).wf = true ∧ (Lit.int .i64 s).wf = true) (_ : (Lit.int .i64 g).wf = true) (hm : (Lit.int .u8 m).wf = true) (hz : IsRow .u8 w a len cap zs) (_ : True) :
    Calls Try.prog 5 #[.agg #[.int .i64 k, .int .i64 n, .int .i64 s], .int .i64 g, .int .u8 m, .slice a len cap, .bool f] w fun e w' => e = .returned (.bool true) ∧ Below w.heap.size w w' := by
  rcases hnew : (mayC k n s && isG g) with _ | _
  · exact walk_nil k n s g m a len cap f w hnew
  · have hnew2 := hnew
    rw [Bool.and_eq_true] at hnew2
    obtain ⟨q1, q2, q3, q4, q5, q6⟩ := mayC_true hnew2.1
    obtain ⟨hg1, hg2⟩ := isG_true hnew2.2
    obtain ⟨K, rfl⟩ := Int.eq_ofNat_of_zero_le (show 0 ≤ k by omega)
    obtain ⟨N, rfl⟩ := Int.eq_ofNat_of_zero_le (show 0 ≤ n by omega)
    obtain ⟨S, rfl⟩ := Int.eq_ofNat_of_zero_le (show 0 ≤ s by omega)
    obtain ⟨G, rfl⟩ := Int.eq_ofNat_of_zero_le hg1
    have hmb := bounds_u8 hm
    obtain ⟨M, rfl⟩ := Int.eq_ofNat_of_zero_le hmb.1
    by_cases h : 200 < len
    · exact walk_far K N S G M a len cap f w hnew hz.len h
    · obtain ⟨bs, rfl, h1, h2⟩ := hz.bytes
      exact walk_near K N S G hnew M (by omega) a cap bs f w (by omega) hz.room h1 h2

set_option maxRecDepth 100000 in
theorem lifted (os : Os) (started : os.Started) (H : Type) (enc : TypeId × Value → H) :
    ReturnsInHanded {} Try.checked os 5 .any (Rows.collectGapsSpec.pre6 enc Try.prog Try.f5 Rows.collectGapsRow.domain false) (Rows.collectGapsSpec.post enc Try.prog Try.f5 false true false false) := by
  refine returnsInHanded_of_change (C := Try.checked) own started (by kernel_rfl) Try.func5
    (ChangeSpec.witness6 (enc := enc) (C := Try.checked) false ⟨#[], #[.agg #[.int .i64 0, .int .i64 0, .int .i64 0], .int .i64 0, .int .u8 0, .slice none 0 0, .bool false], []⟩ 8 (by kernel_rfl) (by kernel_rfl) (by kernel_rfl) (by kernel_rfl)) ?_
  intro W base args ds gs before hval0 hW hcnd _
  have hval : ∀ (j : Nat) t v, Try.f5.params[j]? = some t → args[j]? = some v → Value.okWide Try.prog W .any base t v := hval0
  have hW' := hW
  obtain ⟨p, q, hA0, hV, rfl, hfz, hnd⟩ := hW
  have hA : DataW.TrodAll enc Try.prog W 0 (fun _ => true) true Try.f5.params.toList args.toList ds p := hA0
  rw [Try.params5] at hA hval
  obtain ⟨v0, vs0, d0, ds0, p0, q0, hargs, rfl, rfl, h0, r0⟩ := trodAll_cons hA
  obtain ⟨v1, vs1, d1, ds1, p1, q1, rfl, rfl, rfl, h1, r1⟩ := trodAll_cons r0
  obtain ⟨v2, vs2, d2, ds2, p2, q2, rfl, rfl, rfl, h2, r2⟩ := trodAll_cons r1
  obtain ⟨v3, vs3, d3, ds3, p3, q3, rfl, rfl, rfl, h3, r3⟩ := trodAll_cons r2
  obtain ⟨v4, vs4, d4, ds4, p4, q4, rfl, rfl, rfl, h4, r4⟩ := trodAll_cons r3
  obtain ⟨rfl, rfl, rfl⟩ := trodAll_nil r4
  obtain rfl : args = #[v0, v1, v2, v3, v4] := by cases args; simp_all
  obtain ⟨rfl, rfl⟩ := trodVars_none hV
  have k0 := h0
  have lt0 : ∀ x ∈ p0, x.block < W.heap.size := by obtain ⟨m, hm⟩ := k0; exact DataW.trod_lt m _ _ _ hm
  obtain ⟨kc0, nc0, sc0, rfl, w0⟩ := open_code (hval 0 23 v0 rfl rfl) h0
  obtain ⟨a1, rfl, rfl, rfl, w1⟩ := open_int Try.underlying3 (hval 1 3 v1 rfl rfl) h1
  obtain ⟨a2, rfl, rfl, rfl, w2⟩ := open_int Try.underlying5 (hval 2 5 v2 rfl rfl) h2
  obtain ⟨a3, len3, cap3, rfl⟩ := okWide_slice Try.underlying39 (hval 3 39 v3 rfl rfl)
  have k3 := h3
  have lt3 : ∀ x ∈ p3, x.block < W.heap.size := by obtain ⟨m, hm⟩ := k3; exact DataW.trod_lt m _ _ _ hm
  obtain ⟨z3, w3⟩ : ∃ zs, IsRow .u8 W a3 len3 cap3 zs := by
    obtain ⟨fuel, hf⟩ := h3
    rcases open_ints Try.underlying39 Try.underlying5 (by kernel_rfl) hf with ⟨hcs, _⟩ | ⟨x, l, c, zs, hcs, _, hl, hm, hz, _, hcell, hwz⟩
    · simp [Value.cells] at hcs
      obtain ⟨rfl, rfl, rfl⟩ := hcs
      exact ⟨[], .inl ⟨rfl, rfl, rfl, rfl⟩⟩
    · simp [Value.cells] at hcs
      obtain ⟨rfl, rfl, rfl⟩ := hcs
      exact ⟨zs, .inr ⟨_, rfl, hl, hm, by simpa using hz, hcell, hwz⟩⟩
  obtain ⟨a4, rfl, rfl, rfl⟩ := open_bool Try.underlying4 (hval 4 4 v4 rfl rfl) h4
  have w4 : True := trivial
  clear hA0 hval0
  refine (walk kc0 nc0 sc0 a1 a2 a3 len3 cap3 z3 a4 W w0 w1 w2 w3 w4).mono fun e W' ⟨he, bel⟩ => ?_
  subst he
  exact ⟨_, rfl, _, _, _, [], _, [], hW', trodAll_mk1 (shut_bool Try.underlying4 _), (trodAll_cons_mk (Below.trod laidOut (by kernel_rfl) (of_decide_eq_true (by kernel_rfl)) k0 bel lt0) (trodAll_cons_mk (shut_int Try.underlying3 w1) (trodAll_cons_mk (shut_int Try.underlying5 w2) (trodAll_cons_mk (Below.trod laidOut (by kernel_rfl) (of_decide_eq_true (by kernel_rfl)) k3 bel lt3) (trodAll_cons_mk (shut_bool Try.underlying4 _) trodAll_mk0))))), rfl, bel.frame _, fun h => by cases h⟩

theorem over : Rows.collectGapsRow.holds Try.pinned (OpenSpec.ofChange Rows.collectGapsSpec) :=
  OpenClaim.holds_of_wide 5 Try.f5 rfl rfl rfl rfl rfl rfl rfl ⟨rfl, rfl, rfl, rfl, rfl⟩ rfl rfl rfl rfl rfl (by kernel_rfl) Try.func5 (by kernel_rfl)
    (of_decide_eq_true (by kernel_rfl)) (by unfold Func.isWrapper; first | (rw [if_pos (by decide +kernel)]; kernel_rfl) | (rw [if_neg (by decide +kernel)]; exact ⟨rfl, rfl⟩))
    (fun os started H enc _ => lifted os started H enc)

end Go.Proofs.Ytceekoifljeddaa.LCollectGaps

namespace Go.Proofs.Ytceekoifljeddaa
theorem collectGaps_holds : Rows.CollectGapsSaid := LCollectGaps.over
#print axioms collectGaps_holds
end Go.Proofs.Ytceekoifljeddaa
