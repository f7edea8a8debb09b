/- The statement CollectApart: open groups whose shards come mixed have each their own text, in their order. -/
import Derived.Test.YtceekoifljeddaaCoAlive
import Derived.Test.YtceekoifljeddaaMPlain
import Derived.Test.YtceekoifljeddaaRowsArg
import Derived.Test.YtceekoifljeddaaMRs
import Derived.Test.YtceekoifljeddaaRefSame
import Derived.Deep.RegionHeld3
namespace Go.Proofs.Ytceekoifljeddaa
open Go.ChangeShapes Go.WideShapes Go.ChangeAt Go.RowKit Go.Joins
open Bt

namespace LCollectApart

theorem zero_shards : ∃ Z : Array Value, (∀ x, x < 4 → Z[x]? = some (.slice none 0 0)) ∧ ∀ w : World, Sem.run Try.prog (zeroValue 58) w = .ok (.agg Z) w :=
  ⟨Array.replicate 4 (.slice none 0 0), fun x hx => by simp [hx], fun w => by kernel_rfl⟩

/-- The rows of four texts. -/
abbrev R4 (K S : Nat) (T : List (List Nat)) : Nat → Nat → List Nat := fun i r => shL K S (T.getD i []) S r

/-- The shards of the first texts, in memory from B on. -/
def Sh4 (B : Nat) (w : World) (sb : Nat) (K N S : Nat) (T : List (List Nat)) (t : Nat) : Prop :=
  (∀ i, i < 4 → ∃ v, w.cell? ⟨sb, i, none⟩ = some v ∧ w.frozen? ⟨sb, i, none⟩ = false) ∧
  ∀ i, i < t → ∃ mb off mc A C, w.cell? ⟨sb, i, none⟩ = some (.slice (some ⟨mb, off, none⟩) N mc) ∧ ShsAt B w mb off A C (encL K N S (T.getD i [])) ∧ (T.getD i []).length = K * S

theorem shsAt_mono {B B' : Nat} {w : World} {mb off : Nat} {A : Nat → Option Addr} {C : Nat → Nat} {L : List (List Nat)} (h : ShsAt B w mb off A C L) (hB : B' ≤ B) : ShsAt B' w mb off A C L :=
  ⟨h.cell, h.frozen, h.row, h.cap, h.lenCap, Nat.le_trans hB h.newTop, h.ltTop, fun r ad hr ha => ⟨Nat.le_trans hB (h.newRow r ad hr ha).1, (h.newRow r ad hr ha).2⟩⟩

theorem Sh4.below {B : Nat} {w w' : World} {sb K N S : Nat} {T : List (List Nat)} {t : Nat} (h : Sh4 B w sb K N S T t) (hb : Below w.heap.size w w') : Sh4 B w' sb K N S T t := by
  refine ⟨fun i hi => ?_, fun i hi => ?_⟩
  · obtain ⟨v, h1, h2⟩ := h.1 i hi
    exact ⟨v, cellK hb h1, (frozen_block (a := ⟨sb, i, none⟩) (hb.block _ (cell_lt h1))).trans h2⟩
  · obtain ⟨mb, off, mc, A, C, h1, h2, h3⟩ := h.2 i hi
    exact ⟨mb, off, mc, A, C, cellK hb h1, h2.below hb, h3⟩

/-- One more text's. -/
theorem Sh4.put {B : Nat} {w : World} {sb K N S : Nat} {T : List (List Nat)} {t : Nat} (h : Sh4 B w sb K N S T t) (ht : t < 4) (hB : sb < B) {mb off mc : Nat} {A : Nat → Option Addr} {C : Nat → Nat} (hs : ShsAt B w mb off A C (encL K N S (T.getD t []))) (hl : (T.getD t []).length = K * S) :
    Sh4 B (w.setCell ⟨sb, t, none⟩ (.slice (some ⟨mb, off, none⟩) N mc)) sb K N S T (t + 1) := by
  have hc : Chg (fun k => k = sb) w (w.setCell ⟨sb, t, none⟩ (.slice (some ⟨mb, off, none⟩) N mc)) := Chg.setCell (S := fun k => k = sb) (p := ⟨sb, t, none⟩) (Chg.refl _ w) (fun _ => rfl) _
  refine ⟨fun i hi => ?_, fun i hi => ?_⟩
  · obtain ⟨v, h1, h2⟩ := h.1 i hi
    by_cases e : i = t
    · subst e
      exact ⟨_, World.cell?_setCell_same' _ _ _ (by rw [h1]; rfl), by rw [World.frozen?_setCell]; exact h2⟩
    · exact ⟨v, by rw [World.cell?_setCell_other _ _ _ _ (fun q => e (by have := congrArg Addr.off q; simpa using this.symm))]; exact h1, by rw [World.frozen?_setCell]; exact h2⟩
  · by_cases e : i = t
    · subst e
      obtain ⟨v, h1, _⟩ := h.1 i ht
      exact ⟨mb, off, mc, A, C, World.cell?_setCell_same' _ _ _ (by rw [h1]; rfl), hs.kept (S := fun k => k = sb) hc (fun r _ => by rw [World.frozen?_setCell]) (fun e => by have := hs.newTop; omega) (fun r ad hr ha e => by have := (hs.newRow r ad hr ha).1; omega), hl⟩
    · obtain ⟨mb', off', mc', A', C', h1, h2, h3⟩ := h.2 i (by omega)
      exact ⟨mb', off', mc', A', C', by rw [World.cell?_setCell_other _ _ _ _ (fun q => e (by have := congrArg Addr.off q; simpa using this.symm))]; exact h1, h2.kept (S := fun k => k = sb) hc (fun r _ => by rw [World.frozen?_setCell]) (fun e => by have := h2.newTop; omega) (fun r ad hr ha e => by have := (h2.newRow r ad hr ha).1; omega), h3⟩

/-- All that is due, of groups that are whole. -/
theorem due_four {K N S G : Nat} {T : List (List Nat)} {H : Nat → Nat → Bool} {x : Col} (hmay : mayC K N S = true) (hG : G < 256) (hT : ∀ i, i < 4 → (T.getD i []).length = K * S) (hB : BytL T) (hH : ∀ i, i < 4 → ∀ r, r < N → H i r = true) (h : Held K N S G (R4 K S T) H (fun _ => false) x) :
    (dueP x).length = 4 ∧ ∀ t, (ht : t < (dueP x).length) → (dueP x)[t] = ⟨(G + t) % 256, false, T.getD t []⟩ := by
  obtain ⟨q1, q2, q3, q4, q5, q6⟩ := mayC_true hmay
  have hR : ∀ i r, i < 4 → r < N → 0 < (R4 K S T i r).length := fun i r _ _ => by rw [shL_length]; omega
  have hb : x.base < 256 := by rw [h.base]; exact hG
  have hc : ∀ i, i < 4 → cntH N (H i) = N := fun i hi => cntH_all (fun r hr => hH i hi r hr)
  have hrd : ∀ i, i < 4 → rdy x i = true := fun i hi => by
    rw [h.rdy hR hi, hc i hi]; simp; omega
  have hdm : dueM 4 x = 4 := dueM_of (Nat.le_refl _) hrd (fun q => absurd q (by omega))
  have hP := dueP_of hb hdm
  have hlen : (dueP x).length = 4 := by rw [hP]; rfl
  refine ⟨hlen, fun t ht => ?_⟩
  have ht4 : t < 4 := by omega
  have e : (dueP x)[t] = prtAt x t := by simp [hP]
  rw [e]
  unfold prtAt
  rw [h.k, h.s, h.base, h.rows t ht4, cnt_rowsH (fun r hr => hR t r ht4 hr), hc t ht4, if_pos (by omega)]
  congr 1
  exact decT_rowsH hmay (getD_bytL hB t) (hT t ht4) (by rw [hc t ht4]; omega)

/-- A shard of one of the texts is handed to the collector. -/
theorem give {K N S G : Nat} {T : List (List Nat)} {H : Nat → Nat → Bool} {x : Col} {w1s sb b : Nat} {wL wr : World} (hmay : mayC K N S = true) (hG : G < 256) (hY : BytL T) (hSh : Sh4 (sb + 1) wL sb K N S T 4) (hw : sb < wL.heap.size)
    (LX : CL (fun k => k < w1s ∨ (sb ≤ k ∧ k < wL.heap.size)) wL wr b x) (HX : Held K N S G (R4 K S T) H (fun _ => false) x) {i k : Nat} (hi : i < 4) (hk : k < N) :
    ∃ mb off mc ak ck, wr.cell? ⟨sb, i, none⟩ = some (.slice (some ⟨mb, off, none⟩) N mc) ∧ wr.cell? ⟨mb, off + k, none⟩ = some (.slice ak S ck) ∧ ∃ y : Col, Held K N S G (R4 K S T) (fun j r => (decide (j = i) && decide (r = k)) || H j r) (fun _ => false) y ∧
      ∀ W, Below wr.heap.size wr W → Calls Try.prog 13 #[.pointer (some ⟨b, 0, none⟩), .int .i64 (((G + i) % 256 : Nat) : Int), .int .i64 (k : Int), .slice ak S ck] W fun e w' => (∃ v, e = .returned (.int .i64 v)) ∧ CL (fun k => k < w1s ∨ (sb ≤ k ∧ k < wL.heap.size)) wL w' b y := by
  obtain ⟨q1, q2, q3, q4, q5, q6⟩ := mayC_true hmay
  obtain ⟨mb, off, mc, A, C, c1, S3, hl⟩ := hSh.2 i hi
  have hrow : (encL K N S (T.getD i [])).getD k [] = shL K S (T.getD i []) S k := encL_getD hk
  have hkl : k < (encL K N S (T.getD i [])).length := by rw [encL_length]; exact hk
  have cr := LX.cell (S3.cell k hkl) (.inr ⟨Nat.le_of_succ_le S3.newTop, S3.ltTop⟩)
  have rr := S3.row k hkl
  have rcap := S3.cap k hkl
  have rlen := S3.lenCap k hkl
  rw [hrow, shL_length] at cr
  rw [hrow] at rr rlen
  have sb' := shL_byt (S := S) (show K ≤ 256 by omega) (getD_bytL hY i) (i := k) (show k < 256 by omega) S
  have sl := shL_length K S (T.getD i []) S k
  have hFF : ∀ ad, A k = some ad → (ad.block < w1s ∨ (sb ≤ ad.block ∧ ad.block < wL.heap.size)) := fun ad ha => .inr ⟨Nat.le_of_succ_le (S3.newRow k ad hkl ha).1, reads_lt (by rw [← ha]; exact rr) (by rw [sl]; omega)⟩
  have SH := HX.shard hG (i := i) (k := k) hi hk (by omega) sl
  refine ⟨mb, off, mc, A k, C k, LX.cell c1 (.inr ⟨Nat.le_refl _, hw⟩), cr, _, SH.2, fun W hW => ?_⟩
  have HS := clshard (((G + i) % 256 : Nat) : Int) (k : Int) (A k) (C k) (shL K S (T.getD i []) S k) sb' ⟨rcap, rlen⟩ (LX.below hW) ((LX.reads rr hFF).below hW) (fun _ => hFF)
  rw [sl] at HS
  refine HS.mono ?_
  rintro e w' ⟨rfl, h⟩
  exact ⟨⟨_, rfl⟩, h⟩

theorem walk_nil (k n s g : Int) (a : Option Addr) (len cap : Nat) (o : Option Addr) (len' cap' : Nat) (w : World) (h : (mayC k n s && isG g) = false) :
    Calls Try.prog 7 #[Cd k n s, .int .i64 g, .slice a len cap, .slice o len' cap'] w fun e w' => e = .returned (.bool true) ∧ Below w.heap.size w w' := by
  have b0 := Hid.intro (heap_alloc_new w (.cells #[.int .i64 k, .int .i64 n, .int .i64 s] 23))
  have B0 := Hid.intro ((Below.refl _ w).alloc (Nat.le_refl _) (.cells #[.int .i64 k, .int .i64 n, .int .i64 s] 23))
  go_enter Try.func7, Try.ntmps7
  go_wp2_with fail
  refine (alive_any _).mono ?_
  rintro e w1 ⟨rfl, B1⟩
  have b1 := (B1.block _ (lt_of_heap b0.out)).trans b0.out
  have B1H := Hid.intro (B0.out.trans (B1.mono B0.out.size))
  obtain ⟨c0, c1, c2⟩ := cd_cells b1
  clear b1 B1
  go_wp2_with fail
  refine (cnew_no k n s g h w1).mono ?_
  rintro e w2 ⟨rfl, B2⟩
  have B2w := B1H.out.trans (B2.mono B1H.out.size)
  clear c0 c1 c2 B2
  go_wp2
  go_ret
  exact ⟨rfl, B2w⟩

theorem walk_far (K N S G : Nat) (a : Option Addr) (len cap : Nat) (o : Option Addr) (len' cap' : Nat) (w : World) (hnew : (mayC K N S && isG G) = true) (hlen : len ≤ maxLen) (hlen' : len' ≤ maxLen) (h : len ≠ 4 ∨ 60 < len') :
    Calls Try.prog 7 #[Cd K N S, .int .i64 (G : Int), .slice a len cap, .slice o len' cap'] w fun e w' => e = .returned (.bool true) ∧ Below w.heap.size w w' := by
  unfold maxLen at hlen hlen'
  have b0 := Hid.intro (heap_alloc_new w (.cells #[.int .i64 (K : Int), .int .i64 (N : Int), .int .i64 (S : Int)] 23))
  have B0 := Hid.intro ((Below.refl _ w).alloc (Nat.le_refl _) (.cells #[.int .i64 (K : Int), .int .i64 (N : Int), .int .i64 (S : Int)] 23))
  by_cases h4 : len = 4
  · subst h4
    have j : decide ((60 : Int) < (len' : Int)) = true := by simp; omega
    go_enter Try.func7, Try.ntmps7
    go_wp2_with fail
    refine (alive_any _).mono ?_
    rintro e w1 ⟨rfl, B1⟩
    have b1 := (B1.block _ (lt_of_heap b0.out)).trans b0.out
    have B1H := Hid.intro (B0.out.trans (B1.mono B0.out.size))
    obtain ⟨c0, c1, c2⟩ := cd_cells b1
    clear b1 B1
    go_wp2_with fail
    refine (cnew_yes K N S G hnew w1).mono ?_
    rintro e w2 ⟨b, F, rfl, _, _, B2⟩
    have B2w := B1H.out.trans (B2.mono B1H.out.size)
    clear c0 c1 c2 B2
    go_wp2
    go_ret
    exact ⟨rfl, B2w⟩
  · have j : ((len : Int) != 4) = true := by rw [bne_iff_ne]; omega
    go_enter Try.func7, Try.ntmps7
    go_wp2_with fail
    refine (alive_any _).mono ?_
    rintro e w1 ⟨rfl, B1⟩
    have b1 := (B1.block _ (lt_of_heap b0.out)).trans b0.out
    have B1H := Hid.intro (B0.out.trans (B1.mono B0.out.size))
    obtain ⟨c0, c1, c2⟩ := cd_cells b1
    clear b1 B1
    go_wp2_with fail
    refine (cnew_yes K N S G hnew w1).mono ?_
    rintro e w2 ⟨b, F, rfl, _, _, B2⟩
    have B2w := B1H.out.trans (B2.mono B1H.out.size)
    clear c0 c1 c2 B2
    go_wp2
    go_ret
    exact ⟨rfl, B2w⟩

set_option maxRecDepth 100000 in
set_option maxHeartbeats 4000000 in
theorem walk_near (K N S G : Nat) (hnew : (mayC K N S && isG G) = true) (a : Option Addr) (cap : Nat) (T : List (List Nat)) (hT4 : T.length = 4) (o : Option Addr) (cap' : Nat) (os : List Nat) (w : World) (h3 : os.length ≤ 60) (hY : BytL T) (hr : ReadsR w a T) (hO : Byt os) (hr' : Reads w o os) :
    Calls Try.prog 7 #[Cd K N S, .int .i64 (G : Int), .slice a 4 cap, .slice o os.length cap'] w fun e w' => e = .returned (.bool true) ∧ Below w.heap.size w w' := by
  obtain ⟨Z, hZ, z58⟩ := zero_shards
  have HZ := Hid.intro hZ
  have hnew2 := hnew
  rw [Bool.and_eq_true] at hnew2
  have hmay := hnew2.1
  obtain ⟨m1, m2, m3, m4, m5, m6⟩ := mayC_true hmay
  have hG : G < 256 := by have := isG_true hnew2.2; omega
  have HMAY := Hid.intro hmay
  have HR := Hid.intro hr
  have HR' := Hid.intro hr'
  have HY := Hid.intro hY
  have HO := Hid.intro hO
  have HT4 := Hid.intro hT4
  have NW := Hid.intro (fun w => cnew_yes K N S G hnew w)
  have b0 := Hid.intro (heap_alloc_new w (.cells #[.int .i64 (K : Int), .int .i64 (N : Int), .int .i64 (S : Int)] 23))
  have B0 := Hid.intro ((Below.refl _ w).alloc (Nat.le_refl _) (.cells #[.int .i64 (K : Int), .int .i64 (N : Int), .int .i64 (S : Int)] 23))
  have j2 : decide ((60 : Int) < (os.length : Int)) = false := by simp; omega
  clear hr hr' hY hO hmay hnew hnew2 hZ hT4
  go_enter Try.func7, Try.ntmps7
  go_wp2_with fail
  refine (alive_any _).mono ?_
  rintro e w1 ⟨rfl, B1⟩
  have b1 := (B1.block _ (lt_of_heap b0.out)).trans b0.out
  have B1H := Hid.intro (B0.out.trans (B1.mono B0.out.size))
  have b1H := Hid.intro b1
  obtain ⟨c0, c1, c2⟩ := cd_cells b1
  clear b1 B1 B0 b0
  go_wp2_with fail
  refine (NW.out w1).mono ?_
  rintro e w2 ⟨b, F, rfl, hC, hF, B2⟩
  have L2 := Hid.intro (cl_new hC hF B2)
  have b2 := (B2.block _ (lt_of_heap b1H.out)).trans b1H.out
  have B2H := Hid.intro (B1H.out.trans (B2.mono B1H.out.size))
  have b2H := Hid.intro b2
  have W12 := Hid.intro B2.size
  have S4 : Sh4 (w2.heap.size + 1) (w2.alloc (.cells Z 58)) w2.heap.size K N S T 0 := ⟨fun i hi => ⟨_, by rw [cell_of_row _ _ _ _ _ _ (heap_alloc_new w2 _)]; exact HZ.out i hi, frozen_of_row _ _ _ _ _ (heap_alloc_new w2 _)⟩, fun i hi => absurd hi (Nat.not_lt_zero _)⟩
  have S4H := Hid.intro S4
  have BA := Hid.intro ((Below.refl _ w2).alloc (Nat.le_refl _) (.cells Z 58))
  have W2L : Hid (w2.heap.size < (w2.alloc (.cells Z 58)).heap.size) := by show _ < _; simp
  clear c0 c1 c2 b2 B2 hC hF NW S4
  go_wp2_with fail
  clear z58
  go_loopw [11] (fun i wr => ∃ t : Nat, t ≤ 4 ∧ i = .int .i64 t ∧ Sh4 (w2.heap.size + 1) wr w2.heap.size K N S T t ∧ w2.heap.size < wr.heap.size ∧ Below w2.heap.size w2 wr) (fun i _ => 4 - (intOf i).toNat)
  case atStart => exact ⟨0, by omega, rfl, S4H.out, W2L.out, BA.out⟩
  case round =>
    clear S4H BA W2L
    obtain ⟨t, ht, rfl, ST, WT, BT⟩ := hrel
    have STH := Hid.intro ST
    have WTH := Hid.intro WT
    have BTH := Hid.intro BT
    have bt := (BT.block _ (lt_of_heap b2H.out)).trans b2H.out
    obtain ⟨c0, c1, c2⟩ := cd_cells bt
    clear ST WT BT
    by_cases hlt : t < 4
    · have t1 : (t : Int) < 4 := by omega
      have t0 : (0 : Int) ≤ (t : Int) := by omega
      have htl : t < T.length := by rw [HT4.out]; exact hlt
      obtain ⟨tb, to, rfl, hrow⟩ := HR.out (by omega)
      obtain ⟨ta, tc, q1, q2, q3⟩ := hrow t htl
      have ct := cellK BTH.out (cellK B2H.out q1)
      have hb := getD_bytL HY.out t
      have HE := rencode_all K N S ta tc (T.getD t []) hb wr.drew (show Reads wr.drew ta _ from (q2.below B2H.out).below BTH.out.drew) q3
      have HEA : Hid (encE K N S (T.getD t []).length = 0 → encA K N S (T.getD t []) = encL K N S (T.getD t []) ∧ (T.getD t []).length = K * S) := fun h => by
        refine ⟨by unfold encA; rw [h, if_pos rfl]; rfl, ?_⟩
        have := (encE_ok h).2
        rw [← Int.natCast_mul] at this
        omega
      obtain ⟨L, hL⟩ : ∃ L, L = (T.getD t []).length := ⟨_, rfl⟩
      obtain ⟨E, hE⟩ : ∃ E, E = encE K N S (T.getD t []).length := ⟨_, rfl⟩
      rw [← hE] at HE HEA
      rw [← hL] at ct HE
      have HL := Hid.intro hL
      have HEH := Hid.intro HE
      clear hL hE HE bt q1 q2 q3 hrow htl hb
      go_wp2_with fail
      go_region_held3 (fun w' => w'.cell? ⟨w.heap.size, 0, none⟩ = some (.int .i64 (K : Int)) ∧ w'.cell? ⟨w.heap.size, 1, none⟩ = some (.int .i64 (N : Int)) ∧ w'.cell? ⟨w.heap.size, 2, none⟩ = some (.int .i64 (S : Int)) ∧ w'.cell? ⟨tb, to + t, none⟩ = some (.slice ta L tc))
        (first | exact ⟨cellK E4 c0, cellK E4 c1, cellK E4 c2, cellK E4 ct⟩ | go_keep)
        ((go_at_call 26; refine HEH.out.mono ?_; rintro e w4 ⟨v4, rfl, S4, B4⟩; have E4 : Below wr.heap.size wr w4 := undrewK B4 rfl))
      all_goals
        have B4w := BTH.out.trans (E4.mono BTH.out.size)
        have ct4 := cellK E4 ct
        have ST4 := Hid.intro (STH.out.below E4)
        have B4H := Hid.intro B4w
        have W4 := Hid.intro (Nat.lt_of_lt_of_le WTH.out E4.size)
        have S4B : Hid (Shs (w2.heap.size + 1) w4 v4 (encA K N S (T.getD t []))) := by
          show Shs _ _ _ _
          rcases S4 with q | ⟨mb, off, mc, A, C, e, q⟩
          · exact .inl q
          · exact .inr ⟨mb, off, mc, A, C, e, shsAt_mono q WTH.out⟩
        clear B4w B4 E4 S4 ct c0 c1 c2 HEH STH
        by_cases hE0 : E = 0
        · obtain ⟨eA, hl⟩ := HEA.out hE0
          have S5 := S4B.out
          rw [eA] at S5
          rcases S5 with ⟨q, _⟩ | ⟨mb, off, mc, A, C, rfl, S5⟩
          · exfalso; have := encL_length K N S (T.getD t []); rw [q] at this; simp at this; omega
          subst hE0
          have hLb : L ≤ 144 := by
            rw [HL.out, hl]
            calc K * S ≤ 6 * S := Nat.mul_le_mul_right _ (by omega)
              _ ≤ 6 * 24 := Nat.mul_le_mul_left _ (by omega)
          have j3 : decide ((200 : Int) < (L : Int)) = false := by simp; omega
          have P5 := ST4.out.put hlt (Nat.lt_succ_self _) (mc := mc) S5 hl
          obtain ⟨v5, x5, f5⟩ := ST4.out.1 t hlt
          have B5 := B4H.out.setCell (p := ⟨w2.heap.size, t, none⟩) (Nat.le_refl _) (.slice (some ⟨mb, off, none⟩) N mc)
          have P5H := Hid.intro P5
          have B5H := Hid.intro B5
          rw [encL_length]
          clear P5 B5 S5 S4B ST4 eA hl HEA
          go_wp2
          go_roundw
          case rel => exact ⟨t + 1, by omega, by go_num, P5H.out, by simpa using W4.out, B5H.out⟩
          case measure => simp [intOf]; omega
        · have j3 : (E != 0) = true := by rw [bne_iff_ne]; exact hE0
          have BW := B2H.out.trans (B4H.out.mono B2H.out.size)
          clear S4B ST4 HEA
          go_wp2
          go_ret
          exact ⟨rfl, BW⟩
    · have hte : 4 = t := by omega
      subst hte
      have t1 : ¬ ((4 : Nat) : Int) < 4 := by omega
      have L4 := L2.out.grow BTH.out
      have L4H := Hid.intro L4
      have HTT : Hid (∀ i, i < 4 → (T.getD i []).length = K * S) := fun i hi => (STH.out.2 i hi).choose_spec.choose_spec.choose_spec.choose_spec.choose_spec.2.2
      have bH := Hid.intro bt
      -- what is held from here on
      have FF : Hid (∀ k, k < wr.heap.size → (k < w1.heap.size ∨ (w2.heap.size ≤ k ∧ k < wr.heap.size)) ∨ (w1.heap.size ≤ k ∧ k < w2.heap.size)) := fun k hk => by omega
      clear L4 bt hlt ht L2 c0 c1 c2 FF
      rename World => wL
      go_wp2_with fail
      go_loopw [14] (fun i wr => ∃ (t : Nat) (H : Nat → Nat → Bool) (x : Col), t ≤ os.length ∧ i = .int .i64 t ∧ CL (fun k => k < w1.heap.size ∨ (w2.heap.size ≤ k ∧ k < wL.heap.size)) wL wr b x ∧ Held K N S G (R4 K S T) H (fun _ => false) x) (fun i _ => os.length - (intOf i).toNat)
      case atStart => exact ⟨0, _, _, by omega, rfl, L4H.out, held_new K N S G (R4 K S T)⟩
      case round =>
        clear L4H
        obtain ⟨t, H, x, ht, rfl, LX, HX⟩ := hrel
        have LXH := Hid.intro LX
        have HXH := Hid.intro HX
        have bt := (LX.block (.inl (lt_of_heap b1H.out))).trans bH.out
        obtain ⟨c0, c1, c2⟩ := cd_cells bt
        clear LX HX bt
        by_cases hlt : t < os.length
        · obtain ⟨ob, oo, rfl, hc⟩ := reads_at HR'.out (by omega)
          have cx0 := hc t hlt
          have cx := LXH.out.cell (cellK BTH.out (cellK B2H.out cx0)) (.inl (Nat.lt_of_lt_of_le (cell_lt cx0) B1H.out.size))
          have t0 : (0 : Int) ≤ (t : Int) := by omega
          have t1 : (t : Int) < (os.length : Int) := by omega
          have hy := HO.out os[t] (List.getElem_mem hlt)
          obtain ⟨i, hi⟩ : ∃ i, i = os[t] % 4 := ⟨_, rfl⟩
          obtain ⟨d, hd⟩ : ∃ d, d = os[t] / 4 := ⟨_, rfl⟩
          obtain ⟨k, hk⟩ : ∃ k, k = d % N := ⟨_, rfl⟩
          have hi4 : i < 4 := by omega
          have hkN : k < N := by rw [hk]; exact Nat.mod_lt _ (by omega)
          have him : (os[t] : Int) % 4 = (i : Int) := by omega
          have hdm : (os[t] : Int) / 4 = (d : Int) := by omega
          have hkm : (d : Int) % (N : Int) = (k : Int) := by rw [hk]; simp
          have hkt : (d : Int).tmod (N : Int) = (k : Int) := by rw [Int.tmod_eq_emod_of_nonneg (by omega)]; exact hkm
          have n0 : ¬ (N : Int) = 0 := by omega
          have n1 : ((N : Int) == 0) = false := by rw [beq_eq_false_iff_ne]; exact n0
          have i0 : (0 : Int) ≤ (i : Int) := by omega
          have i1 : (i : Int) < 4 := by omega
          have k0 : (0 : Int) ≤ (k : Int) := by omega
          have k1 : (k : Int) < (N : Int) := by omega
          obtain ⟨mb, off, mc, ak, ck, x1, x2, y, HYY, HG⟩ := give HMAY.out hG HY.out STH.out WTH.out LXH.out HXH.out hi4 hkN
          have hgm : ((G : Int) + (i : Int)) % 256 = (((G + i) % 256 : Nat) : Int) := by omega
          generalize (G + i) % 256 = g4 at hgm HG
          have HGH := Hid.intro HG
          have HYH := Hid.intro HYY
          clear HG HYY hc cx0 LXH HXH
          generalize os[t] = z at cx hy him hdm hi hd
          clear hi hd hk
          go_wp2_with fail
          go_quiet (fail)
          go_wp2_with fail
          refine (HGH.out _ (belowN (Below.refl _ wr) nq)).mono ?_
          rintro e w5 ⟨⟨v5, rfl⟩, L5⟩
          have L5H := Hid.intro L5
          clear L5 HGH x1 x2 cx c0 c1 c2 hgm hkt hdm him hkm
          go_wp2
          go_roundw
          case rel => exact ⟨t + 1, _, _, by omega, by go_num, L5H.out, HYH.out⟩
          case measure => simp [intOf]; omega
        · have hte : os.length = t := by omega
          have t1 : ¬ (t : Int) < (os.length : Int) := by omega
          have HTE := Hid.intro hte
          clear hte hlt ht c0 c1 c2
          rename World => wM
          go_wp2_with fail
          go_loopw [17] (fun i wr => ∃ (t : Nat) (H : Nat → Nat → Bool) (x : Col), t ≤ 4 ∧ i = .int .i64 t ∧ CL (fun k => k < w1.heap.size ∨ (w2.heap.size ≤ k ∧ k < wL.heap.size)) wL wr b x ∧ Held K N S G (R4 K S T) H (fun _ => false) x ∧ ∀ i, i < t → ∀ r, r < N → H i r = true) (fun i _ => 4 - (intOf i).toNat)
          case atStart => exact ⟨0, _, _, by omega, rfl, LXH.out, HXH.out, fun i hi => absurd hi (Nat.not_lt_zero _)⟩
          case round =>
            clear LXH HXH
            obtain ⟨g, H, x, hg4, rfl, LX, HX, hfull⟩ := hrel
            have LXH := Hid.intro LX
            have HXH := Hid.intro HX
            have HFU := Hid.intro hfull
            clear LX HX hfull
            by_cases hlt : g < 4
            · have g1 : (g : Int) < 4 := by omega
              have g0 : (0 : Int) ≤ (g : Int) := by omega
              rename World => wP
              go_wp2_with fail
              go_loopw [18] (fun i wr => ∃ (k : Nat) (H : Nat → Nat → Bool) (x : Col), k ≤ N ∧ i = .int .i64 k ∧ CL (fun k => k < w1.heap.size ∨ (w2.heap.size ≤ k ∧ k < wL.heap.size)) wL wr b x ∧ Held K N S G (R4 K S T) H (fun _ => false) x ∧ (∀ i, i < g → ∀ r, r < N → H i r = true) ∧ ∀ r, r < k → H g r = true) (fun i _ => N - (intOf i).toNat)
              case atStart => exact ⟨0, _, _, by omega, rfl, LXH.out, HXH.out, HFU.out, fun r hr => absurd hr (Nat.not_lt_zero _)⟩
              case round =>
                clear LXH HXH HFU
                obtain ⟨k, H, x, hkN, rfl, LX, HX, hfull, hpart⟩ := hrel
                have LXH := Hid.intro LX
                have HXH := Hid.intro HX
                have HFU := Hid.intro hfull
                have HPA := Hid.intro hpart
                have bt := (LX.block (.inl (lt_of_heap b1H.out))).trans bH.out
                obtain ⟨c0, c1, c2⟩ := cd_cells bt
                clear LX HX hfull hpart bt
                by_cases hkl : k < N
                · have k0 : (0 : Int) ≤ (k : Int) := by omega
                  have k1 : (k : Int) < (N : Int) := by omega
                  obtain ⟨mb, off, mc, ak, ck, x1, x2, y, HYY, HG⟩ := give HMAY.out hG HY.out STH.out WTH.out LXH.out HXH.out hlt hkl
                  have hgm : ((G : Int) + (g : Int)) % 256 = (((G + g) % 256 : Nat) : Int) := by omega
                  generalize (G + g) % 256 = g4 at hgm HG
                  have HGH := Hid.intro HG
                  have HYH := Hid.intro HYY
                  clear HG HYY LXH HXH
                  go_wp2_with fail
                  refine (HGH.out _ (Below.refl _ wr)).mono ?_
                  rintro e w5 ⟨⟨v5, rfl⟩, L5⟩
                  have L5H := Hid.intro L5
                  clear L5 HGH x1 x2 c0 c1 c2 hgm
                  go_wp2
                  go_roundw
                  case rel => exact ⟨k + 1, _, _, by omega, by go_num, L5H.out, HYH.out, (fun i hi r hr => by simp [HFU.out i hi r hr]), (fun r hr => by
                    by_cases e : r = k
                    · simp [e]
                    · simp [HPA.out r (by omega)])⟩
                  case measure => simp [intOf]; omega
                · have hke : N = k := by omega
                  have k1 : ¬ (k : Int) < (N : Int) := by omega
                  have HKE := Hid.intro hke
                  clear hke hkl hkN
                  go_wp2
                  go_roundw
                  case rel => exact ⟨g + 1, _, _, by omega, by go_num, LXH.out, HXH.out, (fun i hi r hr => by
                    by_cases e : i = g
                    · subst e; exact HPA.out r (by rw [← HKE.out]; exact hr)
                    · exact HFU.out i (by omega) r hr)⟩
                  case measure => simp [intOf]; omega
            · have hge : 4 = g := by omega
              subst hge
              have g1 : ¬ ((4 : Nat) : Int) < 4 := by omega
              obtain ⟨d1, d2⟩ := due_four HMAY.out hG HTT.out HY.out HFU.out HXH.out
              have HD := cldue LXH.out
              generalize dueP x = ps at d1 d2 HD
              have HDH := Hid.intro HD
              have D1 := Hid.intro d1
              have D2 := Hid.intro d2
              clear HD d1 d2 hlt hg4
              rename World => wQ
              go_wp2_with fail
              refine HDH.out.mono ?_
              rintro e w4 ⟨v4, rfl, ⟨a4, c4, rfl, P4⟩, L4⟩
              rw [D1.out]
              obtain ⟨B0, hB0⟩ : ∃ B0, B0 = wQ.heap.size := ⟨_, rfl⟩
              have P4H : Hid (PartsAt B0 w4 (.slice a4 ps.length c4) ps) := by rw [hB0]; exact ⟨a4, c4, rfl, P4⟩
              have L4H := Hid.intro L4
              clear HDH P4 L4 hB0
              go_wp2_with fail
              go_loopw [20] (fun i wr => ∃ t : Nat, t ≤ 4 ∧ i = .int .i64 t ∧ PartsAt B0 wr (.slice a4 ps.length c4) ps ∧ Below w4.heap.size w4 wr) (fun i _ => 4 - (intOf i).toNat)
              case atStart => exact ⟨0, by omega, rfl, P4H.out, Below.refl _ _⟩
              case round =>
                clear P4H
                obtain ⟨t, ht, rfl, PT, BT4⟩ := hrel
                have PTH := Hid.intro PT
                have BTH4 := Hid.intro BT4
                by_cases hlt : t < 4
                · have t1 : (t : Int) < 4 := by omega
                  have t0 : (0 : Int) ≤ (t : Int) := by omega
                  obtain ⟨ao, cp, e4, hp⟩ := PT
                  obtain ⟨rfl, rfl⟩ : a4 = ao ∧ c4 = cp := by simpa using e4
                  have htp : t < ps.length := by rw [D1.out]; exact hlt
                  obtain ⟨pb, po, rfl, _, hp⟩ := hp (by omega)
                  obtain ⟨d, dc, x0, x1, x2, rd, y4, y5⟩ := hp t htp
                  have z := D2.out t htp
                  rw [z] at x0 x1 x2 rd
                  clear hp y4 y5 z htp e4
                  have hgm : ((G : Int) + (t : Int)) % 256 = (((G + t) % 256 : Nat) : Int) := by omega
                  have htl : t < T.length := by rw [HT4.out]; exact hlt
                  obtain ⟨tb, to, rfl, hrow⟩ := HR.out (by omega)
                  obtain ⟨ta, tc, q1, q2, _⟩ := hrow t htl
                  have BX : Below wL.heap.size wL wL := Below.refl _ _
                  have CW : ∀ {ad : Addr} {v : Value}, w.cell? ad = some v → wr.cell? ad = some v := fun {ad v} h => cellK BT4 (L4H.out.cell (cellK BTH.out (cellK B2H.out h)) (.inl (Nat.lt_of_lt_of_le (cell_lt h) B1H.out.size)))
                  have ct := CW q1
                  have rt : Reads wr ta (T.getD t []) := fun h0 => by
                    obtain ⟨ad, ha, hc⟩ := q2 h0
                    exact ⟨ad, ha, fun j u hu => CW (hc j u hu)⟩
                  have hl := HTT.out t hlt
                  have SM := same_true d ta dc tc (T.getD t []) (by
                    rw [hl]
                    calc K * S ≤ 6 * S := Nat.mul_le_mul_right _ (by omega)
                      _ ≤ 6 * 24 := Nat.mul_le_mul_left _ (by omega)
                      _ < 2 ^ 40 := by decide) wr.drew rd rt
                  dsimp only at x0 x1 x2
                  obtain ⟨L, hL⟩ : ∃ L, L = (T.getD t []).length := ⟨_, rfl⟩
                  rw [← hL] at x2 ct SM
                  have SMH := Hid.intro SM
                  generalize (G + t) % 256 = g4 at hgm x0
                  have hwt : (IntKind.i64.wrap ((G : Int) + (t : Int))).tmod 256 = (g4 : Int) := by
                    rw [IntWalk.i64_in _ (by omega), Int.tmod_eq_emod_of_nonneg (by omega)]; exact hgm
                  have hne : ((g4 : Int) != (g4 : Int)) = false := by simp
                  clear SM rd rt q1 q2 hrow htl hl hL CW BX BT4
                  go_wp2_with fail
                  go_region_held3 (fun w' => w'.cell? ⟨pb, po + t * 3, none⟩ = some (.int .i64 (g4 : Int)) ∧ w'.cell? ⟨pb, po + t * 3 + 1, none⟩ = some (.bool false) ∧ w'.cell? ⟨pb, po + t * 3 + 2, none⟩ = some (.slice d L dc) ∧ w'.cell? ⟨tb, to + t, none⟩ = some (.slice ta L tc))
                    (first | exact ⟨cellK E6 x0, cellK E6 x1, cellK E6 x2, cellK E6 ct⟩ | go_keep)
                    ((go_at_call 27; refine SMH.out.mono ?_; rintro e w6 ⟨rfl, q6, hw6⟩; have E6 : Below wr.heap.size wr w6 := (by rw [hw6]; exact belowN (Below.refl _ wr).drew q6); clear hw6))
                  all_goals
                    have P6 := Hid.intro (PTH.out.below E6)
                    have B6 := Hid.intro (BTH4.out.trans (E6.mono BTH4.out.size))
                    clear E6 x0 x1 x2 ct SMH hgm hwt PTH BTH4
                    go_wp2
                    go_roundw
                    case rel => exact ⟨t + 1, by omega, by go_num, P6.out, B6.out⟩
                    case measure => simp [intOf]; omega
                · have hte : 4 = t := by omega
                  subst hte
                  have t1 : ¬ ((4 : Nat) : Int) < 4 := by omega
                  have O4 := B2H.out.trans ((BTH.out.mono B2H.out.size).trans (L4H.out.out (B := w.heap.size) (Nat.le_trans B2H.out.size BTH.out.size) (fun k hk => .inl (Nat.lt_of_lt_of_le hk B1H.out.size))))
                  have O5 := O4.trans (BT4.mono O4.size)
                  clear PT PTH BTH4 O4
                  go_wp2
                  go_ret
                  exact ⟨rfl, O5⟩

theorem walk (k n s g : Int) (a : Option Addr) (len cap : Nat) (T : List (List Nat)) (o : Option Addr) (len' cap' : Nat) (zs' : List Int) (w : World) (_ : (Lit.int .i64 k).wf = true ∧ (Lit.int .i64 n).wf = true ∧ (Lit.int .i64 s).wf = true) (_ : (Lit.int .i64 g).wf = true) (hz : T.length = len ∧ BytL T ∧ ReadsR w a T ∧ len ≤ maxLen) (hz' : IsRow .u8 w o len' cap' zs') :
    Calls Try.prog 7 #[.agg #[.int .i64 k, .int .i64 n, .int .i64 s], .int .i64 g, .slice a len cap, .slice o len' cap'] w fun e w' => e = .returned (.bool true) ∧ Below w.heap.size w w' := by
  rcases hnew : (mayC k n s && isG g) with _ | _
  · exact walk_nil k n s g a len cap o len' cap' w hnew
  · have hnew2 := hnew
    rw [Bool.and_eq_true] at hnew2
    obtain ⟨q1, q2, q3, q4, q5, q6⟩ := mayC_true hnew2.1
    obtain ⟨hg1, hg2⟩ := isG_true hnew2.2
    obtain ⟨K, rfl⟩ := Int.eq_ofNat_of_zero_le (show 0 ≤ k by omega)
    obtain ⟨N, rfl⟩ := Int.eq_ofNat_of_zero_le (show 0 ≤ n by omega)
    obtain ⟨S, rfl⟩ := Int.eq_ofNat_of_zero_le (show 0 ≤ s by omega)
    obtain ⟨G, rfl⟩ := Int.eq_ofNat_of_zero_le hg1
    obtain ⟨e1, h1, h2, h3⟩ := hz
    by_cases h : len ≠ 4 ∨ 60 < len'
    · exact walk_far K N S G a len cap o len' cap' w hnew h3 hz'.len h
    · obtain ⟨os, rfl, h4, h5⟩ := hz'.bytes
      obtain rfl : len = 4 := by omega
      exact walk_near K N S G hnew a cap T e1 o cap' os w (by omega) h1 h2 h4 h5

set_option maxRecDepth 100000 in
theorem lifted (os : Os) (started : os.Started) (H : Type) (enc : TypeId × Value → H) :
    ReturnsInHanded {} Try.checked os 7 .any (Rows.collectApartSpec.pre6 enc Try.prog Try.f7 Rows.collectApartRow.domain false) (Rows.collectApartSpec.post enc Try.prog Try.f7 false true false false) := by
  refine returnsInHanded_of_change (C := Try.checked) own started (by kernel_rfl) Try.func7
    (ChangeSpec.witness6 (enc := enc) (C := Try.checked) false ⟨#[], #[.agg #[.int .i64 0, .int .i64 0, .int .i64 0], .int .i64 0, .slice none 0 0, .slice none 0 0], []⟩ 8 (by kernel_rfl) (by kernel_rfl) (by kernel_rfl) (by kernel_rfl)) ?_
  intro W base args ds gs before hval0 hW hcnd _
  have hval : ∀ (j : Nat) t v, Try.f7.params[j]? = some t → args[j]? = some v → Value.okWide Try.prog W .any base t v := hval0
  have hW' := hW
  obtain ⟨p, q, hA0, hV, rfl, hfz, hnd⟩ := hW
  have hA : DataW.TrodAll enc Try.prog W 0 (fun _ => true) true Try.f7.params.toList args.toList ds p := hA0
  rw [Try.params7] at hA hval
  obtain ⟨v0, vs0, d0, ds0, p0, q0, hargs, rfl, rfl, h0, r0⟩ := trodAll_cons hA
  obtain ⟨v1, vs1, d1, ds1, p1, q1, rfl, rfl, rfl, h1, r1⟩ := trodAll_cons r0
  obtain ⟨v2, vs2, d2, ds2, p2, q2, rfl, rfl, rfl, h2, r2⟩ := trodAll_cons r1
  obtain ⟨v3, vs3, d3, ds3, p3, q3, rfl, rfl, rfl, h3, r3⟩ := trodAll_cons r2
  obtain ⟨rfl, rfl, rfl⟩ := trodAll_nil r3
  obtain rfl : args = #[v0, v1, v2, v3] := by cases args; simp_all
  obtain ⟨rfl, rfl⟩ := trodVars_none hV
  have k0 := h0
  have lt0 : ∀ x ∈ p0, x.block < W.heap.size := by obtain ⟨m, hm⟩ := k0; exact DataW.trod_lt m _ _ _ hm
  obtain ⟨kc0, nc0, sc0, rfl, w0⟩ := open_code (hval 0 23 v0 rfl rfl) h0
  obtain ⟨a1, rfl, rfl, rfl, w1⟩ := open_int Try.underlying3 (hval 1 3 v1 rfl rfl) h1
  have k2 := h2
  have lt2 : ∀ x ∈ p2, x.block < W.heap.size := by obtain ⟨m, hm⟩ := k2; exact DataW.trod_lt m _ _ _ hm
  obtain ⟨a2, len2, cap2, rfl⟩ := okWide_slice Try.underlying48 (hval 2 48 v2 rfl rfl)
  obtain ⟨z2, w2⟩ := open_rows h2
  obtain ⟨a3, len3, cap3, rfl⟩ := okWide_slice Try.underlying39 (hval 3 39 v3 rfl rfl)
  have k3 := h3
  have lt3 : ∀ x ∈ p3, x.block < W.heap.size := by obtain ⟨m, hm⟩ := k3; exact DataW.trod_lt m _ _ _ hm
  obtain ⟨z3, w3⟩ : ∃ zs, IsRow .u8 W a3 len3 cap3 zs := by
    obtain ⟨fuel, hf⟩ := h3
    rcases open_ints Try.underlying39 Try.underlying5 (by kernel_rfl) hf with ⟨hcs, _⟩ | ⟨x, l, c, zs, hcs, _, hl, hm, hz, _, hcell, hwz⟩
    · simp [Value.cells] at hcs
      obtain ⟨rfl, rfl, rfl⟩ := hcs
      exact ⟨[], .inl ⟨rfl, rfl, rfl, rfl⟩⟩
    · simp [Value.cells] at hcs
      obtain ⟨rfl, rfl, rfl⟩ := hcs
      exact ⟨zs, .inr ⟨_, rfl, hl, hm, by simpa using hz, hcell, hwz⟩⟩
  clear hA0 hval0
  refine (walk kc0 nc0 sc0 a1 a2 len2 cap2 z2 a3 len3 cap3 z3 W w0 w1 w2 w3).mono fun e W' ⟨he, bel⟩ => ?_
  subst he
  exact ⟨_, rfl, _, _, _, [], _, [], hW', trodAll_mk1 (shut_bool Try.underlying4 _), (trodAll_cons_mk (Below.trod laidOut (by kernel_rfl) (of_decide_eq_true (by kernel_rfl)) k0 bel lt0) (trodAll_cons_mk (shut_int Try.underlying3 w1) (trodAll_cons_mk (Below.trod laidOut (by kernel_rfl) (of_decide_eq_true (by kernel_rfl)) k2 bel lt2) (trodAll_cons_mk (Below.trod laidOut (by kernel_rfl) (of_decide_eq_true (by kernel_rfl)) k3 bel lt3) trodAll_mk0)))), rfl, bel.frame _, fun h => by cases h⟩

theorem over : Rows.collectApartRow.holds Try.pinned (OpenSpec.ofChange Rows.collectApartSpec) :=
  OpenClaim.holds_of_wide 7 Try.f7 rfl rfl rfl rfl rfl rfl rfl ⟨rfl, rfl, rfl, rfl, rfl⟩ rfl rfl rfl rfl rfl (by kernel_rfl) Try.func7 (by kernel_rfl)
    (of_decide_eq_true (by kernel_rfl)) (by unfold Func.isWrapper; first | (rw [if_pos (by decide +kernel)]; kernel_rfl) | (rw [if_neg (by decide +kernel)]; exact ⟨rfl, rfl⟩))
    (fun os started H enc _ => lifted os started H enc)

end Go.Proofs.Ytceekoifljeddaa.LCollectApart

namespace Go.Proofs.Ytceekoifljeddaa
theorem collectApart_holds : Rows.CollectApartSaid := LCollectApart.over
#print axioms collectApart_holds
end Go.Proofs.Ytceekoifljeddaa
