/- The statement CollectOrder: in whichever order a group's shards come, and however often, its text is due, if they are enough. -/
import Derived.Test.YtceekoifljeddaaCoAlive
import Derived.Test.YtceekoifljeddaaMPlain
import Derived.Test.YtceekoifljeddaaRsArg
import Derived.Test.YtceekoifljeddaaMRs
import Derived.Test.YtceekoifljeddaaRefSame
namespace Go.Proofs.Ytceekoifljeddaa
open Go.ChangeShapes Go.WideShapes Go.ChangeAt Go.RowKit Go.Joins
open Bt

namespace LCollectOrder

theorem zero_had : ∃ Z : Array Value, (∀ x, x < 10 → Z[x]? = some (.bool false)) ∧ ∀ w : World, Sem.run Try.prog (zeroValue 51) w = .ok (.agg Z) w :=
  ⟨Array.replicate 10 (.bool false), fun x hx => by simp [hx], fun w => by kernel_rfl⟩

/-- Which places were had. -/
def HadAt (w : World) (b : Nat) (H : Nat → Bool) : Prop := ∀ k, k < 10 → w.cell? ⟨b, k, none⟩ = some (.bool (H k)) ∧ w.frozen? ⟨b, k, none⟩ = false

theorem HadAt.kept {w w' : World} {b : Nat} {H : Nat → Bool} (h : HadAt w b H) (hb : w'.heap[b]? = w.heap[b]?) : HadAt w' b H := fun k hk =>
  ⟨(World.cell?_of_block (a := ⟨b, k, none⟩) hb).trans (h k hk).1, (frozen_block (a := ⟨b, k, none⟩) hb).trans (h k hk).2⟩

theorem HadAt.set {w : World} {b k : Nat} {H : Nat → Bool} (h : HadAt w b H) : HadAt (w.setCell ⟨b, k, none⟩ (.bool true)) b (fun r => decide (r = k) || H r) := fun r hr => by
  refine ⟨?_, by rw [World.frozen?_setCell]; exact (h r hr).2⟩
  by_cases e : r = k
  · subst e
    rw [World.cell?_setCell_same' _ _ _ (by rw [(h r hr).1]; rfl)]
    simp
  · rw [World.cell?_setCell_other _ _ _ _ (fun q => e (by have := congrArg Addr.off q; simpa using this.symm)), (h r hr).1]
    simp [e]

theorem walk_far (k n s g : Int) (a : Option Addr) (len cap : Nat) (o : Option Addr) (len' cap' : Nat) (w : World) (hlen : len ≤ maxLen) (hlen' : len' ≤ maxLen) (h : 200 < len ∨ 60 < len') :
    Calls Try.prog 4 #[Cd k n s, .int .i64 g, .slice a len cap, .slice o len' cap'] w fun e w' => e = .returned (.bool true) ∧ Below w.heap.size w w' := by
  unfold maxLen at hlen hlen'
  by_cases h1 : 200 < len
  · have j : decide ((200 : Int) < (len : Int)) = true := by simp; omega
    go_enter Try.func4, Try.ntmps4
    go_wp2_with fail
    refine (alive_any _).mono ?_
    rintro e w1 ⟨rfl, B1⟩
    go_wp2
    go_ret
    exact ⟨rfl, ((Below.refl _ _).alloc (Nat.le_refl _) _).trans ((below_chg B1).below (by simp) (fun _ f => f.elim))⟩
  · have j : decide ((200 : Int) < (len : Int)) = false := by simp; omega
    have j2 : decide ((60 : Int) < (len' : Int)) = true := by simp; omega
    go_enter Try.func4, Try.ntmps4
    go_wp2_with fail
    refine (alive_any _).mono ?_
    rintro e w1 ⟨rfl, B1⟩
    go_wp2
    go_ret
    exact ⟨rfl, ((Below.refl _ _).alloc (Nat.le_refl _) _).trans ((below_chg B1).below (by simp) (fun _ f => f.elim))⟩

set_option maxRecDepth 100000 in
set_option maxHeartbeats 1000000 in
/-- Of no text's shards, or no collector, nothing is asked. -/
theorem walk_none (k n s g : Int) (a : Option Addr) (cap : Nat) (bs : List Nat) (o : Option Addr) (len' cap' : Nat) (w : World) (h2 : bs.length ≤ 200) (h3 : len' ≤ 60) (hn : Room a cap bs.length) (hY : Byt bs) (hr : Reads w a bs) (hno : encE k n s bs.length ≠ 0 ∨ (mayC k n s && isG g) = false) :
    Calls Try.prog 4 #[Cd k n s, .int .i64 g, .slice a bs.length cap, .slice o len' cap'] w fun e w' => e = .returned (.bool true) ∧ Below w.heap.size w w' := by
  have HR := Hid.intro hr
  have HY := Hid.intro hY
  have HN := Hid.intro hn
  have b0 := Hid.intro (heap_alloc_new w (.cells #[.int .i64 k, .int .i64 n, .int .i64 s] 23))
  have B0 := Hid.intro ((Below.refl _ w).alloc (Nat.le_refl _) (.cells #[.int .i64 k, .int .i64 n, .int .i64 s] 23))
  have j : decide ((200 : Int) < (bs.length : Int)) = false := by simp; omega
  have j2 : decide ((60 : Int) < (len' : Int)) = false := by simp; omega
  clear hr hY hn
  obtain ⟨E, hE⟩ : ∃ E, E = encE k n s bs.length := ⟨_, rfl⟩
  rw [← hE] at hno
  have HE := Hid.intro hE
  have HNO := Hid.intro hno
  clear hE hno
  go_enter Try.func4, Try.ntmps4
  go_wp2_with fail
  refine (alive_any _).mono ?_
  rintro e w1 ⟨rfl, B1⟩
  have b1 := (B1.block _ (lt_of_heap b0.out)).trans b0.out
  have B1H := Hid.intro (B0.out.trans (B1.mono B0.out.size))
  have b1H := Hid.intro b1
  obtain ⟨c0, c1, c2⟩ := cd_cells b1
  clear b1 B1
  go_wp2_with fail
  refine (rencode_any k n s a cap bs HY.out (by omega) w1 (HR.out.below B1H.out) HN.out).mono ?_
  rintro e w2 ⟨v2, rfl, _, B2⟩
  rw [← HE.out]
  have b2 := (B2.block _ (lt_of_heap b1H.out)).trans b1H.out
  have B2H := Hid.intro (B1H.out.trans (B2.mono B1H.out.size))
  clear c0 c1 c2
  obtain ⟨c0, c1, c2⟩ := cd_cells b2
  clear b2 B2 b1H HR
  by_cases hE0 : E = 0
  · have hno : (mayC k n s && isG g) = false := by
      rcases HNO.out with q | q
      · exact absurd hE0 q
      · exact q
    subst hE0
    go_wp2_with fail
    refine (cnew_no k n s g hno w2).mono ?_
    rintro e w3 ⟨rfl, B3⟩
    have B3w := B2H.out.trans (B3.mono B2H.out.size)
    clear B3 c0 c1 c2 HNO hno
    go_wp2
    go_ret
    exact ⟨rfl, B3w⟩
  · have j3 : (E != 0) = true := by rw [bne_iff_ne]; exact hE0
    go_wp2_with fail
    refine (cnew_ptr k n s g w2).mono ?_
    rintro e w3 ⟨p3, rfl, B3⟩
    have B3w := B2H.out.trans (B3.mono B2H.out.size)
    clear B3 c0 c1 c2 HNO
    go_wp2
    go_ret
    exact ⟨rfl, B3w⟩

/-- The rows of a text, for the base's group alone. -/
abbrev R0 (K S : Nat) (bs : List Nat) : Nat → Nat → List Nat := fun _ r => shL K S bs S r
abbrev H0 (H : Nat → Bool) : Nat → Nat → Bool := fun j r => decide (j = 0) && H r

theorem h0_put (H : Nat → Bool) (k j r : Nat) : ((decide (j = 0) && decide (r = k)) || H0 H j r) = H0 (fun r => decide (r = k) || H r) j r := by
  unfold H0
  cases decide (j = 0) <;> simp

set_option maxRecDepth 100000 in
set_option maxHeartbeats 4000000 in
theorem walk_near (K N S G : Nat) (hmay : mayC K N S = true) (hG : G < 256) (a : Option Addr) (cap : Nat) (bs : List Nat) (o : Option Addr) (cap' : Nat) (os : List Nat) (w : World) (h3 : os.length ≤ 60) (hn : Room a cap bs.length) (hY : Byt bs) (hr : Reads w a bs) (hr' : Reads w o os) (hO : Byt os) (hl : bs.length = K * S) :
    Calls Try.prog 4 #[Cd K N S, .int .i64 (G : Int), .slice a bs.length cap, .slice o os.length cap'] w fun e w' => e = .returned (.bool true) ∧ Below w.heap.size w w' := by
  obtain ⟨Z, hZ, z51⟩ := zero_had
  have HZ := Hid.intro hZ
  have hKS : K * S ≤ 144 := by
    obtain ⟨h1, h2, _, _, h5, h6⟩ := mayC_true hmay
    calc K * S ≤ 6 * S := Nat.mul_le_mul_right _ (by omega)
      _ ≤ 6 * 24 := Nat.mul_le_mul_left _ (by omega)
  obtain ⟨m1, m2, m3, m4, m5, m6⟩ := mayC_true hmay
  have HMAY := Hid.intro hmay
  have HR := Hid.intro hr
  have HR' := Hid.intro hr'
  have HY := Hid.intro hY
  have HN := Hid.intro hn
  have HL := Hid.intro hl
  have HO := Hid.intro hO
  have e0 : encE K N S bs.length = 0 := by unfold encE; rw [if_pos hmay, if_pos (by rw [hl]; simp)]
  have eA : encA K N S bs = encL K N S bs := by unfold encA; rw [e0, if_pos rfl]; rfl
  have HEN := Hid.intro (fun W (h : Reads W a bs) => rencode_any K N S a cap bs hY (by omega) W h hn)
  rw [e0, eA] at HEN
  have NW := Hid.intro (fun w => cnew_yes K N S G (by rw [hmay, isG_of (by omega)]; rfl) w)
  have b0 := Hid.intro (heap_alloc_new w (.cells #[.int .i64 (K : Int), .int .i64 (N : Int), .int .i64 (S : Int)] 23))
  have B0 := Hid.intro ((Below.refl _ w).alloc (Nat.le_refl _) (.cells #[.int .i64 (K : Int), .int .i64 (N : Int), .int .i64 (S : Int)] 23))
  obtain ⟨L, hL⟩ : ∃ L, L = bs.length := ⟨_, rfl⟩
  have hLb : L ≤ 200 := by omega
  rw [← hL] at HEN ⊢
  have HLL := Hid.intro hL
  have j : decide ((200 : Int) < (L : Int)) = false := by simp; omega
  have j2 : decide ((60 : Int) < (os.length : Int)) = false := by simp; omega
  clear hr hr' hY hn hl hO e0 eA hmay hZ hKS hL
  go_enter Try.func4, Try.ntmps4
  go_wp2_with fail
  refine (alive_any _).mono ?_
  rintro e w1 ⟨rfl, B1⟩
  have b1 := (B1.block _ (lt_of_heap b0.out)).trans b0.out
  have B1H := Hid.intro (B0.out.trans (B1.mono B0.out.size))
  have b1H := Hid.intro b1
  obtain ⟨c0, c1, c2⟩ := cd_cells b1
  clear b1 B1 B0 b0
  go_wp2_with fail
  refine (HEN.out w1 (HR.out.below B1H.out)).mono ?_
  rintro e w2 ⟨v2, rfl, S2, B2⟩
  have b2 := (B2.block _ (lt_of_heap b1H.out)).trans b1H.out
  have B2H := Hid.intro (B1H.out.trans (B2.mono B1H.out.size))
  have b2H := Hid.intro b2
  clear c0 c1 c2
  obtain ⟨c0, c1, c2⟩ := cd_cells b2
  rcases S2 with ⟨h0, _⟩ | ⟨mb, off, mc, A, C, rfl, S2⟩
  · have := encL_length K N S bs; rw [h0] at this; simp at this; omega
  rw [encL_length]
  have S2H := Hid.intro S2
  clear b2 B2 b1H S2 HEN
  go_wp2_with fail
  refine (NW.out w2).mono ?_
  rintro e w3 ⟨b, F, rfl, hC, hF, B3⟩
  have L3 := cl_new hC hF B3
  have L4 := (L3.grow ((Below.refl _ w3).alloc (Nat.le_refl _) (.cells Z 51))).less (G := fun k => k < w2.heap.size ∨ k = w3.heap.size) (fun k hk => by
    rcases hk with q | q
    · exact .inl q
    · subst q
      exact .inr ⟨Nat.le_refl _, by simp⟩)
  have D4 : HadAt (w3.alloc (.cells Z 51)) w3.heap.size (fun _ => false) := fun k hk =>
    ⟨by rw [cell_of_row _ _ _ _ _ _ (heap_alloc_new w3 _)]; exact HZ.out k hk, frozen_of_row _ _ _ _ _ (heap_alloc_new w3 _)⟩
  have B4 := B3.trans (((Below.refl _ w3).alloc (Nat.le_refl _) (.cells Z 51)).mono B3.size)
  have L4H := Hid.intro L4
  have D4H := Hid.intro D4
  have B4H := Hid.intro B4
  have W3 := Hid.intro B3.size
  clear c0 c1 c2 L3 L4 D4 B4 B3 hC hF NW
  go_wp2_with fail
  clear z51
  generalize w3.heap.size = hb at L4H D4H W3
  go_loopw [13, 14] (fun nv i wr => ∃ (t : Nat) (H : Nat → Bool) (x : Col), t ≤ os.length ∧ i = .int .i64 t ∧ nv = .int .i64 (cntH N H : Int) ∧ CL (fun k => k < w2.heap.size ∨ k = hb) wr wr b x ∧ Held K N S G (R0 K S bs) (H0 H) (fun _ => false) x ∧ HadAt wr hb H ∧ Below w2.heap.size w2 wr) (fun _ i _ => os.length - (intOf i).toNat)
  case atStart => exact ⟨0, fun _ => false, _, by omega, rfl, by rw [cntH_none]; rfl, L4H.out, (held_new K N S G (R0 K S bs)).congr (fun i r _ => by simp) (fun _ _ => rfl), D4H.out, B4H.out⟩
  case round =>
    clear L4H D4H B4H
    obtain ⟨t, H, x, ht, rfl, rfl, LX, HX, DX, BX⟩ := hrel
    have LXH := Hid.intro LX
    have HXH := Hid.intro HX
    have DXH := Hid.intro DX
    have BXH := Hid.intro BX
    have bt := (BX.block _ (lt_of_heap b2H.out)).trans b2H.out
    obtain ⟨c0, c1, c2⟩ := cd_cells bt
    clear LX HX DX BX bt
    by_cases hlt : t < os.length
    · obtain ⟨ob, oo, rfl, hc⟩ := reads_at HR'.out (by omega)
      have cx0 := hc t hlt
      have cx := cellK BXH.out (cellK B2H.out cx0)
      have t0 : (0 : Int) ≤ (t : Int) := by omega
      have t1 : (t : Int) < (os.length : Int) := by omega
      have hy := HO.out os[t] (List.getElem_mem hlt)
      obtain ⟨k, hk⟩ : ∃ k, k = os[t] % N := ⟨_, rfl⟩
      have hkN : k < N := by rw [hk]; exact Nat.mod_lt _ (by omega)
      have hkm : (os[t] : Int) % (N : Int) = (k : Int) := by rw [hk]; simp
      have hkt : (os[t] : Int).tmod (N : Int) = (k : Int) := by rw [Int.tmod_eq_emod_of_nonneg (by omega)]; exact hkm
      have n0 : ¬ (N : Int) = 0 := by omega
      have n1 : ((N : Int) == 0) = false := by rw [beq_eq_false_iff_ne]; exact n0
      have k0 : (0 : Int) ≤ (k : Int) := by omega
      have k1 : (k : Int) < (N : Int) := by omega
      have k2 : (k : Int) < 10 := by omega
      have hrow : (encL K N S bs).getD k [] = shL K S bs S k := encL_getD hkN
      have hkl : k < (encL K N S bs).length := by rw [encL_length]; exact hkN
      have cr := cellK BXH.out (S2H.out.cell k hkl)
      have rr := S2H.out.row k hkl
      have rcap := S2H.out.cap k hkl
      have rlen := S2H.out.lenCap k hkl
      rw [hrow, shL_length] at cr
      rw [hrow] at rr rlen
      have sb := shL_byt (S := S) (show K ≤ 256 by omega) HY.out (i := k) (show k < 256 by omega) S
      have sl := shL_length K S bs S k
      have SH := HXH.out.shard hG (i := 0) (k := k) (by omega) hkN (by omega) sl
      rw [show (G + 0) % 256 = G by omega] at SH
      have HS := fun W (hW : Below wr.heap.size wr W) => clshard (G : Int) (k : Int) (A k) (C k) (shL K S bs S k) sb ⟨rcap, rlen⟩ (LXH.out.below hW) ((rr.below BXH.out).below hW) (fun _ ad ha => .inl (reads_lt (by rw [← ha]; exact rr) (by rw [sl]; omega)))
      rw [SH.1, sl] at HS
      have SH2 := SH.2.congr (fun i r _ => h0_put H k i r) (fun _ _ => rfl)
      have HSH := Hid.intro HS
      have SH2H := Hid.intro SH2
      obtain ⟨dk1, dk2⟩ := DXH.out k (by omega)
      have CP := Hid.intro (fun h => cntH_put (H := H) hkN h)
      have CS : Hid (H k = true → cntH N (fun r => decide (r = k) || H r) = cntH N H) := fun h => cntH_congr (fun r _ => by
        by_cases e : r = k
        · subst e; simp [h]
        · simp [e])
      have cb := cntH_le N H
      have hd0 : (decide ((0 : Nat) = 0) && H k) = H k := by simp
      rw [show H0 H 0 k = H k from hd0] at HSH
      clear SH SH2 HS hrow hkl rr rcap rlen sb sl hc cx0 hd0 HXH
      generalize os[t] = y at cx hy hkm hkt hk
      clear hk
      generalize cntH N H = c at cb CP CS ⊢
      rcases hH : H k with _ | _
      · rw [hH] at dk1 HSH
        have CP2 := Hid.intro (CP.out hH)
        have HH := Hid.intro hH
        clear CP CS hH
        go_wp2_with fail
        go_quiet (fail)
        go_wp2_with fail
        refine (HSH.out _ (belowN (Below.refl _ wr) nq)).mono ?_
        rintro e w5 ⟨rfl, L5⟩
        have D5 := DXH.out.kept (L5.block (.inr rfl))
        have B5 := BXH.out.trans (L5.out (B := w2.heap.size) BXH.out.size (fun k hk => .inl hk))
        obtain ⟨e1, e2⟩ := D5 k (by omega)
        rw [HH.out] at e1
        have L6 := L5.write (p := ⟨hb, k, none⟩) (.inr rfl) (.bool true)
        have D6 := D5.set (k := k)
        have B6 := B5.setCell (p := ⟨hb, k, none⟩) W3.out (.bool true)
        have L6H := Hid.intro L6
        have D6H := Hid.intro D6
        have B6H := Hid.intro B6
        clear L5 L6 D5 D6 B5 B6 HSH DXH LXH cr cx c0 c1 c2 dk1 dk2 hkm hkt
        go_wp2
        go_roundw
        case rel => exact ⟨t + 1, _, _, by omega, by go_num, by rw [CP2.out]; simp, L6H.out, SH2H.out, D6H.out, B6H.out⟩
        case measure => simp [intOf]; omega
      · rw [hH] at dk1 HSH
        have CS2 := Hid.intro (CS.out hH)
        have HH := Hid.intro hH
        clear CP CS hH
        go_wp2_with fail
        go_quiet (fail)
        go_wp2_with fail
        refine (HSH.out _ (belowN (Below.refl _ wr) nq)).mono ?_
        rintro e w5 ⟨rfl, L5⟩
        have D5 := DXH.out.kept (L5.block (.inr rfl))
        have B5 := BXH.out.trans (L5.out (B := w2.heap.size) BXH.out.size (fun k hk => .inl hk))
        obtain ⟨e1, e2⟩ := D5 k (by omega)
        rw [HH.out] at e1
        have L6 := L5.write (p := ⟨hb, k, none⟩) (.inr rfl) (.bool true)
        have D6 := D5.set (k := k)
        have B6 := B5.setCell (p := ⟨hb, k, none⟩) W3.out (.bool true)
        have L6H := Hid.intro L6
        have D6H := Hid.intro D6
        have B6H := Hid.intro B6
        clear L5 L6 D5 D6 B5 B6 HSH DXH LXH cr cx c0 c1 c2 dk1 dk2 hkm hkt
        go_wp2
        go_roundw
        case rel => exact ⟨t + 1, _, _, by omega, by go_num, by rw [CS2.out], L6H.out, SH2H.out, D6H.out, B6H.out⟩
        case measure => simp [intOf]; omega
    · have hte : os.length = t := by omega
      have t1 : ¬ (t : Int) < (os.length : Int) := by omega
      have hR : ∀ i r, i < 4 → r < N → 0 < (R0 K S bs i r).length := fun i r _ _ => by rw [shL_length]; omega
      have hr0 := HXH.out.rdy hR (i := 0) (by omega)
      have hr1 := HXH.out.rdy hR (i := 1) (by omega)
      have e1 : cntH N (H0 H 1) = 0 := by
        rw [show H0 H 1 = fun _ => false from funext fun r => by simp [H0]]
        exact cntH_none N
      have e0 : cntH N (H0 H 0) = cntH N H := cntH_congr (fun r _ => by simp [H0])
      have hhv := HXH.out.have_ hG hR (i := 0) (by omega)
      rw [show (G + 0) % 256 = G by omega, e0] at hhv
      rw [e1, show (false || decide (K ≤ 0)) = false by simp; omega] at hr1
      rw [e0, Bool.false_or] at hr0
      have hbase : x.base < 256 := by rw [HXH.out.base]; exact hG
      have cb := cntH_le N H
      clear hlt e0 e1
      by_cases hfew : cntH N H < K
      · rw [decide_eq_false (by omega)] at hr0
        have hm : dueM 4 x = 0 := dueM_of (by omega) (fun t h => absurd h (by omega)) (fun _ => hr0)
        have hp : dueP x = [] := by unfold dueP; rw [hm]; rfl
        have hc : dueC x = x := by unfold dueC; rw [hm]; rfl
        have HD := cldue LXH.out
        rw [hp, hc] at HD
        have HDH := Hid.intro HD
        have HB := Hid.intro HXH.out.base
        have HHV := Hid.intro hhv
        have f1 : (cntH N H : Int) < (K : Int) := by omega
        clear HD hm hp hc hr0 hr1 hhv hR hte ht
        generalize cntH N H = c at cb hfew f1 HHV ⊢
        go_wp2_with fail
        refine HDH.out.mono ?_
        rintro e w5 ⟨v5, rfl, ⟨a5, c5, rfl, _⟩, L5⟩
        have bt := (L5.block (.inl (Nat.lt_of_lt_of_le (lt_of_heap b2H.out) (Nat.le_refl _)))).trans ((BXH.out.block _ (lt_of_heap b2H.out)).trans b2H.out)
        have B5 := BXH.out.trans (L5.out (B := w2.heap.size) BXH.out.size (fun k hk => .inl hk))
        clear c0 c1 c2
        obtain ⟨c0, c1, c2⟩ := cd_cells bt
        have s5 := clbase L5
        rw [HB.out] at s5
        have S5 := Hid.intro s5
        have B5H := Hid.intro B5
        clear s5 B5 bt HDH L5
        rw [show ([] : List Prt).length = 0 from rfl]
        go_wp2_with fail
        refine S5.out.mono ?_
        rintro e w6 ⟨rfl, B6, L6⟩
        have B6H := Hid.intro (B5H.out.trans (B6.mono B5H.out.size))
        have s6 := clhave (G : Int) (isI_nat (by omega)) L6
        rw [HHV.out] at s6
        have S6 := Hid.intro s6
        clear c0 c1 c2 S5 B5H B6 L6 s6
        go_wp2_with fail
        refine S6.out.mono ?_
        rintro e w7 ⟨rfl, B7, _⟩
        have B7w := B2H.out.trans ((B6H.out.trans (B7.mono B6H.out.size)).mono B2H.out.size)
        clear B7 S6 B6H
        go_wp2
        go_ret
        exact ⟨rfl, B7w⟩
      · rw [decide_eq_true (by omega)] at hr0
        have hm : dueM 4 x = 1 := dueM_of (by omega) (fun t h => by
          obtain rfl : t = 0 := by omega
          exact hr0) (fun _ => hr1)
        have hpart : prtAt x 0 = ⟨G, false, bs⟩ := by
          unfold prtAt
          rw [HXH.out.k, HXH.out.s, HXH.out.base, HXH.out.rows 0 (by omega), cnt_rowsH (fun r hr => hR 0 r (by omega) hr), if_pos (by
            rw [show cntH N (H0 H 0) = cntH N H from cntH_congr (fun r _ => by simp [H0])]; omega), show (G + 0) % 256 = G by omega]
          congr 1
          exact decT_rowsH HMAY.out HY.out HL.out (by rw [show cntH N (H0 H 0) = cntH N H from cntH_congr (fun r _ => by simp [H0])]; omega)
        have hp : dueP x = [⟨G, false, bs⟩] := by rw [dueP_of hbase hm, show List.range 1 = [0] from rfl, List.map_singleton, hpart]
        have hrd : readyN (dueC x) % 2 = 0 := by rw [readyN_mod, dueC_base (by rw [HXH.out.k]; omega)]; rfl
        have HD := cldue LXH.out
        rw [hp] at HD
        have HDH := Hid.intro HD
        have HRD := Hid.intro hrd
        have f1 : ¬ (cntH N H : Int) < (K : Int) := by omega
        clear HD hm hp hpart hr0 hr1 hhv hR hte ht hrd
        generalize cntH N H = c at cb hfew f1 ⊢
        go_wp2_with fail
        refine HDH.out.mono ?_
        rintro e w5 ⟨v5, rfl, ⟨a5, c5, rfl, P5⟩, L5⟩
        obtain ⟨pb, off5, rfl, _, hp5⟩ := P5 (by simp)
        obtain ⟨d0, q0, x0, x1, x2, rd, _, _⟩ := hp5 0 (by simp)
        simp only [List.getElem_cons_zero, Nat.zero_mul, Nat.add_zero] at x0 x1 x2 rd
        rw [← HLL.out] at x2
        have bt := (L5.block (.inl (Nat.lt_of_lt_of_le (lt_of_heap b2H.out) (Nat.le_refl _)))).trans ((BXH.out.block _ (lt_of_heap b2H.out)).trans b2H.out)
        have B5 := BXH.out.trans (L5.out (B := w2.heap.size) BXH.out.size (fun k hk => .inl hk))
        clear c0 c1 c2
        obtain ⟨c0, c1, c2⟩ := cd_cells bt
        have SM := same_true d0 a q0 cap bs (by rw [← HLL.out]; omega) w5 rd ((HR.out.below B2H.out).below B5)
        rw [← HLL.out] at SM
        have SMH := Hid.intro SM
        have B5H := Hid.intro B5
        have L5H := Hid.intro L5
        clear B5 bt HDH L5 P5 hp5 rd SM
        rw [show ([⟨G, false, bs⟩] : List Prt).length = 1 from rfl]
        go_wp2_with fail
        refine SMH.out.mono ?_
        rintro e w6 ⟨rfl, q6, rfl⟩
        have L6 := L5H.out.below (belowN (Below.refl _ w5) q6)
        have B6H := Hid.intro (belowN B5H.out q6)
        obtain ⟨Y, hY2⟩ : ∃ Y, Y = readyN (dueC x) := ⟨_, rfl⟩
        have s6 := clready L6
        rw [← hY2] at s6
        have hye : (Y : Int) % 2 = 0 := by have := HRD.out; rw [← hY2] at this; omega
        have S6 := Hid.intro s6
        clear s6 L6 L5H B5H SMH x0 x1 x2 c0 c1 c2 hY2
        go_wp2_with fail
        refine S6.out.mono ?_
        rintro e w7 ⟨rfl, B7, _⟩
        have B7w := B2H.out.trans ((B6H.out.trans (B7.mono B6H.out.size)).mono B2H.out.size)
        clear B7 S6 B6H
        go_wp2
        go_ret
        exact ⟨rfl, B7w⟩

theorem walk (k n s g : Int) (a : Option Addr) (len cap : Nat) (zs : List Int) (o : Option Addr) (len' cap' : Nat) (zs' : List Int) (w : World) (_ : (Lit.int .i64 k).wf = true ∧ (Lit.int .i64 n).wf = true ∧ (Lit.int .i64 s).wf = true) (_ : (Lit.int .i64 g).wf = true) (hz : IsRow .u8 w a len cap zs) (hz' : IsRow .u8 w o len' cap' zs') :
    Calls Try.prog 4 #[.agg #[.int .i64 k, .int .i64 n, .int .i64 s], .int .i64 g, .slice a len cap, .slice o len' cap'] w fun e w' => e = .returned (.bool true) ∧ Below w.heap.size w w' := by
  by_cases h : 200 < len ∨ 60 < len'
  · exact walk_far k n s g a len cap o len' cap' w hz.len hz'.len h
  · obtain ⟨bs, rfl, h1, h2⟩ := hz.bytes
    obtain ⟨os, rfl, h3, h4⟩ := hz'.bytes
    by_cases hno : encE k n s bs.length ≠ 0 ∨ (mayC k n s && isG g) = false
    · exact walk_none k n s g a cap bs o os.length cap' w (by omega) (by omega) hz.room h1 h2 hno
    · have he : encE k n s bs.length = 0 := Classical.byContradiction fun q => hno (.inl q)
      have hnew : (mayC k n s && isG g) = true := by
        rcases q : (mayC k n s && isG g) with _ | _
        · exact absurd (.inr q) hno
        · rfl
      rw [Bool.and_eq_true] at hnew
      obtain ⟨q1, q2, q3, q4, q5, q6⟩ := mayC_true hnew.1
      obtain ⟨hg1, hg2⟩ := isG_true hnew.2
      obtain ⟨K, rfl⟩ := Int.eq_ofNat_of_zero_le (show 0 ≤ k by omega)
      obtain ⟨N, rfl⟩ := Int.eq_ofNat_of_zero_le (show 0 ≤ n by omega)
      obtain ⟨S, rfl⟩ := Int.eq_ofNat_of_zero_le (show 0 ≤ s by omega)
      obtain ⟨G, rfl⟩ := Int.eq_ofNat_of_zero_le hg1
      have hl := (encE_ok he).2
      rw [← Int.natCast_mul] at hl
      exact walk_near K N S G hnew.1 (by omega) a cap bs o cap' os w (by omega) hz.room h1 h2 h4 h3 (by omega)

set_option maxRecDepth 100000 in
theorem lifted (os : Os) (started : os.Started) (H : Type) (enc : TypeId × Value → H) :
    ReturnsInHanded {} Try.checked os 4 .any (Rows.collectOrderSpec.pre6 enc Try.prog Try.f4 Rows.collectOrderRow.domain false) (Rows.collectOrderSpec.post enc Try.prog Try.f4 false true false false) := by
  refine returnsInHanded_of_change (C := Try.checked) own started (by kernel_rfl) Try.func4
    (ChangeSpec.witness6 (enc := enc) (C := Try.checked) false ⟨#[], #[.agg #[.int .i64 0, .int .i64 0, .int .i64 0], .int .i64 0, .slice none 0 0, .slice none 0 0], []⟩ 8 (by kernel_rfl) (by kernel_rfl) (by kernel_rfl) (by kernel_rfl)) ?_
  intro W base args ds gs before hval0 hW hcnd _
  have hval : ∀ (j : Nat) t v, Try.f4.params[j]? = some t → args[j]? = some v → Value.okWide Try.prog W .any base t v := hval0
  have hW' := hW
  obtain ⟨p, q, hA0, hV, rfl, hfz, hnd⟩ := hW
  have hA : DataW.TrodAll enc Try.prog W 0 (fun _ => true) true Try.f4.params.toList args.toList ds p := hA0
  rw [Try.params4] at hA hval
  obtain ⟨v0, vs0, d0, ds0, p0, q0, hargs, rfl, rfl, h0, r0⟩ := trodAll_cons hA
  obtain ⟨v1, vs1, d1, ds1, p1, q1, rfl, rfl, rfl, h1, r1⟩ := trodAll_cons r0
  obtain ⟨v2, vs2, d2, ds2, p2, q2, rfl, rfl, rfl, h2, r2⟩ := trodAll_cons r1
  obtain ⟨v3, vs3, d3, ds3, p3, q3, rfl, rfl, rfl, h3, r3⟩ := trodAll_cons r2
  obtain ⟨rfl, rfl, rfl⟩ := trodAll_nil r3
  obtain rfl : args = #[v0, v1, v2, v3] := by cases args; simp_all
  obtain ⟨rfl, rfl⟩ := trodVars_none hV
  have k0 := h0
  have lt0 : ∀ x ∈ p0, x.block < W.heap.size := by obtain ⟨m, hm⟩ := k0; exact DataW.trod_lt m _ _ _ hm
  obtain ⟨kc0, nc0, sc0, rfl, w0⟩ := open_code (hval 0 23 v0 rfl rfl) h0
  obtain ⟨a1, rfl, rfl, rfl, w1⟩ := open_int Try.underlying3 (hval 1 3 v1 rfl rfl) h1
  obtain ⟨a2, len2, cap2, rfl⟩ := okWide_slice Try.underlying39 (hval 2 39 v2 rfl rfl)
  have k2 := h2
  have lt2 : ∀ x ∈ p2, x.block < W.heap.size := by obtain ⟨m, hm⟩ := k2; exact DataW.trod_lt m _ _ _ hm
  obtain ⟨z2, w2⟩ : ∃ zs, IsRow .u8 W a2 len2 cap2 zs := by
    obtain ⟨fuel, hf⟩ := h2
    rcases open_ints Try.underlying39 Try.underlying5 (by kernel_rfl) hf with ⟨hcs, _⟩ | ⟨x, l, c, zs, hcs, _, hl, hm, hz, _, hcell, hwz⟩
    · simp [Value.cells] at hcs
      obtain ⟨rfl, rfl, rfl⟩ := hcs
      exact ⟨[], .inl ⟨rfl, rfl, rfl, rfl⟩⟩
    · simp [Value.cells] at hcs
      obtain ⟨rfl, rfl, rfl⟩ := hcs
      exact ⟨zs, .inr ⟨_, rfl, hl, hm, by simpa using hz, hcell, hwz⟩⟩
  obtain ⟨a3, len3, cap3, rfl⟩ := okWide_slice Try.underlying39 (hval 3 39 v3 rfl rfl)
  have k3 := h3
  have lt3 : ∀ x ∈ p3, x.block < W.heap.size := by obtain ⟨m, hm⟩ := k3; exact DataW.trod_lt m _ _ _ hm
  obtain ⟨z3, w3⟩ : ∃ zs, IsRow .u8 W a3 len3 cap3 zs := by
    obtain ⟨fuel, hf⟩ := h3
    rcases open_ints Try.underlying39 Try.underlying5 (by kernel_rfl) hf with ⟨hcs, _⟩ | ⟨x, l, c, zs, hcs, _, hl, hm, hz, _, hcell, hwz⟩
    · simp [Value.cells] at hcs
      obtain ⟨rfl, rfl, rfl⟩ := hcs
      exact ⟨[], .inl ⟨rfl, rfl, rfl, rfl⟩⟩
    · simp [Value.cells] at hcs
      obtain ⟨rfl, rfl, rfl⟩ := hcs
      exact ⟨zs, .inr ⟨_, rfl, hl, hm, by simpa using hz, hcell, hwz⟩⟩
  clear hA0 hval0
  refine (walk kc0 nc0 sc0 a1 a2 len2 cap2 z2 a3 len3 cap3 z3 W w0 w1 w2 w3).mono fun e W' ⟨he, bel⟩ => ?_
  subst he
  exact ⟨_, rfl, _, _, _, [], _, [], hW', trodAll_mk1 (shut_bool Try.underlying4 _), (trodAll_cons_mk (Below.trod laidOut (by kernel_rfl) (of_decide_eq_true (by kernel_rfl)) k0 bel lt0) (trodAll_cons_mk (shut_int Try.underlying3 w1) (trodAll_cons_mk (Below.trod laidOut (by kernel_rfl) (of_decide_eq_true (by kernel_rfl)) k2 bel lt2) (trodAll_cons_mk (Below.trod laidOut (by kernel_rfl) (of_decide_eq_true (by kernel_rfl)) k3 bel lt3) trodAll_mk0)))), rfl, bel.frame _, fun h => by cases h⟩

theorem over : Rows.collectOrderRow.holds Try.pinned (OpenSpec.ofChange Rows.collectOrderSpec) :=
  OpenClaim.holds_of_wide 4 Try.f4 rfl rfl rfl rfl rfl rfl rfl ⟨rfl, rfl, rfl, rfl, rfl⟩ rfl rfl rfl rfl rfl (by kernel_rfl) Try.func4 (by kernel_rfl)
    (of_decide_eq_true (by kernel_rfl)) (by unfold Func.isWrapper; first | (rw [if_pos (by decide +kernel)]; kernel_rfl) | (rw [if_neg (by decide +kernel)]; exact ⟨rfl, rfl⟩))
    (fun os started H enc _ => lifted os started H enc)

end Go.Proofs.Ytceekoifljeddaa.LCollectOrder

namespace Go.Proofs.Ytceekoifljeddaa
theorem collectOrder_holds : Rows.CollectOrderSaid := LCollectOrder.over
#print axioms collectOrder_holds
end Go.Proofs.Ytceekoifljeddaa
