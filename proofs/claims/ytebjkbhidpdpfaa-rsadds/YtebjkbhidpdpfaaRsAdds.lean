/- RsAdds: whatever code and bytes come in, it returns true: the shards of a sum of two texts of one length, up to 200 bytes, are the sums of theirs; no condition. -/
import Derived.Test.YtebjkbhidpdpfaaRsArg
import Derived.Test.YtebjkbhidpdpfaaRsAlive
import Derived.Test.YtebjkbhidpdpfaaRsLostP
namespace Go.Proofs.Ytebjkbhidpdpfaa.LRsAdds
open Go.ChangeShapes Go.WideShapes Go.ChangeAt Go.RowKit Go.Deep
open Bt

/-- The sum of two texts, of the first t bytes. -/
def addT (xs ys : List Nat) (t : Nat) : List Nat := (List.range xs.length).map (fun j => if j < t then xs.getD j 0 ^^^ ys.getD j 0 else xs.getD j 0)

theorem addT_length (xs ys : List Nat) (t : Nat) : (addT xs ys t).length = xs.length := by simp [addT]

theorem addT_zero (xs ys : List Nat) : addT xs ys 0 = xs := by
  apply List.ext_getElem
  · rw [addT_length]
  · intro j h1 h2
    simp only [addT, List.getElem_map, List.getElem_range]
    rw [if_neg (by omega), ← List.getElem_eq_getD (h := h2) 0]

theorem addT_set {α : Type} (f : Nat → α) (xs ys : List Nat) {t : Nat} : ((addT xs ys t).map f).set t (f (xs.getD t 0 ^^^ ys.getD t 0)) = (addT xs ys (t + 1)).map f := by
  apply List.ext_getElem
  · simp [addT]
  · intro j h1 h2
    rw [List.getElem_set]
    simp only [addT, List.getElem_map, List.getElem_range]
    by_cases e : t = j
    · rw [if_pos e, if_pos (by omega), e]
    · rw [if_neg e]
      by_cases h : j < t
      · rw [if_pos h, if_pos (by omega)]
      · rw [if_neg h, if_neg (by omega)]

theorem addT_byt {xs ys : List Nat} (hx : Byt xs) (hy : Byt ys) (t : Nat) : Byt (addT xs ys t) := fun z hz => by
  obtain ⟨j, _, rfl⟩ := List.mem_map.1 hz
  split
  · exact xor_lt8 (getD_byt hx j) (getD_byt hy j)
  · exact getD_byt hx j

theorem addT_all {xs ys : List Nat} {j : Nat} (hj : j < xs.length) : (addT xs ys xs.length).getD j 0 = xs.getD j 0 ^^^ ys.getD j 0 := by
  rw [← List.getElem_eq_getD (h := by rw [addT_length]; exact hj) 0]
  simp only [addT, List.getElem_map, List.getElem_range]
  rw [if_pos hj]

theorem walk_far (k n s : Int) (a : Option Addr) (len cap : Nat) (b : Option Addr) (len' cap' : Nat) (w : World) (hlen : len ≤ maxLen) (h : 200 < len ∨ len' ≠ len) :
    Calls Try.prog 8 #[Cd k n s, .slice a len cap, .slice b len' cap'] w fun e w' => e = .returned (.bool true) ∧ Below w.heap.size w w' := by
  unfold maxLen at hlen
  by_cases h1 : 200 < len
  · have j : decide ((200 : Int) < (len : Int)) = true := by simp; omega
    go_enter Try.func8, Try.ntmps8
    go_wp2_with fail
    refine (alive_any _).mono ?_
    rintro e w1 ⟨rfl, B1⟩
    go_wp2
    go_ret
    exact ⟨rfl, ((Below.refl _ _).alloc (Nat.le_refl _) _).trans ((below_chg B1).below (by simp) (fun _ f => f.elim))⟩
  · have j : decide ((200 : Int) < (len : Int)) = false := by simp; omega
    have j2 : ((len' : Int) != (len : Int)) = true := by rw [bne_iff_ne]; omega
    clear h h1
    go_enter Try.func8, Try.ntmps8
    go_wp2_with fail
    refine (alive_any _).mono ?_
    rintro e w1 ⟨rfl, B1⟩
    go_wp2
    go_ret
    exact ⟨rfl, ((Below.refl _ _).alloc (Nat.le_refl _) _).trans ((below_chg B1).below (by simp) (fun _ f => f.elim))⟩

set_option maxRecDepth 100000 in
set_option maxHeartbeats 4000000 in
theorem walk_near (k n s : Int) (a : Option Addr) (cap : Nat) (xs : List Nat) (b : Option Addr) (cap' : Nat) (ys : List Nat) (w : World) (h2 : xs.length ≤ 200) (hxy : ys.length = xs.length) (hn : Room a cap xs.length) (hn' : Room b cap' ys.length) (hX : Byt xs) (hY : Byt ys) (hr : Reads w a xs) (hr' : Reads w b ys) :
    Calls Try.prog 8 #[Cd k n s, .slice a xs.length cap, .slice b xs.length cap'] w fun e w' => e = .returned (.bool true) ∧ Below w.heap.size w w' := by
  have HRX := Hid.intro hr
  have HRY := Hid.intro hr'
  have HX := Hid.intro hX
  have HY := Hid.intro hY
  have HN := Hid.intro hn
  have HN' := Hid.intro hn'
  have HXY := Hid.intro hxy
  clear hr hr' hX hY hn hn' hxy
  have hdec : decide ((200 : Int) < (xs.length : Int)) = false := by simp; omega
  have hll : ((xs.length : Int) != (xs.length : Int)) = false := by simp
  go_enter Try.func8, Try.ntmps8
  go_wp2_with fail
  refine (alive_any _).mono ?_
  rintro e w1 ⟨rfl, B1⟩
  have b1 : w1.heap[w.heap.size]? = some (.cells #[.int .i64 k, .int .i64 n, .int .i64 s] 23 (0, 0)) := by
    rw [B1.block _ (by simp)]; exact heap_alloc_new w _
  have B1w : Below w.heap.size w w1 := ((Below.refl _ _).alloc (Nat.le_refl _) _).trans ((below_chg B1).below (by simp) (fun _ f => f.elim))
  have hb1 := lt_of_heap b1
  have E1 := Hid.intro (empty_row w1)
  have B2 := B1w.alloc B1w.size (.cells #[] 5)
  have hR2 := Hid.intro (HRX.out.below B2)
  have b1H := Hid.intro b1
  have B1H := Hid.intro B1w
  clear b1 B1w B1 B2
  go_wp2_with (at_builtin; refine append_bytes rfl _ _ rfl _ [] rfl E1.out a xs.length cap xs rfl rfl hR2.out HN.out.1 (by simp; omega) ?_)
  intro v3 w3 hown hgrow hat
  replace hown : w3.ownsRow 0 5 1 v3 xs.length (xs.map U) := hown
  have C3 : Chg (fun q => False) w1 w3 := ((Chg.refl _ _).alloc _).grown hgrow (fun q hq hlt => by
    have e : w1.heap.size = q := by simpa [Value.ownBlock] using hq
    omega)
  have N3 : ∀ q, v3.ownBlock = some q → w1.heap.size ≤ q := by
    intro q hq
    rcases hat with h | h
    · rw [hq] at h
      have e : q = w1.heap.size := by simpa [Value.ownBlock] using h
      omega
    · rw [hq] at h
      have e : q = (w1.alloc (.cells #[] 5)).heap.size := by simpa using h
      simp at e
      omega
  have B3 : Below w1.heap.size w1 w3 := C3.below (Nat.le_refl _) (fun _ f => f.elim)
  obtain ⟨av, cv, ev, hev⟩ := ownsRow_form hown
  subst ev
  have R3H := Hid.intro hown
  have N3H := Hid.intro N3
  have B3H := Hid.intro B3
  clear hown hgrow hat N3 C3 E1 hR2 B3
  go_wp2_with fail
  go_loopw [8] (fun i ws => ∃ t : Nat, t ≤ xs.length ∧ i = .int .i64 t ∧ ws.ownsRow 0 5 1 (.slice av xs.length cv) xs.length ((addT xs ys t).map U) ∧ Below w1.heap.size w1 ws) (fun i _ => xs.length - (intOf i).toNat)
  case atStart => exact ⟨0, by omega, rfl, by rw [addT_zero]; exact R3H.out, B3H.out⟩
  case round =>
    rename World => wo
    clear R3H B3H
    obtain ⟨t, ht, rfl, OX, BX⟩ := hrel
    by_cases hlt : t < xs.length
    · obtain ⟨g, rfl⟩ : ∃ g, av = some ⟨g, 0, none⟩ := by
        rcases hev with h0 | h0
        · omega
        · exact h0
      have t0 : (0 : Int) ≤ (t : Int) := by omega
      have t1 : (t : Int) < (xs.length : Int) := by omega
      have cs : wo.cell? ⟨g, t, none⟩ = some (U (xs.getD t 0)) := by
        rw [OX.cellAt t (by omega)]
        simp [addT, hlt]
      have fs : wo.frozen? ⟨g, t, none⟩ = false := OX.frozenAt t
      have BW := B1H.out.trans (BX.mono B1H.out.size)
      obtain ⟨bb, off, e, hc⟩ := reads_at HRY.out (by rw [HXY.out]; omega)
      subst e
      have cy0 := hc t (by rw [HXY.out]; exact hlt)
      have cy : wo.cell? ⟨bb, off + t, none⟩ = some (U (ys.getD t 0)) := by
        rw [← List.getElem_eq_getD (h := by rw [HXY.out]; exact hlt) 0]
        exact (BW.cell (cell_lt cy0)).trans cy0
      have hx := u8_xor_nat (xs.getD t 0) (ys.getD t 0) (getD_byt HX.out t) (getD_byt HY.out t)
      have ST := (OX.stored t (U (xs.getD t 0 ^^^ ys.getD t 0))).1
      rw [addT_set U xs ys] at ST
      have BN := (BX.setCell (p := ⟨g, t, none⟩) (N3H.out g rfl) (U (xs.getD t 0 ^^^ ys.getD t 0)))
      generalize xs.getD t 0 ^^^ ys.getD t 0 = z at hx ST BN
      generalize xs.getD t 0 = x0 at cs hx
      generalize ys.getD t 0 = y0 at cy hx
      have STH := Hid.intro ST
      have BNH := Hid.intro BN
      clear ST BN OX BX BW hc cy0
      go_wp2_with fail
      refine wp_region_still_tail 12 (by kernel_rfl) (by kernel_rfl) ?_
      simp only [List.take_succ_cons, List.take_zero, List.drop_succ_cons, List.drop_zero]
      change wpStill _ _ wo.drew _ _ _
      iterate 12 still_step
      refine wpStill_nil ?_
      go_wp2
      go_roundw
      case rel => exact ⟨t + 1, by omega, by go_num, ownsRow_keep STH.out (fun _ _ => rfl), ⟨BNH.out.os, BNH.out.tape, BNH.out.output, BNH.out.size, BNH.out.block⟩⟩
      case measure => simp [intOf]; omega
    · have hte : t = xs.length := by omega
      subst hte
      have n1 : ¬ (xs.length : Int) < (xs.length : Int) := by omega
      have bo := (BX.block _ hb1).trans b1H.out
      have BO := B1H.out.trans (BX.mono B1H.out.size)
      have rz : Reads wo av (addT xs ys xs.length) := by
        obtain ⟨aa, cc, e, h, _⟩ := row_of_owns (by rw [addT_length]; exact OX : wo.ownsRow 0 5 1 (.slice av xs.length cv) (addT xs ys xs.length).length ((addT xs ys xs.length).map U))
        rw [addT_length] at e
        obtain ⟨rfl, rfl⟩ : av = aa ∧ cv = cc := by simpa using e
        exact h
      have nz : Room av cv (addT xs ys xs.length).length := by
        rw [addT_length]
        rcases OX.2 with ⟨hv, h0⟩ | ⟨g, cp, cur, hv, _, _, hl, _⟩
        · simp at hv; exact ⟨fun _ => hv.2.2, by omega⟩
        · simp at hv; exact ⟨fun e => by rw [e] at hv; exact absurd hv.1 (by simp), by omega⟩
      have rx := HRX.out.below BO
      have ry := HRY.out.below BO
      have c0 : wo.cell? ⟨w.heap.size, 0, none⟩ = some (.int .i64 k) := by rw [cell_of_row _ _ 0 _ _ _ bo]; rfl
      have c1 : wo.cell? ⟨w.heap.size, 1, none⟩ = some (.int .i64 n) := by rw [cell_of_row _ _ 1 _ _ _ bo]; rfl
      have c2 : wo.cell? ⟨w.heap.size, 2, none⟩ = some (.int .i64 s) := by rw [cell_of_row _ _ 2 _ _ _ bo]; rfl
      have boH := Hid.intro bo
      have BOH := Hid.intro BO
      have rxH := Hid.intro rx
      have ryH := Hid.intro ry
      have rzH := Hid.intro rz
      have NZ := Hid.intro nz
      clear bo BO rx ry rz nz OX BX b1H B1H N3H hev hdec
      go_wp2_with fail
      refine (rencode_any k n s a cap xs HX.out (by omega) wo rxH.out HN.out).mono ?_
      rintro e w4 ⟨v4, rfl, S4, B4⟩
      have b4 := (B4.block _ (lt_of_heap boH.out)).trans boH.out
      have B4w := BOH.out.trans (B4.mono BOH.out.size)
      have ry4 := ryH.out.below B4
      have rz4 := rzH.out.below B4
      clear c0 c1 c2
      have c0 : w4.cell? ⟨w.heap.size, 0, none⟩ = some (.int .i64 k) := by rw [cell_of_row _ _ 0 _ _ _ b4]; rfl
      have c1 : w4.cell? ⟨w.heap.size, 1, none⟩ = some (.int .i64 n) := by rw [cell_of_row _ _ 1 _ _ _ b4]; rfl
      have c2 : w4.cell? ⟨w.heap.size, 2, none⟩ = some (.int .i64 s) := by rw [cell_of_row _ _ 2 _ _ _ b4]; rfl
      have EY := rencode_any k n s b cap' ys HY.out (by rw [HXY.out]; omega) w4 ry4 HN'.out
      rw [HXY.out] at EY
      have EYH := Hid.intro EY
      have S4H := Hid.intro S4
      have b4H := Hid.intro b4
      have B4H := Hid.intro B4w
      have rz4H := Hid.intro rz4
      clear EY S4 b4 B4 B4w ry4 rz4 rxH ryH rzH boH BOH
      go_wp2_with fail
      refine EYH.out.mono ?_
      rintro e w5 ⟨v5, rfl, S5, B5⟩
      have b5 := (B5.block _ (lt_of_heap b4H.out)).trans b4H.out
      have B5w := B4H.out.trans (B5.mono B4H.out.size)
      have rz5 := rz4H.out.below B5
      clear c0 c1 c2
      have c0 : w5.cell? ⟨w.heap.size, 0, none⟩ = some (.int .i64 k) := by rw [cell_of_row _ _ 0 _ _ _ b5]; rfl
      have c1 : w5.cell? ⟨w.heap.size, 1, none⟩ = some (.int .i64 n) := by rw [cell_of_row _ _ 1 _ _ _ b5]; rfl
      have c2 : w5.cell? ⟨w.heap.size, 2, none⟩ = some (.int .i64 s) := by rw [cell_of_row _ _ 2 _ _ _ b5]; rfl
      have EZ := rencode_any k n s av cv (addT xs ys xs.length) (addT_byt HX.out HY.out _) (by rw [addT_length]; omega) w5 rz5 NZ.out
      rw [addT_length] at EZ
      have EZH := Hid.intro EZ
      have S5H := Hid.intro S5
      have B45 := Hid.intro B5
      have B5H := Hid.intro B5w
      clear EZ S5 b5 B5 B5w rz5 b4H B4H rz4H EYH
      go_wp2_with fail
      refine EZH.out.mono ?_
      rintro e w6 ⟨v6, rfl, S6, B6⟩
      have B6w := B5H.out.trans (B6.mono B5H.out.size)
      have B46 : Below w4.heap.size w4 w6 := B45.out.trans (B6.mono B45.out.size)
      clear c0 c1 c2
      by_cases hE : encE k n s xs.length = 0
      · rw [hE]
        obtain ⟨hm, hl⟩ := encE_ok hE
        have eX : encA k n s xs = encL k.toNat n.toNat s.toNat xs := by unfold encA; rw [if_pos hE]
        have eY : encA k n s ys = encL k.toNat n.toNat s.toNat ys := by unfold encA; rw [HXY.out, if_pos hE]
        have eZ : encA k n s (addT xs ys xs.length) = encL k.toNat n.toNat s.toNat (addT xs ys xs.length) := by unfold encA; rw [addT_length, if_pos hE]
        have T4 := S4H.out
        have T5 := S5H.out
        rw [eX] at T4
        rw [eY] at T5
        rw [eZ] at S6
        clear hE eX eY eZ S4H S5H
        obtain ⟨h1, h2', h3, h4, h5, h6⟩ := mayC_true hm
        obtain ⟨K, rfl⟩ := Int.eq_ofNat_of_zero_le (show 0 ≤ k by omega)
        obtain ⟨N, rfl⟩ := Int.eq_ofNat_of_zero_le (show 0 ≤ n by omega)
        obtain ⟨S, rfl⟩ := Int.eq_ofNat_of_zero_le (show 0 ≤ s by omega)
        simp only [Int.toNat_natCast] at T4 T5 S6
        have hl' : xs.length = K * S := by rw [← Int.natCast_mul] at hl; omega
        rcases T4 with ⟨h0, _⟩ | ⟨mx, ox, cx, Ax, Cx, rfl, T4⟩
        · have := congrArg List.length h0; rw [encL_length] at this; exact absurd this (by simp; omega)
        rcases T5 with ⟨h0, _⟩ | ⟨my, oy, cy, Ay, Cy, rfl, T5⟩
        · have := congrArg List.length h0; rw [encL_length] at this; exact absurd this (by simp; omega)
        rcases S6 with ⟨h0, _⟩ | ⟨mz, oz, cz, Az, Cz, rfl, T6⟩
        · have := congrArg List.length h0; rw [encL_length] at this; exact absurd this (by simp; omega)
        simp only [encL_length]
        have HL := Hid.intro hl'
        have X6 := Hid.intro (T4.below B46)
        have Y6 := Hid.intro (T5.below B6)
        have Z6 := Hid.intro T6
        have B6H := Hid.intro B6w
        have oo : ((0 : Int) != 0) = false := by simp
        clear T4 T5 T6 B6w B6 B46 hl hl' hm B5H B45 EZH
        go_wp2_with fail
        go_loopw [15] (fun i ws => ∃ t : Nat, t ≤ N ∧ i = .int .i64 t ∧ Below w6.heap.size w6 ws) (fun i _ => N - (intOf i).toNat)
        case atStart => exact ⟨0, by omega, rfl, Below.refl _ _⟩
        case round =>
          rename World => wp
          obtain ⟨t, ht, rfl, BP⟩ := hrel
          have BPH := Hid.intro BP
          by_cases htl : t < N
          · have t0 : (0 : Int) ≤ (t : Int) := by omega
            have t1 : (t : Int) < (N : Int) := by omega
            clear BP
            go_wp2_with fail
            go_loopw [16] (fun i ws => ∃ u : Nat, u ≤ S ∧ i = .int .i64 u ∧ Below w6.heap.size w6 ws) (fun i _ => S - (intOf i).toNat)
            case atStart => exact ⟨0, by omega, rfl, BPH.out⟩
            case round =>
              obtain ⟨u, hu, rfl, BU⟩ := hrel
              have BUH := Hid.intro BU
              have X7 := X6.out.below BU
              have Y7 := Y6.out.below BU
              have Z7 := Z6.out.below BU
              have fx := X7.cell t (by rw [encL_length]; exact htl)
              have fy := Y7.cell t (by rw [encL_length]; exact htl)
              have fz := Z7.cell t (by rw [encL_length]; exact htl)
              have qx := X7.row t (by rw [encL_length]; exact htl)
              have qy := Y7.row t (by rw [encL_length]; exact htl)
              have qz := Z7.row t (by rw [encL_length]; exact htl)
              rw [encL_row htl] at fx fy fz
              rw [encL_getD htl] at qx qy qz
              obtain ⟨bx, fx1, ex, gx⟩ := reads_at qx (by rw [shL_length]; omega)
              obtain ⟨by_, fy1, ey, gy⟩ := reads_at qy (by rw [shL_length]; omega)
              obtain ⟨bz, fz1, ez, gz⟩ := reads_at qz (by rw [shL_length]; omega)
              rw [ex] at fx
              rw [ey] at fy
              rw [ez] at fz
              generalize Cx t = cx0 at fx
              generalize Cy t = cy0 at fy
              generalize Cz t = cz0 at fz
              clear BU X7 Y7 Z7 qx qy qz ex ey ez
              by_cases hul : u < S
              · have u0 : (0 : Int) ≤ (u : Int) := by omega
                have u1 : (u : Int) < (S : Int) := by omega
                have dx : wr.cell? ⟨bx, fx1 + u, none⟩ = some (U (shB K S xs t u)) := by
                  rw [gx u (by rw [shL_length]; exact hul)]; simp [shL]
                have dy : wr.cell? ⟨by_, fy1 + u, none⟩ = some (U (shB K S ys t u)) := by
                  rw [gy u (by rw [shL_length]; exact hul)]; simp [shL]
                have dz : wr.cell? ⟨bz, fz1 + u, none⟩ = some (U (shB K S xs t u ^^^ shB K S ys t u)) := by
                  rw [gz u (by rw [shL_length]; exact hul), ← shB_xor (c := addT xs ys xs.length) (by omega) HX.out HY.out (addT_byt HX.out HY.out _) (fun j hj => addT_all (by rw [HL.out]; exact hj)) hul]
                  simp [shL]
                have hx := u8_xor_nat (shB K S xs t u) (shB K S ys t u) (shB_lt (by omega) HX.out (by omega) u) (shB_lt (by omega) HY.out (by omega) u)
                generalize shB K S xs t u ^^^ shB K S ys t u = z at hx dz
                generalize shB K S xs t u = x0 at hx dx
                generalize shB K S ys t u = y0 at hx dy
                have zz : ((z : Int) != (z : Int)) = false := by simp
                clear gx gy gz
                go_wp2_with fail
                go_quiet (fail)
                go_wp2
                go_roundw
                case rel => exact ⟨u + 1, by omega, by go_num, belowN BUH.out _⟩
                case measure => simp [intOf]; omega
              · have hue : u = S := by omega
                subst hue
                have n2 : ¬ (u : Int) < (u : Int) := by omega
                clear gx gy gz
                go_wp2
                go_roundw
                case rel => exact ⟨t + 1, by omega, by go_num, BUH.out⟩
                case measure => simp [intOf]; omega
          · have hte : t = N := by omega
            subst hte
            have n2 : ¬ (t : Int) < (t : Int) := by omega
            have BW := B6H.out.trans (BP.mono B6H.out.size)
            clear BP BPH
            go_wp2
            go_ret
            exact ⟨rfl, BW⟩
      · have eZ : encA k n s (addT xs ys xs.length) = [] := by unfold encA; rw [addT_length, if_neg hE]
        rw [eZ] at S6
        obtain ⟨a2, p2, rfl⟩ : ∃ a2 p2, v6 = .slice a2 0 p2 := by
          rcases S6 with ⟨_, ao, cp, e, _⟩ | ⟨mb, off, mc, A', C', e, h⟩
          · exact ⟨ao, cp, e⟩
          · exact ⟨_, _, e⟩
        generalize encE k n s xs.length = E
        have ee : (E != E) = false := by simp
        clear S6 eZ hE S4H S5H EZH B46 B45 B6
        go_wp2_with fail
        go_loopw [15] (fun i ws => i = .int .i64 0 ∧ Below w.heap.size w ws) (fun i _ => 0)
        case atStart => exact ⟨rfl, B6w⟩
        case round =>
          obtain ⟨rfl, BW⟩ := hrel
          go_wp2
          go_ret
          exact ⟨rfl, BW⟩

theorem walk (k n s : Int) (a : Option Addr) (len cap : Nat) (zs : List Int) (b : Option Addr) (len' cap' : Nat) (zs' : List Int) (w : World) (_ : (Lit.int .i64 k).wf = true ∧ (Lit.int .i64 n).wf = true ∧ (Lit.int .i64 s).wf = true) (hz : IsRow .u8 w a len cap zs) (hz' : IsRow .u8 w b len' cap' zs') :
    Calls Try.prog 8 #[.agg #[.int .i64 k, .int .i64 n, .int .i64 s], .slice a len cap, .slice b len' cap'] w fun e w' => e = .returned (.bool true) ∧ Below w.heap.size w w' := by
  by_cases h : 200 < len ∨ len' ≠ len
  · exact walk_far k n s a len cap b len' cap' w hz.len h
  · obtain ⟨xs, e1, h1, h2⟩ := hz.bytes
    obtain ⟨ys, e2, h3, h4⟩ := hz'.bytes
    have el : len' = len := by omega
    subst el
    subst e1
    exact walk_near k n s a cap xs b cap' ys w (by omega) e2 hz.room (by rw [e2]; exact hz'.room) h1 h3 h2 h4

set_option maxRecDepth 100000 in
theorem lifted (os : Os) (started : os.Started) (H : Type) (enc : TypeId × Value → H) :
    ReturnsInHanded {} Try.checked os 8 .any (Rows.rsAddsSpec.pre6 enc Try.prog Try.f8 Rows.rsAddsRow.domain false) (Rows.rsAddsSpec.post enc Try.prog Try.f8 false true false false) := by
  refine returnsInHanded_of_change (C := Try.checked) own started (by kernel_rfl) Try.func8
    (ChangeSpec.witness6 (enc := enc) (C := Try.checked) false ⟨#[], #[.agg #[.int .i64 0, .int .i64 0, .int .i64 0], .slice none 0 0, .slice none 0 0], []⟩ 8 (by kernel_rfl) (by kernel_rfl) (by kernel_rfl) (by kernel_rfl)) ?_
  intro W base args ds gs before hval0 hW hcnd _
  have hval : ∀ (j : Nat) t v, Try.f8.params[j]? = some t → args[j]? = some v → Value.okWide Try.prog W .any base t v := hval0
  have hW' := hW
  obtain ⟨p, q, hA0, hV, rfl, hfz, hnd⟩ := hW
  have hA : DataW.TrodAll enc Try.prog W 0 (fun _ => true) true Try.f8.params.toList args.toList ds p := hA0
  rw [Try.params8] at hA hval
  obtain ⟨v0, vs0, d0, ds0, p0, q0, hargs, rfl, rfl, h0, r0⟩ := trodAll_cons hA
  obtain ⟨v1, vs1, d1, ds1, p1, q1, rfl, rfl, rfl, h1, r1⟩ := trodAll_cons r0
  obtain ⟨v2, vs2, d2, ds2, p2, q2, rfl, rfl, rfl, h2, r2⟩ := trodAll_cons r1
  obtain ⟨rfl, rfl, rfl⟩ := trodAll_nil r2
  obtain rfl : args = #[v0, v1, v2] := by cases args; simp_all
  obtain ⟨rfl, rfl⟩ := trodVars_none hV
  have k0 := h0
  have lt0 : ∀ x ∈ p0, x.block < W.heap.size := by obtain ⟨m, hm⟩ := k0; exact DataW.trod_lt m _ _ _ hm
  obtain ⟨kc0, nc0, sc0, rfl, w0⟩ := open_code (hval 0 23 v0 rfl rfl) h0
  obtain ⟨a1, len1, cap1, rfl⟩ := okWide_slice Try.underlying24 (hval 1 24 v1 rfl rfl)
  have k1 := h1
  have lt1 : ∀ x ∈ p1, x.block < W.heap.size := by obtain ⟨m, hm⟩ := k1; exact DataW.trod_lt m _ _ _ hm
  obtain ⟨z1, w1⟩ : ∃ zs, IsRow .u8 W a1 len1 cap1 zs := by
    obtain ⟨fuel, hf⟩ := h1
    rcases open_ints Try.underlying24 Try.underlying5 (by kernel_rfl) hf with ⟨hcs, _⟩ | ⟨x, l, c, zs, hcs, _, hl, hm, hz, _, hcell, hwz⟩
    · simp [Value.cells] at hcs
      obtain ⟨rfl, rfl, rfl⟩ := hcs
      exact ⟨[], .inl ⟨rfl, rfl, rfl, rfl⟩⟩
    · simp [Value.cells] at hcs
      obtain ⟨rfl, rfl, rfl⟩ := hcs
      exact ⟨zs, .inr ⟨_, rfl, hl, hm, by simpa using hz, hcell, hwz⟩⟩
  obtain ⟨a2, len2, cap2, rfl⟩ := okWide_slice Try.underlying24 (hval 2 24 v2 rfl rfl)
  have k2 := h2
  have lt2 : ∀ x ∈ p2, x.block < W.heap.size := by obtain ⟨m, hm⟩ := k2; exact DataW.trod_lt m _ _ _ hm
  obtain ⟨z2, w2⟩ : ∃ zs, IsRow .u8 W a2 len2 cap2 zs := by
    obtain ⟨fuel, hf⟩ := h2
    rcases open_ints Try.underlying24 Try.underlying5 (by kernel_rfl) hf with ⟨hcs, _⟩ | ⟨x, l, c, zs, hcs, _, hl, hm, hz, _, hcell, hwz⟩
    · simp [Value.cells] at hcs
      obtain ⟨rfl, rfl, rfl⟩ := hcs
      exact ⟨[], .inl ⟨rfl, rfl, rfl, rfl⟩⟩
    · simp [Value.cells] at hcs
      obtain ⟨rfl, rfl, rfl⟩ := hcs
      exact ⟨zs, .inr ⟨_, rfl, hl, hm, by simpa using hz, hcell, hwz⟩⟩
  clear hA0 hval0
  refine (walk kc0 nc0 sc0 a1 len1 cap1 z1 a2 len2 cap2 z2 W w0 w1 w2).mono fun e W' ⟨he, bel⟩ => ?_
  subst he
  exact ⟨_, rfl, _, _, _, [], _, [], hW', trodAll_mk1 (shut_bool Try.underlying4 _), (trodAll_cons_mk (Below.trod laidOut (by kernel_rfl) (of_decide_eq_true (by kernel_rfl)) k0 bel lt0) (trodAll_cons_mk (Below.trod laidOut (by kernel_rfl) (of_decide_eq_true (by kernel_rfl)) k1 bel lt1) (trodAll_cons_mk (Below.trod laidOut (by kernel_rfl) (of_decide_eq_true (by kernel_rfl)) k2 bel lt2) trodAll_mk0))), rfl, bel.frame _, fun h => by cases h⟩

theorem over : Rows.rsAddsRow.holds Try.pinned (OpenSpec.ofChange Rows.rsAddsSpec) :=
  OpenClaim.holds_of_wide 8 Try.f8 rfl rfl rfl rfl rfl rfl rfl ⟨rfl, rfl, rfl, rfl, rfl⟩ rfl rfl rfl rfl rfl (by kernel_rfl) Try.func8 (by kernel_rfl)
    (of_decide_eq_true (by kernel_rfl)) (by unfold Func.isWrapper; first | (rw [if_pos (by decide +kernel)]; kernel_rfl) | (rw [if_neg (by decide +kernel)]; exact ⟨rfl, rfl⟩))
    (fun os started H enc _ => lifted os started H enc)

end Go.Proofs.Ytebjkbhidpdpfaa.LRsAdds

namespace Go.Proofs.Ytebjkbhidpdpfaa
theorem rsAdds_holds : Rows.RsAddsSaid := LRsAdds.over
#print axioms rsAdds_holds
end Go.Proofs.Ytebjkbhidpdpfaa
