/- Package rs: anyAlike, weight, Weights. -/
import Derived.Test.YtebjkbhidpdpfabRsK1
import Derived.Test.YtebjkbhidpdpfabRsDot
import Derived.Test.YtebjkbhidpdpfabFldD
namespace Go.Proofs.Ytebjkbhidpdpfab
open Go.RowKit
open Bt

theorem take_mem_iff {l : List Nat} {i x : Nat} (hi : i < l.length) : x ∈ l.take (i + 1) ↔ x ∈ l.take i ∨ x = l[i] := by
  rw [take_snoc l i hi, List.mem_append, List.mem_singleton]

theorem zero_seen : ∃ Z : Array Value, (∀ x, x < 256 → Z[x]? = some (.bool false)) ∧ ∀ w : World, Sem.run Try.prog (zeroValue 53) w = .ok (.agg Z) w :=
  ⟨Array.replicate 256 (.bool false), fun x hx => by simp [hx], fun w => by kernel_rfl⟩

/-- Which bytes were seen. -/
def Seen (w : World) (b : Nat) (l : List Nat) : Prop := ∀ x, x < 256 → w.cell? ⟨b, x, none⟩ = some (.bool (decide (x ∈ l))) ∧ w.frozen? ⟨b, x, none⟩ = false

set_option maxRecDepth 100000 in
set_option maxHeartbeats 1000000 in
theorem anyAlike_any (ao : Option Addr) (cap : Nat) (at_ : List Nat) (hat : Byt at_) (hl : at_.length ≤ 1000) (w : World) (hr : Reads w ao at_) :
    Calls Try.prog 20 #[.slice ao at_.length cap] w fun e w' => e = .returned (.bool (!decide at_.Nodup)) ∧ Below w.heap.size w w' := by
  have HR := Hid.intro hr
  have HAT := Hid.intro hat
  obtain ⟨R, hR⟩ : ∃ R, R = !decide at_.Nodup := ⟨_, rfl⟩
  rw [← hR]
  have HRR := Hid.intro hR
  obtain ⟨Z, hZ, z64⟩ := zero_seen
  have HZ := Hid.intro hZ
  clear hr hat hR hZ
  go_enter Try.func20, Try.ntmps20
  go_wp2_with fail
  clear z64
  go_loopw [8] (fun i wr => ∃ t : Nat, t ≤ at_.length ∧ i = .int .i64 t ∧ Seen wr w.heap.size (at_.take t) ∧ (at_.take t).Nodup ∧ Below w.heap.size w wr) (fun i _ => at_.length - (intOf i).toNat)
  case atStart =>
    refine ⟨0, by omega, rfl, fun x hx => ⟨?_, frozen_of_row _ _ _ _ _ (heap_alloc_new w _)⟩, by simp, (Below.refl _ _).alloc (Nat.le_refl _) _⟩
    rw [cell_of_row _ _ _ _ _ _ (heap_alloc_new w _)]
    simpa using HZ.out x hx
  case round =>
    obtain ⟨t, ht, rfl, hS, hN, hB⟩ := hrel
    by_cases hlt : t < at_.length
    · obtain ⟨bb, off, rfl, hc⟩ := reads_at HR.out (by omega)
      have cx0 := hc t hlt
      have cx := (hB.cell (cell_lt cx0)).trans cx0
      have hx := HAT.out at_[t] (List.getElem_mem hlt)
      obtain ⟨hs1, hs2⟩ := hS _ hx
      have t1 : (t : Int) < (at_.length : Int) := by omega
      have x0 : (0 : Int) ≤ (at_[t] : Int) := by omega
      have x1 : (at_[t] : Int) < 256 := by omega
      have HTS := Hid.intro (fun x => take_mem_iff (x := x) hlt)
      have HTN := Hid.intro (take_snoc at_ t hlt)
      have HSS := Hid.intro hS
      have HN := Hid.intro hN
      have HB := Hid.intro hB
      by_cases hm : at_[t] ∈ at_.take t
      · have hnd : R = true := by
          rw [HRR.out]
          have : ¬ at_.Nodup := fun q => by
            have q1 : (at_.take (t + 1)).Nodup := q.sublist (List.take_sublist _ _)
            rw [HTN.out, List.nodup_append] at q1
            exact q1.2.2 _ hm _ (by simp) rfl
          simp [this]
        subst hnd
        rw [decide_eq_true hm] at hs1
        generalize at_[t] = X at cx x0 x1 hs1 hs2 hx
        clear hS hN hB hc cx0 HTS HTN hm HRR
        go_wp2
        go_ret
        exact ⟨rfl, HB.out⟩
      · rw [decide_eq_false hm] at hs1
        have HM := Hid.intro hm
        generalize at_[t] = X at cx x0 x1 hs1 hs2 hx HTS HTN HM
        clear hS hN hB hc cx0 hm
        go_wp2
        go_roundw
        case rel =>
          refine ⟨t + 1, by omega, by go_num, fun x hx => ⟨?_, by rw [World.frozen?_setCell]; exact (HSS.out x hx).2⟩, ?_, HB.out.setCell (p := ⟨w.heap.size, X, none⟩) (Nat.le_refl _) _⟩
          · by_cases e : x = X
            · subst e
              rw [World.cell?_setCell_same' _ _ _ (by rw [(HSS.out x hx).1]; rfl), decide_eq_true ((HTS.out x).2 (.inr rfl))]
            · rw [World.cell?_setCell_other _ _ _ _ (fun q => e (by have := congrArg Addr.off q; simpa using this.symm)), (HSS.out x hx).1]
              congr 2
              rw [Bool.eq_iff_iff, decide_eq_true_iff, decide_eq_true_iff, HTS.out]
              exact ⟨.inl, fun q => q.elim id (fun q => absurd q e)⟩
          · rw [HTN.out, List.nodup_append]
            exact ⟨HN.out, by simp, fun a ha b hb => by rw [List.mem_singleton.1 hb]; exact fun q => HM.out (q ▸ ha)⟩
        case measure => simp [intOf]; omega
    · have hte : at_.length = t := by omega
      have hnd : R = false := by
        rw [HRR.out]
        rw [List.take_of_length_le (by omega)] at hN
        simp [hN]
      subst hnd
      clear hS hN HRR
      have t1 : ¬ (t : Int) < (at_.length : Int) := by omega
      go_wp2
      go_ret
      exact ⟨rfl, hB⟩

set_option maxRecDepth 100000 in
set_option maxHeartbeats 1000000 in
theorem weight_any (s x : Nat) (hs : s < 256) (hx : x < 256) (ao : Option Addr) (cap : Nat) (at_ : List Nat) (hat : Byt at_) (hl : at_.length ≤ 1000) (w : World) (hr : Reads w ao at_) :
    Calls Try.prog 21 #[.int .u8 (s : Int), .int .u8 (x : Int), .slice ao at_.length cap] w fun e w' => e = .returned (U (wt x s (oth s at_))) ∧ Below w.heap.size w w' := by
  have HR := Hid.intro hr
  have HAT := Hid.intro hat
  have HD := Hid.intro (wt_up hx hs (oth s at_) (oth_byt hat) (oth_not s at_))
  have HDV := Hid.intro (fun w => fdiv_any (upw x (oth s at_)) (upw s (oth s at_)) (upw_lt hx _ (oth_byt hat)) (upw_lt hs _ (oth_byt hat)) w)
  rw [HD.out] at HDV
  clear HD
  generalize wt x s (oth s at_) = R at HDV ⊢
  clear hr hat
  go_enter Try.func21, Try.ntmps21
  go_wp2_with fail
  go_loopw [7, 8, 13] (fun a b i wr => ∃ t : Nat, t ≤ at_.length ∧ i = .int .i64 t ∧ a = .int .u8 ((upw x (oth s (at_.take t)) : Nat) : Int) ∧ b = .int .u8 ((upw s (oth s (at_.take t)) : Nat) : Int) ∧ Below w.heap.size w wr) (fun _ _ i _ => at_.length - (intOf i).toNat)
  case atStart => exact ⟨0, by omega, rfl, rfl, rfl, Below.refl _ _⟩
  case round =>
    obtain ⟨t, ht, rfl, rfl, rfl, hB⟩ := hrel
    have hbt : Byt (oth s (at_.take t)) := oth_byt (fun y hy => HAT.out y (List.mem_of_mem_take hy))
    by_cases hlt : t < at_.length
    · obtain ⟨bb, off, rfl, hc⟩ := reads_at HR.out (by omega)
      have cx0 := hc t hlt
      have cx := (hB.cell (cell_lt cx0)).trans cx0
      have hy := HAT.out at_[t] (List.getElem_mem hlt)
      have t1 : (t : Int) < (at_.length : Int) := by omega
      have HTN := oth_snoc s (at_.take t) at_[t]
      rw [← take_snoc at_ t hlt] at HTN
      have hux := upw_lt hx _ hbt
      have hus := upw_lt hs _ hbt
      have HSX := upw_snoc hx _ hbt hy
      have HSS := upw_snoc hs _ hbt hy
      have HB := Hid.intro hB
      clear hB hc cx0
      by_cases he : at_[t] = s
      · rw [if_pos he] at HTN
        rw [he] at cx
        have EX : upw x (oth s (at_.take (t + 1))) = upw x (oth s (at_.take t)) := by rw [HTN]
        have ES : upw s (oth s (at_.take (t + 1))) = upw s (oth s (at_.take t)) := by rw [HTN]
        have EXH := Hid.intro EX
        have ESH := Hid.intro ES
        clear HTN HSX HSS he hy EX ES hbt
        generalize upw x (oth s (at_.take t)) = A at hux EXH ⊢
        generalize upw s (oth s (at_.take t)) = D at hus ESH ⊢
        have hne : ((s : Int) != (s : Int)) = false := by simp
        go_wp2
        go_roundw
        case rel => exact ⟨t + 1, by omega, by go_num, by rw [EXH.out], by rw [ESH.out], HB.out⟩
        case measure => simp [intOf]; omega
      · rw [if_neg he] at HTN
        have EX : upw x (oth s (at_.take (t + 1))) = gmul (upw x (oth s (at_.take t))) (x ^^^ at_[t]) := by rw [HTN, HSX]
        have ES : upw s (oth s (at_.take (t + 1))) = gmul (upw s (oth s (at_.take t))) (s ^^^ at_[t]) := by rw [HTN, HSS]
        have hne : ((at_[t] : Int) != (s : Int)) = true := by rw [bne_iff_ne]; omega
        have A1 := Hid.intro (fun w => add_same x at_[t] hx hy w)
        have A2 := Hid.intro (fun w => add_same s at_[t] hs hy w)
        have M1 := Hid.intro (fun w => fmul_any (upw x (oth s (at_.take t))) (x ^^^ at_[t]) hux (xor_lt8 hx hy) w)
        have M2 := Hid.intro (fun w => fmul_any (upw s (oth s (at_.take t))) (s ^^^ at_[t]) hus (xor_lt8 hs hy) w)
        rw [← EX] at M1
        rw [← ES] at M2
        clear HTN HSX HSS he EX ES hbt
        generalize upw x (oth s (at_.take t)) = A at hux M1 ⊢
        generalize upw s (oth s (at_.take t)) = D at hus M2 ⊢
        generalize x ^^^ at_[t] = XY at A1 M1
        generalize s ^^^ at_[t] = SY at A2 M2
        generalize at_[t] = y at cx hy hne A1 A2
        go_wp2_with fail
        refine (A1.out _).mono ?_
        rintro e w1 ⟨rfl, rfl⟩
        go_wp2_with fail
        refine (M1.out _).mono ?_
        rintro e w1 ⟨rfl, B1⟩
        go_wp2_with fail
        refine (A2.out _).mono ?_
        rintro e w2 ⟨rfl, rfl⟩
        go_wp2_with fail
        refine (M2.out _).mono ?_
        rintro e w2 ⟨rfl, B2⟩
        have BW := HB.out.trans ((B1.mono HB.out.size).trans (B2.mono (Nat.le_trans HB.out.size B1.size)))
        clear B1 B2
        go_wp2
        go_roundw
        case rel => exact ⟨t + 1, by omega, by go_num, rfl, rfl, BW⟩
        case measure => simp [intOf]; omega
    · have hte : at_.length = t := by omega
      have t1 : ¬ (t : Int) < (at_.length : Int) := by omega
      rw [List.take_of_length_le (by omega)]
      clear hbt
      generalize upw x (oth s at_) = A at HDV ⊢
      generalize upw s (oth s at_) = D at HDV ⊢
      go_wp2_with fail
      refine (HDV.out _).mono ?_
      rintro e w1 ⟨rfl, B1⟩
      have BW := hB.trans (B1.mono hB.size)
      clear B1 hB
      go_wp2
      go_ret
      exact ⟨rfl, BW⟩

/-- Factors so far, and bytes 0 behind them. -/
def wtsT (at_ : List Nat) (x t : Nat) : List Nat := (wts at_ x).take t ++ List.replicate (at_.length - t) 0

theorem wtsT_start (at_ : List Nat) (x : Nat) : wtsT at_ x 0 = List.replicate at_.length 0 := by simp [wtsT]

theorem wtsT_end (at_ : List Nat) (x : Nat) : wtsT at_ x at_.length = wts at_ x := by
  unfold wtsT
  rw [List.take_of_length_le (by rw [wts_length]; omega)]
  simp

theorem wtsT_length {at_ : List Nat} {x t : Nat} (h : t ≤ at_.length) : (wtsT at_ x t).length = at_.length := by
  simp [wtsT, wts_length]; omega

theorem wtsT_set {α : Type} (f : Nat → α) {at_ : List Nat} {x t : Nat} (h : t < at_.length) : ((wtsT at_ x t).map f).set t (f (wt x at_[t] (oth at_[t] at_))) = (wtsT at_ x (t + 1)).map f := by
  apply List.ext_getElem
  · simp [wtsT_length (Nat.le_of_lt h), wtsT_length (show t + 1 ≤ at_.length from h)]
  · intro j h1 h2
    have hj : j < at_.length := by simpa [wtsT_length (Nat.le_of_lt h)] using h1
    have hw := wts_length at_ x
    rw [List.getElem_set]
    by_cases e : t = j
    · subst e
      rw [if_pos rfl]
      simp only [List.getElem_map, wtsT]
      rw [List.getElem_append_left (by simp [hw]; omega), List.getElem_take]
      simp [wts]
    · rw [if_neg e]
      simp only [List.getElem_map, wtsT]
      by_cases q : j < t
      · rw [List.getElem_append_left (by simp [hw]; omega), List.getElem_append_left (by simp [hw]; omega), List.getElem_take, List.getElem_take]
      · rw [List.getElem_append_right (by simp [hw]; omega), List.getElem_append_right (by simp [hw]; omega)]
        simp

set_option maxRecDepth 100000 in
set_option maxHeartbeats 1000000 in
theorem weights_ok (ao : Option Addr) (cap : Nat) (at_ : List Nat) (hat : Byt at_) (hd : at_.Nodup) (hl : at_.length ≤ 1000) (x : Nat) (hx : x < 256) (w : World) (hr : Reads w ao at_) :
    Calls Try.prog 12 #[.slice ao at_.length cap, .int .u8 (x : Int)] w fun e w' => ∃ v, e = .returned v ∧ w'.ownsRow 0 5 1 v at_.length ((wts at_ x).map U) ∧ (∀ j, v.ownBlock = some j → w.heap.size ≤ j) ∧ Below w.heap.size w w' := by
  obtain ⟨i8, hi8, hz80, hz81, hz82⟩ := info_parts info_u8
  have HR := Hid.intro hr
  have HAT := Hid.intro hat
  have HA := Hid.intro (anyAlike_any ao cap at_ hat hl w hr)
  have hd1 : (!decide at_.Nodup) = false := by simp [hd]
  rw [hd1] at HA
  clear hr hat hd1 hd
  go_enter Try.func12, Try.ntmps12
  go_wp2_with fail
  refine HA.out.mono ?_
  rintro e w1 ⟨rfl, B1⟩
  clear HA
  go_wp2_with (at_make; refine wpList_make_full _ rfl _ _ 24 rfl 0 5 i8 (.int .u8 0) 1 Try.underlying24 hi8 hz80 hz81 _ _ _ _ at_.length rfl rfl (by omega) (by omega) (by rw [hz82]; omega) (by unfold maxLen; omega) (Nat.zero_le _) ?_)
  intro w2 hown hgrow
  have B2 : Below w.heap.size w w2 := B1.grown hgrow B1.size (fun k hk => by cases hk)
  have O2 : w2.ownsRow 0 5 1 (.slice (some ⟨w1.heap.size, 0, none⟩) at_.length at_.length) at_.length ((wtsT at_ x 0).map U) := by
    rw [toList_madeCells_one] at hown
    rw [wtsT_start, List.map_replicate]
    exact hown
  have NB := Hid.intro B1.size
  have OH := Hid.intro O2
  have BH := Hid.intro B2
  generalize w1.heap.size = mb at OH NB
  clear hown hgrow B1 B2 O2
  go_wp2_with fail
  go_loopw [15] (fun i ws => ∃ t : Nat, t ≤ at_.length ∧ i = .int .i64 t ∧ ws.ownsRow 0 5 1 (.slice (some ⟨mb, 0, none⟩) at_.length at_.length) at_.length ((wtsT at_ x t).map U) ∧ Below w.heap.size w ws) (fun i _ => at_.length - (intOf i).toNat)
  case atStart => exact ⟨0, by omega, rfl, OH.out, BH.out⟩
  case round =>
    clear OH BH
    obtain ⟨t, ht, rfl, hO, hB⟩ := hrel
    by_cases hlt : t < at_.length
    · have HW := Hid.intro (weight_any at_[t] x (HAT.out _ (List.getElem_mem hlt)) hx ao cap at_ HAT.out hl)
      obtain ⟨bb, off, rfl, hc⟩ := reads_at HR.out (by omega)
      have cx0 := hc t hlt
      have cx := (hB.cell (cell_lt cx0)).trans cx0
      have RW := Hid.intro (fun W (h : Below w.heap.size w W) => HR.out.below h)
      have t1 : (t : Int) < (at_.length : Int) := by omega
      have t0 : (0 : Int) ≤ (t : Int) := by omega
      have SET := Hid.intro (wtsT_set U (x := x) hlt)
      have OH := Hid.intro hO
      have BH := Hid.intro hB
      clear hO hB hc cx0
      generalize wt x at_[t] (oth at_[t] at_) = Y at HW SET
      generalize at_[t] = y at cx HW
      go_wp2_with fail
      refine (HW.out wr (RW.out wr BH.out)).mono ?_
      rintro e w3 ⟨rfl, B3⟩
      have O3 := ownsRow_keep OH.out fun k hk => B3.block k (ownsRow_lt OH.out hk)
      have B3w := BH.out.trans (B3.mono BH.out.size)
      have hST := (O3.stored t (U Y)).1
      rw [SET.out] at hST
      obtain ⟨u, cu⟩ : ∃ u, w3.cell? ⟨mb, t, none⟩ = some u := by
        rw [O3.cellAt t (by omega)]
        exact ⟨_, List.getElem?_eq_getElem (by rw [List.length_map, wtsT_length (by omega)]; exact hlt)⟩
      have fu : w3.frozen? ⟨mb, t, none⟩ = false := O3.frozenAt t
      have STH := Hid.intro hST
      have B3H := Hid.intro B3w
      clear B3 O3 hST B3w OH BH cx RW HW SET
      go_wp2
      go_roundw
      case rel => exact ⟨t + 1, by omega, by go_num, STH.out, B3H.out.setCell (p := ⟨mb, t, none⟩) NB.out _⟩
      case measure => simp [intOf]; omega
    · have hte : at_.length = t := by omega
      have t1 : ¬ (t : Int) < (at_.length : Int) := by omega
      rw [← hte, wtsT_end] at hO
      clear hte ht hlt
      go_wp2
      go_ret
      exact ⟨_, rfl, hO, (fun j hj => by
        have e : mb = j := by simpa [Value.ownBlock] using hj
        rw [← e]; exact NB.out), hB⟩

theorem rweights_any (ao : Option Addr) (cap : Nat) (at_ : List Nat) (hat : Byt at_) (hl : at_.length ≤ 300) (x : Nat) (hx : x < 256) (w : World) (hr : Reads w ao at_) (_ : ao = none → cap = 0) :
    Calls Try.prog 12 #[.slice ao at_.length cap, .int .u8 (x : Int)] w fun e w' => ∃ v, e = .returned v ∧ Rd w.heap.size w' v (wtsL at_ x) ∧ Below w.heap.size w w' := by
  by_cases hd : at_.Nodup
  · refine (weights_ok ao cap at_ hat hd (by omega) x hx w hr).mono ?_
    rintro e w' ⟨v, rfl, ho, hn, hB⟩
    refine ⟨v, rfl, ?_, hB⟩
    have e : wtsL at_ x = wts at_ x := by unfold wtsL wts; rw [if_pos hd]
    rw [e]
    exact rd_of_owns (by rw [wts_length]; exact ho) hn
  · have e : wtsL at_ x = [] := by unfold wtsL; rw [if_neg hd]
    rw [e]
    have HA := Hid.intro (anyAlike_any ao cap at_ hat (by omega) w hr)
    have hd1 : (!decide at_.Nodup) = true := by simp [hd]
    rw [hd1] at HA
    clear hr hat hd1 hd e
    go_enter Try.func12, Try.ntmps12
    go_wp2_with fail
    refine HA.out.mono ?_
    rintro e w1 ⟨rfl, B1⟩
    go_wp2
    go_ret
    exact ⟨_, rfl, rd_nil _ _, B1⟩

end Go.Proofs.Ytebjkbhidpdpfab
