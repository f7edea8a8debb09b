/- Several texts, one behind the other: RsK1 RsDot RsK2 RsK3 RsK4 RsK5 RsCut RsK6 RsK4S RsK7. -/
import Derived.Test.YthhggjakenalpaaGreatDoorRsVal
import Derived.Test.YthhggjakenalpaaGreatDoorMPlain
import Derived.Test.YthhggjakenalpaaGreatDoorMFld
import Derived.Deep.RegionHeld3
import Derived.Test.YthhggjakenalpaaGreatDoorAppB
/- Package rs: within, textBytes, May, Pad. -/
namespace Go.Proofs.YthhggjakenalpaaGreatDoor
set_option maxRecDepth 100000
open Go.RowKit
open Bt

def inW (n f t : Int) : Bool := decide (f ≤ n) && decide (n ≤ t)

theorem within_any (n f t : Int) (w : World) :
    Calls Tryz.prog 103 #[.int .i64 n, .int .i64 f, .int .i64 t] w fun e w' => e = .returned (.bool (inW n f t)) ∧ w = w' := by
  by_cases h1 : f ≤ n
  · by_cases h2 : n ≤ t
    · have e : inW n f t = true := by simp [inW, h1, h2]
      rw [e]
      clear e
      go_enter Tryz.func103, Tryz.ntmps103
      go_wp2
      go_ret
      exact ⟨rfl, rfl⟩
    · have e : inW n f t = false := by simp [inW]; omega
      rw [e]
      clear e
      go_enter Tryz.func103, Tryz.ntmps103
      go_wp2
      go_ret
      exact ⟨rfl, rfl⟩
  · have e : inW n f t = false := by simp [inW]; omega
    rw [e]
    clear e
    go_enter Tryz.func103, Tryz.ntmps103
    go_wp2
    go_ret
    exact ⟨rfl, rfl⟩

theorem mayC_in (k n s : Int) : mayC k n s = (inW k 1 6 && (inW n k 10 && inW s 1 24)) := by
  rw [Bool.eq_iff_iff]
  simp only [mayC, inW, Bool.and_eq_true, decide_eq_true_eq]
  omega

set_option maxRecDepth 100000 in
set_option maxHeartbeats 1000000 in
theorem rmay_any (k n s : Int) (w : World) :
    Calls Tryz.prog 62 #[Cd k n s] w fun e w' => e = .returned (.bool (mayC k n s)) ∧ Below w.heap.size w w' := by
  rw [mayC_in]
  have H1 := Hid.intro (within_any k 1 6)
  have H2 := Hid.intro (within_any n k 10)
  have H3 := Hid.intro (within_any s 1 24)
  have HB := Hid.intro ((Below.refl _ w).alloc (Nat.le_refl _) (.cells #[.int .i64 k, .int .i64 n, .int .i64 s] 23))
  rcases e1 : inW k 1 6 with _ | _
  · rw [e1] at H1
    go_enter Tryz.func62, Tryz.ntmps62
    go_wp2_with fail
    refine (H1.out _).mono ?_
    rintro e w1 ⟨rfl, rfl⟩
    go_wp2
    go_ret
    exact ⟨rfl, HB.out⟩
  · rw [e1] at H1
    rcases e2 : inW n k 10 with _ | _
    · rw [e2] at H2
      go_enter Tryz.func62, Tryz.ntmps62
      go_wp2_with fail
      refine (H1.out _).mono ?_
      rintro e w1 ⟨rfl, rfl⟩
      go_wp2_with fail
      refine (H2.out _).mono ?_
      rintro e w1 ⟨rfl, rfl⟩
      go_wp2
      go_ret
      exact ⟨rfl, HB.out⟩
    · rw [e2] at H2
      rcases e3 : inW s 1 24 with _ | _
      all_goals
        rw [e3] at H3
        go_enter Tryz.func62, Tryz.ntmps62
        go_wp2_with fail
        refine (H1.out _).mono ?_
        rintro e w1 ⟨rfl, rfl⟩
        go_wp2_with fail
        refine (H2.out _).mono ?_
        rintro e w1 ⟨rfl, rfl⟩
        go_wp2_with fail
        refine (H3.out _).mono ?_
        rintro e w1 ⟨rfl, rfl⟩
        go_wp2
        go_ret
        exact ⟨rfl, HB.out⟩

/-- The bytes of a text, of a code that may be. -/
theorem textBytes_any (K S : Nat) (n : Int) (L : Nat) (hL : L = K * S) (hb : L ≤ 1000) (w : World) :
    Calls Tryz.prog 147 #[Cd K n S] w fun e w' => e = .returned (.int .i64 (L : Int)) ∧ Below w.heap.size w w' := by
  have hw : IntKind.i64.wrap ((K : Int) * (S : Int)) = (L : Int) := by rw [← Int.natCast_mul, ← hL]; exact IntWalk.i64_in _ (by omega)
  clear hL
  go_enter Tryz.func147, Tryz.ntmps147
  go_wp2
  go_ret
  exact ⟨rfl, (Below.refl _ _).alloc (Nat.le_refl _) _⟩

/-- The product, of a code that may be. -/
theorem may_prod {K n S : Nat} (h : mayC K n S = true) : K * S ≤ 144 := by
  obtain ⟨h1, h2, h3, h4, h5, h6⟩ := mayC_true h
  calc K * S ≤ 6 * S := Nat.mul_le_mul_right _ (by omega)
    _ ≤ 6 * 24 := Nat.mul_le_mul_left _ (by omega)

end Go.Proofs.YthhggjakenalpaaGreatDoor

/- Plain: factors as the code reckons them (all that is above, all that is below), and a value as a sum of products; no program is named here. -/
namespace Go.Proofs.YthhggjakenalpaaGreatDoor.Bt
set_option maxRecDepth 100000

/-- The product, over bytes y, of (c - y). -/
def upw (c : Nat) : List Nat → Nat
  | [] => 1
  | y :: ys => gmul (c ^^^ y) (upw c ys)

theorem upw_lt {c : Nat} (hc : c < 256) (l : List Nat) (hl : Byt l) : upw c l < 256 := by
  cases l with
  | nil => show 1 < 256; decide
  | cons y ys => exact gmul_lt (xor_lt8 hc hl.head) _

theorem upw_snoc {c : Nat} (hc : c < 256) (l : List Nat) (hl : Byt l) {y : Nat} (hy : y < 256) : upw c (l ++ [y]) = gmul (upw c l) (c ^^^ y) := by
  have hcy := xor_lt8 hc hy
  induction l with
  | nil => show gmul (c ^^^ y) 1 = gmul 1 (c ^^^ y); rw [gmul_one hcy, gmul_one_left hcy]
  | cons z zs ih =>
    have h1 := xor_lt8 hc hl.head
    show gmul (c ^^^ z) (upw c (zs ++ [y])) = gmul (gmul (c ^^^ z) (upw c zs)) (c ^^^ y)
    rw [ih hl.tail, gmul_assoc h1 (upw_lt hc zs hl.tail)]

theorem upw_ne {s : Nat} (hs : s < 256) (l : List Nat) (hl : Byt l) (h : s ∉ l) : upw s l ≠ 0 := by
  induction l with
  | nil => show 1 ≠ 0; decide
  | cons y ys ih =>
    have h1 : s ^^^ y ≠ 0 := fun e => h (by rw [xor_self_zero e]; simp)
    exact gmul_ne (xor_lt8 hs hl.head) (upw_lt hs ys hl.tail) h1 (ih hl.tail (fun q => h (by simp [q])))

theorem ginv_gmul {a b : Nat} (ha : a < 256) (hb : b < 256) (a0 : a ≠ 0) (b0 : b ≠ 0) : ginv (gmul a b) = gmul (ginv a) (ginv b) := by
  refine (ginv_only (gmul_lt ha b) (gmul_lt (ginv_lt a) _) ?_).symm
  have h1 := ginv_mul ha a0
  have h2 := ginv_mul hb b0
  have ia := ginv_lt a
  have ib := ginv_lt b
  generalize ginv a = A at h1 ia
  generalize ginv b = B at h2 ib
  rw [gmul_comm ha hb, gmul_assoc hb ha, ← gmul_assoc ha ia, h1, gmul_one_left ib, h2]

theorem wt_up {x s : Nat} (hx : x < 256) (hs : s < 256) (l : List Nat) (hl : Byt l) (h : s ∉ l) : gmul (upw x l) (ginv (upw s l)) = wt x s l := by
  induction l with
  | nil =>
    show gmul 1 (ginv 1) = 1
    exact ginv_mul (by decide) (by decide)
  | cons y ys ih =>
    have hn : s ∉ ys := fun q => h (by simp [q])
    have h1 : s ^^^ y ≠ 0 := fun e => h (by rw [xor_self_zero e]; simp)
    have e := ih hl.tail hn
    rw [wt, ← e]
    show gmul (gmul (x ^^^ y) (upw x ys)) (ginv (gmul (s ^^^ y) (upw s ys))) = _
    rw [ginv_gmul (xor_lt8 hs hl.head) (upw_lt hs ys hl.tail) h1 (upw_ne hs ys hl.tail hn)]
    have a1 := xor_lt8 hx hl.head
    have a2 := upw_lt hx ys hl.tail
    have a3 := ginv_lt (s ^^^ y)
    have a4 := ginv_lt (upw s ys)
    generalize x ^^^ y = A at a1
    generalize upw x ys = B at a2
    generalize ginv (s ^^^ y) = C at a3
    generalize ginv (upw s ys) = D at a4
    rw [gmul_assoc a1 a2, gmul_assoc a1 a3, ← gmul_assoc a2 a3, gmul_comm a2 a3, gmul_assoc a3 a2]

theorem oth_snoc (s : Nat) (l : List Nat) (y : Nat) : oth s (l ++ [y]) = if y = s then oth s l else oth s l ++ [y] := by
  unfold oth
  rw [List.filter_append]
  by_cases e : y = s
  · rw [if_pos e]; simp [e]
  · rw [if_neg e]; simp [e]

/-- A code's factors, one behind the other. -/
def wts (at_ : List Nat) (x : Nat) : List Nat := at_.map (fun s => wt x s (oth s at_))

theorem wts_length (at_ : List Nat) (x : Nat) : (wts at_ x).length = at_.length := by simp [wts]

theorem wts_byt {at_ : List Nat} (ha : Byt at_) {x : Nat} (hx : x < 256) : Byt (wts at_ x) := fun y hy => by
  obtain ⟨s, _, rfl⟩ := List.mem_map.1 hy
  exact wt_lt hx _ (oth_byt ha)

theorem wts_getD {at_ : List Nat} {x r : Nat} (hr : r < at_.length) : (wts at_ x).getD r 0 = wt x (at_.getD r 0) (oth (at_.getD r 0) at_) := by
  rw [← List.getElem_eq_getD (h := by rw [wts_length]; exact hr) 0, ← List.getElem_eq_getD (h := hr) 0]
  simp [wts]

theorem lsum_snoc (all : List Nat) (x : Nat) (l : List (Nat × Nat)) (p : Nat × Nat) : lsum all x (l ++ [p]) = lsum all x l ^^^ gmul (wt x p.1 (oth p.1 all)) p.2 := by
  induction l with
  | nil => simp [lsum]
  | cons q r ih => simp only [List.cons_append, lsum, ih, Nat.xor_assoc]

theorem fs_lsum (at_ vals : List Nat) (x : Nat) (hl : vals.length = at_.length) (t : Nat) (ht : t ≤ at_.length) :
    fs t (fun r => gmul ((wts at_ x).getD r 0) (vals.getD r 0)) = lsum at_ x ((at_.zip vals).take t) := by
  induction t with
  | zero => rfl
  | succ t ih =>
    have hz : t < (at_.zip vals).length := by simp; omega
    rw [List.take_succ_eq_append_getElem hz, lsum_snoc, ← ih (by omega)]
    show _ ^^^ gmul ((wts at_ x).getD t 0) (vals.getD t 0) = _ ^^^ _
    rw [wts_getD (by omega), List.getElem_zip, ← List.getElem_eq_getD (h := by omega) 0, ← List.getElem_eq_getD (h := by omega) 0]

/-- The sum of what is told times the factors is the polynomial's value. -/
theorem dot_poly {at_ vals : List Nat} (ha : Byt at_) (hv : Byt vals) (hl : vals.length = at_.length) {x : Nat} (hx : x < 256) :
    fs at_.length (fun r => gmul ((wts at_ x).getD r 0) (vals.getD r 0)) = pev (poly at_ vals) x := by
  have hz : (at_.zip vals).length = at_.length := by simp [hl]
  have hw : ∀ p ∈ at_.zip vals, p.2 < 256 := fun p hp => hv _ (List.of_mem_zip (a := p.1) (b := p.2) hp).2
  rw [fs_lsum at_ vals x hl _ (Nat.le_refl _), List.take_of_length_le (by omega), ← pev_lpol ha hx _ hw]
  rfl

end Go.Proofs.YthhggjakenalpaaGreatDoor.Bt

/- Package rs: anyAlike, weight, Weights. -/
namespace Go.Proofs.YthhggjakenalpaaGreatDoor
set_option maxRecDepth 100000
open Go.RowKit
open Bt

theorem take_mem_iff {l : List Nat} {i x : Nat} (hi : i < l.length) : x ∈ l.take (i + 1) ↔ x ∈ l.take i ∨ x = l[i] := by
  rw [take_snoc l i hi, List.mem_append, List.mem_singleton]

theorem zero_seen : ∃ Z : Array Value, (∀ x, x < 256 → Z[x]? = some (.bool false)) ∧ ∀ w : World, Sem.run Tryz.prog (zeroValue 199) w = .ok (.agg Z) w :=
  ⟨Array.replicate 256 (.bool false), fun x hx => by simp [hx], fun w => by kernel_rfl⟩

/-- Which bytes were seen. -/
def Seen (w : World) (b : Nat) (l : List Nat) : Prop := ∀ x, x < 256 → w.cell? ⟨b, x, none⟩ = some (.bool (decide (x ∈ l))) ∧ w.frozen? ⟨b, x, none⟩ = false

set_option maxRecDepth 100000 in
set_option maxHeartbeats 1000000 in
theorem anyAlike_any (ao : Option Addr) (cap : Nat) (at_ : List Nat) (hat : Byt at_) (hl : at_.length ≤ 1000) (w : World) (hr : Reads w ao at_) :
    Calls Tryz.prog 170 #[.slice ao at_.length cap] w fun e w' => e = .returned (.bool (!decide at_.Nodup)) ∧ Below w.heap.size w w' := by
  have HR := Hid.intro hr
  have HAT := Hid.intro hat
  obtain ⟨R, hR⟩ : ∃ R, R = !decide at_.Nodup := ⟨_, rfl⟩
  rw [← hR]
  have HRR := Hid.intro hR
  obtain ⟨Z, hZ, z64⟩ := zero_seen
  have HZ := Hid.intro hZ
  clear hr hat hR hZ
  go_enter Tryz.func170, Tryz.ntmps170
  go_wp2_with fail
  clear z64
  go_loopw [8] (fun i wr => ∃ t : Nat, t ≤ at_.length ∧ i = .int .i64 t ∧ Seen wr w.heap.size (at_.take t) ∧ (at_.take t).Nodup ∧ Below w.heap.size w wr) (fun i _ => at_.length - (intOf i).toNat)
  case atStart =>
    refine ⟨0, by omega, rfl, fun x hx => ⟨?_, frozen_of_row _ _ _ _ _ (heap_alloc_new w _)⟩, by simp, (Below.refl _ _).alloc (Nat.le_refl _) _⟩
    rw [cell_of_row _ _ _ _ _ _ (heap_alloc_new w _)]
    simpa using HZ.out x hx
  case round =>
    obtain ⟨t, ht, rfl, hS, hN, hB⟩ := hrel
    by_cases hlt : t < at_.length
    · obtain ⟨bb, off, rfl, hc⟩ := reads_at HR.out (by omega)
      have cx0 := hc t hlt
      have cx := (hB.cell (cell_lt cx0)).trans cx0
      have hx := HAT.out at_[t] (List.getElem_mem hlt)
      obtain ⟨hs1, hs2⟩ := hS _ hx
      have t1 : (t : Int) < (at_.length : Int) := by omega
      have x0 : (0 : Int) ≤ (at_[t] : Int) := by omega
      have x1 : (at_[t] : Int) < 256 := by omega
      have HTS := Hid.intro (fun x => take_mem_iff (x := x) hlt)
      have HTN := Hid.intro (take_snoc at_ t hlt)
      have HSS := Hid.intro hS
      have HN := Hid.intro hN
      have HB := Hid.intro hB
      by_cases hm : at_[t] ∈ at_.take t
      · have hnd : R = true := by
          rw [HRR.out]
          have : ¬ at_.Nodup := fun q => by
            have q1 : (at_.take (t + 1)).Nodup := q.sublist (List.take_sublist _ _)
            rw [HTN.out, List.nodup_append] at q1
            exact q1.2.2 _ hm _ (by simp) rfl
          simp [this]
        subst hnd
        rw [decide_eq_true hm] at hs1
        generalize at_[t] = X at cx x0 x1 hs1 hs2 hx
        clear hS hN hB hc cx0 HTS HTN hm HRR
        go_wp2
        go_ret
        exact ⟨rfl, HB.out⟩
      · rw [decide_eq_false hm] at hs1
        have HM := Hid.intro hm
        generalize at_[t] = X at cx x0 x1 hs1 hs2 hx HTS HTN HM
        clear hS hN hB hc cx0 hm
        go_wp2
        go_roundw
        case rel =>
          refine ⟨t + 1, by omega, by go_num, fun x hx => ⟨?_, by rw [World.frozen?_setCell]; exact (HSS.out x hx).2⟩, ?_, HB.out.setCell (p := ⟨w.heap.size, X, none⟩) (Nat.le_refl _) _⟩
          · by_cases e : x = X
            · subst e
              rw [World.cell?_setCell_same' _ _ _ (by rw [(HSS.out x hx).1]; rfl), decide_eq_true ((HTS.out x).2 (.inr rfl))]
            · rw [World.cell?_setCell_other _ _ _ _ (fun q => e (by have := congrArg Addr.off q; simpa using this.symm)), (HSS.out x hx).1]
              congr 2
              rw [Bool.eq_iff_iff, decide_eq_true_iff, decide_eq_true_iff, HTS.out]
              exact ⟨.inl, fun q => q.elim id (fun q => absurd q e)⟩
          · rw [HTN.out, List.nodup_append]
            exact ⟨HN.out, by simp, fun a ha b hb => by rw [List.mem_singleton.1 hb]; exact fun q => HM.out (q ▸ ha)⟩
        case measure => simp [intOf]; omega
    · have hte : at_.length = t := by omega
      have hnd : R = false := by
        rw [HRR.out]
        rw [List.take_of_length_le (by omega)] at hN
        simp [hN]
      subst hnd
      clear hS hN HRR
      have t1 : ¬ (t : Int) < (at_.length : Int) := by omega
      go_wp2
      go_ret
      exact ⟨rfl, hB⟩

set_option maxRecDepth 100000 in
set_option maxHeartbeats 1000000 in
theorem weight_any (s x : Nat) (hs : s < 256) (hx : x < 256) (ao : Option Addr) (cap : Nat) (at_ : List Nat) (hat : Byt at_) (hl : at_.length ≤ 1000) (w : World) (hr : Reads w ao at_) :
    Calls Tryz.prog 171 #[.int .u8 (s : Int), .int .u8 (x : Int), .slice ao at_.length cap] w fun e w' => e = .returned (U (wt x s (oth s at_))) ∧ Below w.heap.size w w' := by
  have HR := Hid.intro hr
  have HAT := Hid.intro hat
  have HD := Hid.intro (wt_up hx hs (oth s at_) (oth_byt hat) (oth_not s at_))
  have HDV := Hid.intro (fun w => fdiv_any (upw x (oth s at_)) (upw s (oth s at_)) (upw_lt hx _ (oth_byt hat)) (upw_lt hs _ (oth_byt hat)) w)
  rw [HD.out] at HDV
  clear HD
  generalize wt x s (oth s at_) = R at HDV ⊢
  clear hr hat
  go_enter Tryz.func171, Tryz.ntmps171
  go_wp2_with fail
  go_loopw [7, 8, 13] (fun a b i wr => ∃ t : Nat, t ≤ at_.length ∧ i = .int .i64 t ∧ a = .int .u8 ((upw x (oth s (at_.take t)) : Nat) : Int) ∧ b = .int .u8 ((upw s (oth s (at_.take t)) : Nat) : Int) ∧ Below w.heap.size w wr) (fun _ _ i _ => at_.length - (intOf i).toNat)
  case atStart => exact ⟨0, by omega, rfl, rfl, rfl, Below.refl _ _⟩
  case round =>
    obtain ⟨t, ht, rfl, rfl, rfl, hB⟩ := hrel
    have hbt : Byt (oth s (at_.take t)) := oth_byt (fun y hy => HAT.out y (List.mem_of_mem_take hy))
    by_cases hlt : t < at_.length
    · obtain ⟨bb, off, rfl, hc⟩ := reads_at HR.out (by omega)
      have cx0 := hc t hlt
      have cx := (hB.cell (cell_lt cx0)).trans cx0
      have hy := HAT.out at_[t] (List.getElem_mem hlt)
      have t1 : (t : Int) < (at_.length : Int) := by omega
      have HTN := oth_snoc s (at_.take t) at_[t]
      rw [← take_snoc at_ t hlt] at HTN
      have hux := upw_lt hx _ hbt
      have hus := upw_lt hs _ hbt
      have HSX := upw_snoc hx _ hbt hy
      have HSS := upw_snoc hs _ hbt hy
      have HB := Hid.intro hB
      clear hB hc cx0
      by_cases he : at_[t] = s
      · rw [if_pos he] at HTN
        rw [he] at cx
        have EX : upw x (oth s (at_.take (t + 1))) = upw x (oth s (at_.take t)) := by rw [HTN]
        have ES : upw s (oth s (at_.take (t + 1))) = upw s (oth s (at_.take t)) := by rw [HTN]
        have EXH := Hid.intro EX
        have ESH := Hid.intro ES
        clear HTN HSX HSS he hy EX ES hbt
        generalize upw x (oth s (at_.take t)) = A at hux EXH ⊢
        generalize upw s (oth s (at_.take t)) = D at hus ESH ⊢
        have hne : ((s : Int) != (s : Int)) = false := by simp
        go_wp2
        go_roundw
        case rel => exact ⟨t + 1, by omega, by go_num, by rw [EXH.out], by rw [ESH.out], HB.out⟩
        case measure => simp [intOf]; omega
      · rw [if_neg he] at HTN
        have EX : upw x (oth s (at_.take (t + 1))) = gmul (upw x (oth s (at_.take t))) (x ^^^ at_[t]) := by rw [HTN, HSX]
        have ES : upw s (oth s (at_.take (t + 1))) = gmul (upw s (oth s (at_.take t))) (s ^^^ at_[t]) := by rw [HTN, HSS]
        have hne : ((at_[t] : Int) != (s : Int)) = true := by rw [bne_iff_ne]; omega
        have A1 := Hid.intro (fun w => add_same x at_[t] hx hy w)
        have A2 := Hid.intro (fun w => add_same s at_[t] hs hy w)
        have M1 := Hid.intro (fun w => fmul_any (upw x (oth s (at_.take t))) (x ^^^ at_[t]) hux (xor_lt8 hx hy) w)
        have M2 := Hid.intro (fun w => fmul_any (upw s (oth s (at_.take t))) (s ^^^ at_[t]) hus (xor_lt8 hs hy) w)
        rw [← EX] at M1
        rw [← ES] at M2
        clear HTN HSX HSS he EX ES hbt
        generalize upw x (oth s (at_.take t)) = A at hux M1 ⊢
        generalize upw s (oth s (at_.take t)) = D at hus M2 ⊢
        generalize x ^^^ at_[t] = XY at A1 M1
        generalize s ^^^ at_[t] = SY at A2 M2
        generalize at_[t] = y at cx hy hne A1 A2
        go_wp2_with fail
        refine (A1.out _).mono ?_
        rintro e w1 ⟨rfl, rfl⟩
        go_wp2_with fail
        refine (M1.out _).mono ?_
        rintro e w1 ⟨rfl, B1⟩
        go_wp2_with fail
        refine (A2.out _).mono ?_
        rintro e w2 ⟨rfl, rfl⟩
        go_wp2_with fail
        refine (M2.out _).mono ?_
        rintro e w2 ⟨rfl, B2⟩
        have BW := HB.out.trans ((B1.mono HB.out.size).trans (B2.mono (Nat.le_trans HB.out.size B1.size)))
        clear B1 B2
        go_wp2
        go_roundw
        case rel => exact ⟨t + 1, by omega, by go_num, rfl, rfl, BW⟩
        case measure => simp [intOf]; omega
    · have hte : at_.length = t := by omega
      have t1 : ¬ (t : Int) < (at_.length : Int) := by omega
      rw [List.take_of_length_le (by omega)]
      clear hbt
      generalize upw x (oth s at_) = A at HDV ⊢
      generalize upw s (oth s at_) = D at HDV ⊢
      go_wp2_with fail
      refine (HDV.out _).mono ?_
      rintro e w1 ⟨rfl, B1⟩
      have BW := hB.trans (B1.mono hB.size)
      clear B1 hB
      go_wp2
      go_ret
      exact ⟨rfl, BW⟩

/-- Factors so far, and bytes 0 behind them. -/
def wtsT (at_ : List Nat) (x t : Nat) : List Nat := (wts at_ x).take t ++ List.replicate (at_.length - t) 0

theorem wtsT_start (at_ : List Nat) (x : Nat) : wtsT at_ x 0 = List.replicate at_.length 0 := by simp [wtsT]

theorem wtsT_end (at_ : List Nat) (x : Nat) : wtsT at_ x at_.length = wts at_ x := by
  unfold wtsT
  rw [List.take_of_length_le (by rw [wts_length]; omega)]
  simp

theorem wtsT_length {at_ : List Nat} {x t : Nat} (h : t ≤ at_.length) : (wtsT at_ x t).length = at_.length := by
  simp [wtsT, wts_length]; omega

theorem wtsT_set {α : Type} (f : Nat → α) {at_ : List Nat} {x t : Nat} (h : t < at_.length) : ((wtsT at_ x t).map f).set t (f (wt x at_[t] (oth at_[t] at_))) = (wtsT at_ x (t + 1)).map f := by
  apply List.ext_getElem
  · simp [wtsT_length (Nat.le_of_lt h), wtsT_length (show t + 1 ≤ at_.length from h)]
  · intro j h1 h2
    have hj : j < at_.length := by simpa [wtsT_length (Nat.le_of_lt h)] using h1
    have hw := wts_length at_ x
    rw [List.getElem_set]
    by_cases e : t = j
    · subst e
      rw [if_pos rfl]
      simp only [List.getElem_map, wtsT]
      rw [List.getElem_append_left (by simp [hw]; omega), List.getElem_take]
      simp [wts]
    · rw [if_neg e]
      simp only [List.getElem_map, wtsT]
      by_cases q : j < t
      · rw [List.getElem_append_left (by simp [hw]; omega), List.getElem_append_left (by simp [hw]; omega), List.getElem_take, List.getElem_take]
      · rw [List.getElem_append_right (by simp [hw]; omega), List.getElem_append_right (by simp [hw]; omega)]
        simp

set_option maxRecDepth 100000 in
set_option maxHeartbeats 1000000 in
theorem weights_ok (ao : Option Addr) (cap : Nat) (at_ : List Nat) (hat : Byt at_) (hd : at_.Nodup) (hl : at_.length ≤ 1000) (x : Nat) (hx : x < 256) (w : World) (hr : Reads w ao at_) :
    Calls Tryz.prog 164 #[.slice ao at_.length cap, .int .u8 (x : Int)] w fun e w' => ∃ v, e = .returned v ∧ w'.ownsRow 0 5 1 v at_.length ((wts at_ x).map U) ∧ (∀ j, v.ownBlock = some j → w.heap.size ≤ j) ∧ Below w.heap.size w w' := by
  obtain ⟨i8, hi8, hz80, hz81, hz82⟩ := info_parts info_u8
  have HR := Hid.intro hr
  have HAT := Hid.intro hat
  have HA := Hid.intro (anyAlike_any ao cap at_ hat hl w hr)
  have hd1 : (!decide at_.Nodup) = false := by simp [hd]
  rw [hd1] at HA
  clear hr hat hd1 hd
  go_enter Tryz.func164, Tryz.ntmps164
  go_wp2_with fail
  refine HA.out.mono ?_
  rintro e w1 ⟨rfl, B1⟩
  clear HA
  go_wp2_with (at_make; refine wpList_make_full _ rfl _ _ 42 rfl 0 5 i8 (.int .u8 0) 1 Tryz.underlying42 hi8 hz80 hz81 _ _ _ _ at_.length rfl rfl (by omega) (by omega) (by rw [hz82]; omega) (by unfold maxLen; omega) (Nat.zero_le _) ?_)
  intro w2 hown hgrow
  have B2 : Below w.heap.size w w2 := B1.grown hgrow B1.size (fun k hk => by cases hk)
  have O2 : w2.ownsRow 0 5 1 (.slice (some ⟨w1.heap.size, 0, none⟩) at_.length at_.length) at_.length ((wtsT at_ x 0).map U) := by
    rw [toList_madeCells_one] at hown
    rw [wtsT_start, List.map_replicate]
    exact hown
  have NB := Hid.intro B1.size
  have OH := Hid.intro O2
  have BH := Hid.intro B2
  generalize w1.heap.size = mb at OH NB
  clear hown hgrow B1 B2 O2
  go_wp2_with fail
  go_loopw [15] (fun i ws => ∃ t : Nat, t ≤ at_.length ∧ i = .int .i64 t ∧ ws.ownsRow 0 5 1 (.slice (some ⟨mb, 0, none⟩) at_.length at_.length) at_.length ((wtsT at_ x t).map U) ∧ Below w.heap.size w ws) (fun i _ => at_.length - (intOf i).toNat)
  case atStart => exact ⟨0, by omega, rfl, OH.out, BH.out⟩
  case round =>
    clear OH BH
    obtain ⟨t, ht, rfl, hO, hB⟩ := hrel
    by_cases hlt : t < at_.length
    · have HW := Hid.intro (weight_any at_[t] x (HAT.out _ (List.getElem_mem hlt)) hx ao cap at_ HAT.out hl)
      obtain ⟨bb, off, rfl, hc⟩ := reads_at HR.out (by omega)
      have cx0 := hc t hlt
      have cx := (hB.cell (cell_lt cx0)).trans cx0
      have RW := Hid.intro (fun W (h : Below w.heap.size w W) => HR.out.below h)
      have t1 : (t : Int) < (at_.length : Int) := by omega
      have t0 : (0 : Int) ≤ (t : Int) := by omega
      have SET := Hid.intro (wtsT_set U (x := x) hlt)
      have OH := Hid.intro hO
      have BH := Hid.intro hB
      clear hO hB hc cx0
      generalize wt x at_[t] (oth at_[t] at_) = Y at HW SET
      generalize at_[t] = y at cx HW
      go_wp2_with fail
      refine (HW.out wr (RW.out wr BH.out)).mono ?_
      rintro e w3 ⟨rfl, B3⟩
      have O3 := ownsRow_keep OH.out fun k hk => B3.block k (ownsRow_lt OH.out hk)
      have B3w := BH.out.trans (B3.mono BH.out.size)
      have hST := (O3.stored t (U Y)).1
      rw [SET.out] at hST
      obtain ⟨u, cu⟩ : ∃ u, w3.cell? ⟨mb, t, none⟩ = some u := by
        rw [O3.cellAt t (by omega)]
        exact ⟨_, List.getElem?_eq_getElem (by rw [List.length_map, wtsT_length (by omega)]; exact hlt)⟩
      have fu : w3.frozen? ⟨mb, t, none⟩ = false := O3.frozenAt t
      have STH := Hid.intro hST
      have B3H := Hid.intro B3w
      clear B3 O3 hST B3w OH BH cx RW HW SET
      go_wp2
      go_roundw
      case rel => exact ⟨t + 1, by omega, by go_num, STH.out, B3H.out.setCell (p := ⟨mb, t, none⟩) NB.out _⟩
      case measure => simp [intOf]; omega
    · have hte : at_.length = t := by omega
      have t1 : ¬ (t : Int) < (at_.length : Int) := by omega
      rw [← hte, wtsT_end] at hO
      clear hte ht hlt
      go_wp2
      go_ret
      exact ⟨_, rfl, hO, (fun j hj => by
        have e : mb = j := by simpa [Value.ownBlock] using hj
        rw [← e]; exact NB.out), hB⟩

theorem rweights_any (ao : Option Addr) (cap : Nat) (at_ : List Nat) (hat : Byt at_) (hl : at_.length ≤ 300) (x : Nat) (hx : x < 256) (w : World) (hr : Reads w ao at_) (_ : ao = none → cap = 0) :
    Calls Tryz.prog 164 #[.slice ao at_.length cap, .int .u8 (x : Int)] w fun e w' => ∃ v, e = .returned v ∧ Rd w.heap.size w' v (wtsL at_ x) ∧ Below w.heap.size w w' := by
  by_cases hd : at_.Nodup
  · refine (weights_ok ao cap at_ hat hd (by omega) x hx w hr).mono ?_
    rintro e w' ⟨v, rfl, ho, hn, hB⟩
    refine ⟨v, rfl, ?_, hB⟩
    have e : wtsL at_ x = wts at_ x := by unfold wtsL wts; rw [if_pos hd]
    rw [e]
    exact rd_of_owns (by rw [wts_length]; exact ho) hn
  · have e : wtsL at_ x = [] := by unfold wtsL; rw [if_neg hd]
    rw [e]
    have HA := Hid.intro (anyAlike_any ao cap at_ hat (by omega) w hr)
    have hd1 : (!decide at_.Nodup) = true := by simp [hd]
    rw [hd1] at HA
    clear hr hat hd1 hd e
    go_enter Tryz.func164, Tryz.ntmps164
    go_wp2_with fail
    refine HA.out.mono ?_
    rintro e w1 ⟨rfl, B1⟩
    go_wp2
    go_ret
    exact ⟨_, rfl, rd_nil _ _, B1⟩

end Go.Proofs.YthhggjakenalpaaGreatDoor

/- Package rs: through (a closure over factors and known shards), what it reckons at a place, and shardOf. -/
namespace Go.Proofs.YthhggjakenalpaaGreatDoor
set_option maxRecDepth 100000
open Go.RowKit
open Bt

theorem undrewK {B : Nat} {w w' : World} (h : Below w.drew.heap.size w.drew w') (hB : B = w.heap.size) : Below B w w' := by
  subst hB
  exact ⟨h.os, h.tape, h.output, h.size, h.block⟩

theorem cellK {w w' : World} {a : Addr} {v : Value} (h : Below w.heap.size w w') (hc : w.cell? a = some v) : w'.cell? a = some v := (h.cell (cell_lt hc)).trans hc

/-- What the closure holds: the known shards, and the factors. -/
def Thr (w : World) (bk bw : Nat) (KL : List (List Nat)) (ws : List Nat) : Prop :=
  (∃ ka kc, w.cell? ⟨bk, 0, none⟩ = some (.slice ka KL.length kc) ∧ ReadsL w ka KL) ∧ ∃ aw cw, w.cell? ⟨bw, 0, none⟩ = some (.slice aw ws.length cw) ∧ Reads w aw ws

theorem Thr.below {w w' : World} {bk bw : Nat} {KL : List (List Nat)} {ws : List Nat} (h : Thr w bk bw KL ws) (hb : Below w.heap.size w w') : Thr w' bk bw KL ws := by
  obtain ⟨⟨ka, kc, h1, h2⟩, aw, cw, h3, h4⟩ := h
  exact ⟨⟨ka, kc, cellK hb h1, h2.below hb⟩, aw, cw, cellK hb h3, h4.below hb⟩

/-- One more place is filled. -/
theorem grow_set {α : Type} (f : Nat → α) (g : Nat → Nat) {S t : Nat} (h : t < S) : (((List.range t).map g ++ List.replicate (S - t) 0).map f).set t (f (g t)) = ((List.range (t + 1)).map g ++ List.replicate (S - (t + 1)) 0).map f := by
  apply List.ext_getElem
  · simp; omega
  · intro j h1 h2
    rw [List.getElem_set]
    by_cases e : t = j
    · subst e
      rw [if_pos rfl]
      simp only [List.getElem_map]
      rw [List.getElem_append_left (by simp)]
      simp
    · rw [if_neg e]
      simp only [List.getElem_map]
      by_cases q : j < t
      · rw [List.getElem_append_left (by simp; omega), List.getElem_append_left (by simp; omega)]
        simp
      · rw [List.getElem_append_right (by simp; omega), List.getElem_append_right (by simp; omega)]
        simp

abbrev thrF (bk bw : Nat) : Value := .func (.func 165) #[] #[.pointer (some ⟨bk, 0, none⟩), .pointer (some ⟨bw, 0, none⟩)]

set_option maxRecDepth 100000 in
set_option maxHeartbeats 1000000 in
theorem through_any (x : Nat) (hx : x < 256) (ao : Option Addr) (cap : Nat) (at_ : List Nat) (hat : Byt at_) (hd : at_.Nodup) (hl : at_.length ≤ 300) (ka : Option Addr) (kc : Nat) (KL : List (List Nat)) (w : World) (hr : Reads w ao at_) (hk : ReadsL w ka KL) :
    Calls Tryz.prog 149 #[.int .u8 (x : Int), .slice ao at_.length cap, .slice ka KL.length kc] w fun e w' => ∃ bk bw, e = .returned (thrF bk bw) ∧ Thr w' bk bw KL (wts at_ x) ∧ Below w.heap.size w w' := by
  have B0 : Below w.heap.size w (w.alloc (.cells #[.slice ka KL.length kc] 36)) := (Below.refl _ w).alloc (Nat.le_refl _) _
  have b0 := heap_alloc_new w (.cells #[.slice ka KL.length kc] 36)
  have HW := Hid.intro (weights_ok ao cap at_ hat hd (by omega) x hx (w.alloc (.cells #[.slice ka KL.length kc] 36)) (hr.below B0))
  have HK := Hid.intro (hk.below B0)
  have B0H := Hid.intro B0
  have b0H := Hid.intro b0
  clear hr hat hd hk B0 b0
  go_enter Tryz.func149, Tryz.ntmps149
  go_wp2_with fail
  refine HW.out.mono ?_
  rintro e w1 ⟨v, rfl, O1, N1, B1⟩
  have b1 := (B1.block _ (lt_of_heap b0H.out)).trans b0H.out
  have B1w := B0H.out.trans (B1.mono B0H.out.size)
  have K1 := HK.out.below B1
  obtain ⟨aw, cw, e1, R1, _⟩ := row_of_owns (show w1.ownsRow 0 5 1 v (wts at_ x).length ((wts at_ x).map U) by rw [wts_length]; exact O1)
  subst e1
  have bH := Hid.intro b1
  have BH := Hid.intro B1w
  have KH := Hid.intro K1
  have RH := Hid.intro R1
  clear HW b1 B1w K1 R1 O1 N1 B1 HK b0H B0H
  obtain ⟨ws, hws⟩ : ∃ ws, ws = wts at_ x := ⟨_, rfl⟩
  rw [← hws] at RH ⊢
  have HWS := Hid.intro hws
  clear hws
  go_wp2
  go_ret
  have BA : Below w1.heap.size w1 (w1.alloc (.cells #[.slice aw ws.length cw] 42)) := (Below.refl _ w1).alloc (Nat.le_refl _) _
  have bk := (BA.block _ (lt_of_heap bH.out)).trans bH.out
  rw [← HWS.out]
  refine ⟨w.heap.size, w1.heap.size, rfl, ⟨⟨ka, kc, ?_, KH.out.below BA⟩, aw, cw, ?_, RH.out.below BA⟩, BH.out.trans (BA.mono BH.out.size)⟩
  · rw [cell_of_row _ _ 0 _ _ _ bk]; rfl
  · exact (cellNew w1 _ _).1

set_option maxRecDepth 100000 in
set_option maxHeartbeats 1000000 in
theorem shardOf_any (S bk bw : Nat) (hS : S ≤ 1000) (g : Nat → Nat) (w : World)
    (hf : ∀ W, Below w.heap.size w W → ∀ p, p < S → Calls Tryz.prog 165 #[.int .i64 (p : Int), .pointer (some ⟨bk, 0, none⟩), .pointer (some ⟨bw, 0, none⟩)] W fun e w' => e = .returned (U (g p)) ∧ Below W.heap.size W w') :
    Calls Tryz.prog 148 #[.int .i64 (S : Int), thrF bk bw] w fun e w' => ∃ v, e = .returned v ∧ w'.ownsRow 0 5 1 v S (((List.range S).map g).map U) ∧ (∀ j, v.ownBlock = some j → w.heap.size ≤ j) ∧ Below w.heap.size w w' := by
  obtain ⟨i8, hi8, hz80, hz81, hz82⟩ := info_parts info_u8
  have HF := Hid.intro hf
  clear hf
  go_enter Tryz.func148, Tryz.ntmps148
  go_wp2_with (at_make; refine wpList_make_full _ rfl _ _ 42 rfl 0 5 i8 (.int .u8 0) 1 Tryz.underlying42 hi8 hz80 hz81 _ _ _ _ S rfl rfl (by omega) (by omega) (by rw [hz82]; omega) (by unfold maxLen; omega) (Nat.zero_le _) ?_)
  intro w2 hown hgrow
  have B2 : Below w.heap.size w w2 := (Below.refl _ w).grown hgrow (Nat.le_refl _) (fun k hk => by cases hk)
  have O2 : w2.ownsRow 0 5 1 (.slice (some ⟨w.heap.size, 0, none⟩) S S) S (((List.range 0).map g ++ List.replicate (S - 0) 0).map U) := by
    rw [toList_madeCells_one] at hown
    rw [show ((List.range 0).map g ++ List.replicate (S - 0) 0) = List.replicate S 0 by simp, List.map_replicate]
    exact hown
  have OH := Hid.intro O2
  have BH := Hid.intro B2
  clear hown hgrow B2 O2
  go_wp2_with fail
  go_loopw [11] (fun i ws => ∃ t : Nat, t ≤ S ∧ i = .int .i64 t ∧ ws.ownsRow 0 5 1 (.slice (some ⟨w.heap.size, 0, none⟩) S S) S (((List.range t).map g ++ List.replicate (S - t) 0).map U) ∧ Below w.heap.size w ws) (fun i _ => S - (intOf i).toNat)
  case atStart => exact ⟨0, by omega, rfl, OH.out, BH.out⟩
  case round =>
    clear OH BH
    obtain ⟨t, ht, rfl, hO, hB⟩ := hrel
    by_cases hlt : t < S
    · have HC := Hid.intro (HF.out wr hB t hlt)
      have t1 : (t : Int) < (S : Int) := by omega
      have t0 : (0 : Int) ≤ (t : Int) := by omega
      have SET := Hid.intro (grow_set U g hlt)
      have OH := Hid.intro hO
      have BH := Hid.intro hB
      clear hO hB
      generalize g t = Y at HC SET
      go_wp2_with fail
      refine HC.out.mono ?_
      rintro e w3 ⟨rfl, B3⟩
      have O3 := ownsRow_keep OH.out fun k hk => B3.block k (ownsRow_lt OH.out hk)
      have B3w := BH.out.trans (B3.mono BH.out.size)
      have hST := (O3.stored t (U Y)).1
      rw [SET.out] at hST
      obtain ⟨u, cu⟩ : ∃ u, w3.cell? ⟨w.heap.size, t, none⟩ = some u := by
        rw [O3.cellAt t (by omega)]
        exact ⟨_, List.getElem?_eq_getElem (by simp; omega)⟩
      have fu : w3.frozen? ⟨w.heap.size, t, none⟩ = false := O3.frozenAt t
      have STH := Hid.intro hST
      have B3H := Hid.intro B3w
      clear B3 O3 hST B3w OH BH HC SET
      go_wp2
      go_roundw
      case rel => exact ⟨t + 1, by omega, by go_num, STH.out, B3H.out.setCell (p := ⟨w.heap.size, t, none⟩) (Nat.le_refl _) _⟩
      case measure => simp [intOf]; omega
    · have hte : S = t := by omega
      have t1 : ¬ (t : Int) < (S : Int) := by omega
      rw [← hte, Nat.sub_self, List.replicate_zero, List.append_nil] at hO
      clear hte ht hlt
      go_wp2
      go_ret
      exact ⟨_, rfl, by rw [← List.map_map]; exact hO, (fun j hj => by
        have e : w.heap.size = j := by simpa [Value.ownBlock] using hj
        rw [← e]; exact Nat.le_refl _), hB⟩

set_option maxRecDepth 100000 in
set_option maxHeartbeats 1000000 in
theorem through1_any (bk bw p : Nat) (KL : List (List Nat)) (ws : List Nat) (hB : BytL KL) (hws : Byt ws) (hlen : ws.length = KL.length) (hl : KL.length ≤ 1000) (hp0 : p ≤ 1000) (hp : ∀ r, r < KL.length → p < (KL.getD r []).length) (w : World) (hT : Thr w bk bw KL ws) :
    Calls Tryz.prog 165 #[.int .i64 (p : Int), .pointer (some ⟨bk, 0, none⟩), .pointer (some ⟨bw, 0, none⟩)] w fun e w' => e = .returned (U (fs KL.length (fun r => gmul (ws.getD r 0) ((KL.getD r []).getD p 0)))) ∧ Below w.heap.size w w' := by
  have HY := Hid.intro hB
  have HWS := Hid.intro hws
  have HP := Hid.intro hp
  have HLEN := Hid.intro hlen
  obtain ⟨⟨ka, kc, c1, hk⟩, aw, cw, c2, hr⟩ := hT
  rw [hlen] at c2
  have HK := Hid.intro hk
  have HR := Hid.intro hr
  have C2 := Hid.intro c2
  obtain ⟨F, hF⟩ : ∃ F : Nat → Nat, F = fun r => gmul (ws.getD r 0) ((KL.getD r []).getD p 0) := ⟨_, rfl⟩
  rw [← hF]
  have HF := Hid.intro (fun r => show F r = gmul (ws.getD r 0) ((KL.getD r []).getD p 0) by rw [hF])
  have HFL := Hid.intro (fun t => show fs t F < 256 from fs_lt (fun k _ => by rw [HF.out]; exact gmul_lt (getD_byt hws _) _))
  obtain ⟨n, hn⟩ : ∃ n, n = KL.length := ⟨_, rfl⟩
  rw [← hn] at c1 c2 hl C2 ⊢
  have HN := Hid.intro hn
  clear hB hws hp hlen hk hr hF hn c2
  go_enter Tryz.func165, Tryz.ntmps165
  go_wp2_with fail
  clear c1
  go_loopw [5, 10] (fun s i wr => ∃ t : Nat, t ≤ n ∧ i = .int .i64 t ∧ s = .int .u8 ((fs t F : Nat) : Int) ∧ Below w.heap.size w wr) (fun _ i _ => n - (intOf i).toNat)
  case atStart => exact ⟨0, by omega, rfl, rfl, Below.refl _ _⟩
  case round =>
    obtain ⟨t, ht, rfl, rfl, hB⟩ := hrel
    by_cases hlt : t < n
    · have hlt' : t < KL.length := by rw [← HN.out]; exact hlt
      have hlw : t < ws.length := by rw [HLEN.out]; exact hlt'
      obtain ⟨lb, lo, rfl, hrow⟩ := HK.out (by omega)
      obtain ⟨ra, rc, hcell, hrd, _⟩ := hrow t hlt'
      have hpt := HP.out t hlt'
      obtain ⟨rb, ro, rfl, hc⟩ := reads_at hrd (by omega)
      obtain ⟨ab, aoff, rfl, hca⟩ := reads_at HR.out (by omega)
      have ct : wr.cell? ⟨lb, lo + t, none⟩ = some (.slice (some ⟨rb, ro, none⟩) (KL.getD t []).length rc) := cellK hB hcell
      have cp0 := hc p hpt
      have cp : wr.cell? ⟨rb, ro + p, none⟩ = some (U ((KL.getD t []).getD p 0)) := by
        rw [← List.getElem_eq_getD (h := hpt) 0]; exact cellK hB cp0
      have ca0 := hca t hlw
      have ca : wr.cell? ⟨ab, aoff + t, none⟩ = some (U (ws.getD t 0)) := by
        rw [← List.getElem_eq_getD (h := hlw) 0]; exact cellK hB ca0
      have cw2 : wr.cell? ⟨bw, 0, none⟩ = some (.slice (some ⟨ab, aoff, none⟩) n cw) := cellK hB C2.out
      have hy := getD_byt HWS.out t
      have hz := getD_byt (getD_bytL HY.out t) p
      have hs := HFL.out t
      have hs1 := HFL.out (t + 1)
      have hft := HF.out t
      have HM := Hid.intro (fun W => fmul_any (ws.getD t 0) ((KL.getD t []).getD p 0) hy hz W)
      rw [← hft] at HM
      have hfl : F t < 256 := by rw [hft]; exact gmul_lt hy _
      have HA := Hid.intro (fun W => add_same (fs t F) (F t) hs hfl W)
      have e1 : fs t F ^^^ F t = fs (t + 1) F := rfl
      rw [e1] at HA
      have t0 : (0 : Int) ≤ (t : Int) := by omega
      have t1 : (t : Int) < (n : Int) := by omega
      have p0 : (0 : Int) ≤ (p : Int) := by omega
      have HBW := Hid.intro hB
      clear hft hc hca ca0 cp0 hcell hrd hrow e1 hlt' hlw hB
      generalize (KL.getD t []).getD p 0 = z at cp hz HM
      generalize ws.getD t 0 = y at ca hy HM
      generalize (KL.getD t []).length = rl at ct hpt
      generalize fs t F = A at hs HA ⊢
      obtain ⟨A1, hA1⟩ : ∃ A1, A1 = fs (t + 1) F := ⟨_, rfl⟩
      rw [← hA1] at hs1 HA
      have HA1 := Hid.intro hA1
      clear hA1
      go_wp2_with fail
      go_region_held3 (fun w' => w'.cell? ⟨bw, 0, none⟩ = some (.slice (some ⟨ab, aoff, none⟩) n cw) ∧ w'.cell? ⟨ab, aoff + t, none⟩ = some (U y) ∧ w'.cell? ⟨rb, ro + p, none⟩ = some (U z))
        (first | exact ⟨cellK E5 cw2, cellK E5 ca, cellK E5 cp⟩ | go_keep)
        ((first
          | (go_at_call 167; refine (HM.out wr.drew).mono ?_; rintro e w5 ⟨rfl, B5⟩; have E5 : Below wr.heap.size wr w5 := undrewK B5 rfl)
          | (go_at_call 166; refine (HA.out w5).mono ?_; rintro e w6 ⟨rfl, rfl⟩)))
      all_goals
        have BW := HBW.out.trans (E5.mono HBW.out.size)
        clear ct cp ca cw2 B5 E5
        go_wp2
        go_roundw
        case rel => exact ⟨t + 1, by omega, by go_num, by rw [HA1.out], BW⟩
        case measure => simp [intOf]; omega
    · have hte : n = t := by omega
      have t1 : ¬ (t : Int) < (n : Int) := by omega
      subst hte
      clear hlt ht
      go_wp2
      go_ret
      exact ⟨rfl, hB⟩

end Go.Proofs.YthhggjakenalpaaGreatDoor

/- Package rs: cut, areSized, firstThere. -/
namespace Go.Proofs.YthhggjakenalpaaGreatDoor
set_option maxRecDepth 100000
open Go.RowKit
open Bt

theorem info_rowK : (Tryz.prog.info? 42).map (fun i => (i.zero, i.size, i.bytes)) = some (some (.slice none 0 0), 1, 24) := by kernel_rfl

/-- A slice's length. -/
def lenK : Value → Nat
  | .slice _ n _ => n
  | _ => 0

/-- A text's pieces, as values. -/
def cutV (bb off S cap : Nat) (r : Nat) : Value := .slice (some ⟨bb, off + r * S, none⟩) S (cap - r * S)

set_option maxRecDepth 100000 in
set_option maxHeartbeats 1000000 in
theorem cut_any (K S : Nat) (hS : 1 ≤ S) (bb off cap L : Nat) (hL : L = K * S) (hlb : L ≤ 1000) (hcap : L ≤ cap) (w : World) :
    Calls Tryz.prog 154 #[.slice (some ⟨bb, off, none⟩) L cap, .int .i64 (S : Int)] w fun e w' => ∃ v, e = .returned v ∧ w'.ownsRow 0 42 1 v K ((List.range K).map (cutV bb off S cap)) ∧ (∀ j, v.ownBlock = some j → w.heap.size ≤ j) ∧ Below w.heap.size w w' := by
  obtain ⟨iR, hiR, hzR0, hzR1, hzR2⟩ := info_parts info_rowK
  have HL := Hid.intro hL
  clear hL
  go_enter Tryz.func154, Tryz.ntmps154
  go_wp2_with fail
  go_loopw [0, 5] (fun b v wr => ∃ (t : Nat) (A : Option Addr) (C : Nat), t ≤ K ∧ b = .slice A (L - t * S) C ∧ (t < K → A = some ⟨bb, off + t * S, none⟩ ∧ C = cap - t * S) ∧ wr.ownsRow 0 42 1 v t ((List.range t).map (cutV bb off S cap)) ∧ (∀ j, v.ownBlock = some j → w.heap.size ≤ j) ∧ Below w.heap.size w wr) (fun b _ _ => lenK b)
  case atStart => exact ⟨0, some ⟨bb, off, none⟩, cap, by omega, by simp, fun _ => ⟨by simp, by simp⟩, World.ownsRow_nil _ _ _ _, nil_own _, Below.refl _ _⟩
  case round =>
    obtain ⟨t, A, C, ht, rfl, hA, hO, hN, hB⟩ := hrel
    by_cases hlt : t < K
    · obtain ⟨rfl, rfl⟩ := hA hlt
      have h1 : t * S + S ≤ L := by rw [HL.out, ← Nat.succ_mul]; exact Nat.mul_le_mul_right _ hlt
      have h2 : (t + 1) * S = t * S + S := Nat.succ_mul t S
      have tb : t ≤ 1000 := by
        have := Nat.mul_le_mul_left t hS
        omega
      obtain ⟨X, hX⟩ : ∃ X, X = t * S := ⟨_, rfl⟩
      rw [← hX] at h1 h2 ⊢
      have HX := Hid.intro hX
      clear hX
      obtain ⟨M, hM⟩ : ∃ M, M = L - X := ⟨_, rfl⟩
      obtain ⟨C, hC⟩ : ∃ C, C = cap - X := ⟨_, rfl⟩
      rw [← hM, ← hC]
      have l0 : 0 < M := by omega
      have l1 : (0 : Int) < (M : Int) := by omega
      have s0 : (0 : Int) ≤ (S : Int) := by omega
      have s1 : (S : Int) ≤ (C : Int) := by omega
      have s2 : (S : Int) ≤ (M : Int) := by omega
      have s3 : S ≤ C := by omega
      have s4 : S ≤ M := by omega
      have HM := Hid.intro hM
      have HC := Hid.intro hC
      have H2 := Hid.intro h2
      have OH := Hid.intro (hO.alloc (.cells #[.slice (some ⟨bb, off + X, none⟩) S C] 42))
      have NH := Hid.intro hN
      have BH := Hid.intro hB
      clear hM hC hO hN hB h1 h2 hA
      go_wp2_with (at_builtin; refine wpList_append_lies _ rfl _ _ 36 rfl 0 42 iR (.slice none 0 0) 1 24 Tryz.underlying36 hiR hzR0 hzR1 hzR2 rfl (by decide) u5 t _ rfl OH.out ⟨wr.heap.size, 0, none⟩ 1 1 [.slice (some ⟨bb, off + X, none⟩) S C] rfl rfl (World.news_of_block (cs := #[.slice (some ⟨bb, off + X, none⟩) S C]) (t := 42) (fr := (0, 0)) (heap_alloc_new wr _)) (by simp [Value.oneCell']) (by decide) (by unfold maxLen; omega) (by omega) (Nat.zero_le _) (wr.heap.size + 1) (by simp) ?_)
      intro g7 cp7 w7 hown hgrow hat hgl
      have C7 : Chg (fun q => u5.ownBlock = some q) wr w7 := ((Chg.refl _ wr).alloc _).grown hgrow (fun q hq _ => hq)
      have B7 := BH.out.trans (C7.below BH.out.size (fun q hq => NH.out q hq))
      have N7 : ∀ q, (Value.slice (some ⟨g7, 0, none⟩) (t + 1) cp7).ownBlock = some q → w.heap.size ≤ q := by
        intro q hq
        have e : g7 = q := by simpa [Value.ownBlock] using hq
        subst e
        rcases hat with hat | hat
        · exact NH.out g7 hat
        · have := BH.out.size; omega
      have R7 : w7.ownsRow 0 42 1 (.slice (some ⟨g7, 0, none⟩) (t + 1) cp7) (t + 1) ((List.range (t + 1)).map (cutV bb off S cap)) := by
        rw [List.range_succ, List.map_append]
        have e : cutV bb off S cap t = .slice (some ⟨bb, off + X, none⟩) S C := by unfold cutV; rw [← HX.out, ← HC.out]
        rw [List.map_singleton, e]
        exact hown
      have R7H := Hid.intro R7
      have N7H := Hid.intro N7
      have B7H := Hid.intro B7
      clear hown hgrow hat R7 N7 C7 B7 OH NH BH
      have s5 : (S : Int) ≤ (M : Int) := s2
      go_wp2
      go_roundw
      case rel =>
        have e1 : M - S = L - (t + 1) * S := by rw [H2.out, HM.out]; omega
        refine ⟨t + 1, _, _, by omega, by rw [e1], fun hq => ?_, R7H.out, N7H.out, B7H.out⟩
        have h3 : X + S + S ≤ L := by
          have := Nat.mul_le_mul_right S (show t + 1 + 1 ≤ K from hq)
          rw [Nat.succ_mul, H2.out, ← HL.out] at this
          exact this
        have hC := HC.out
        rw [if_neg (by omega), H2.out, Nat.add_assoc]
        exact ⟨rfl, by omega⟩
      case measure => simp [lenK]; omega
    · have hte : K = t := by omega
      have e : L - t * S = 0 := by rw [← hte, HL.out]; omega
      rw [e]
      subst hte
      clear e hA ht hlt
      go_wp2
      go_ret
      exact ⟨_, rfl, hO, hN, hB⟩

/-- Are there so many, of a size that may be? -/
def sizedB (N S : Nat) (L : List (List Nat)) : Bool := decide (L.length = N) && L.all (fun r => decide (r.length = 0) || decide (r.length = S))

theorem sizedB_iff {N S : Nat} {L : List (List Nat)} : sizedB N S L = true ↔ L.length = N ∧ ∀ r, r < L.length → (L.getD r []).length = 0 ∨ (L.getD r []).length = S := by
  unfold sizedB
  rw [Bool.and_eq_true, decide_eq_true_iff, List.all_eq_true]
  refine and_congr_right fun _ => ⟨fun h r hr => ?_, fun h x hx => ?_⟩
  · rw [← List.getElem_eq_getD (h := hr) []]
    have := h _ (List.getElem_mem hr)
    simpa only [Bool.or_eq_true, decide_eq_true_eq] using this
  · obtain ⟨j, hj, rfl⟩ := List.mem_iff_getElem.1 hx
    have := h j hj
    rw [← List.getElem_eq_getD (h := hj) []] at this
    simpa only [Bool.or_eq_true, decide_eq_true_eq] using this

end Go.Proofs.YthhggjakenalpaaGreatDoor

/- Package rs: firstThere. -/
namespace Go.Proofs.YthhggjakenalpaaGreatDoor
set_option maxRecDepth 100000
open Go.RowKit
open Bt

/-- What the first shards that are there are. -/
def firstL (K : Nat) (L : List (List Nat)) : List (List Nat) := (decAt K L).map (fun j => L.getD j [])

theorem firstL_length (K : Nat) (L : List (List Nat)) : (firstL K L).length = (decAt K L).length := by simp [firstL]

theorem readsL_of_owns {w : World} {v : Value} {n : Nat} {xs : List Value} {R : List (List Nat)} (ho : w.ownsRow 0 42 1 v n xs) (hn : R.length = n)
    (hx : ∀ r, r < n → ∃ a c, xs[r]? = some (.slice a (R.getD r []).length c) ∧ Reads w a (R.getD r []) ∧ (a = none → c = 0)) :
    ∃ ao cap, v = .slice ao R.length cap ∧ ReadsL w ao R := by
  obtain ⟨ao, cap, rfl, hf⟩ := ownsRow_form ho
  refine ⟨ao, cap, by rw [hn], fun h0 => ?_⟩
  rcases hf with h1 | ⟨g, rfl⟩
  · omega
  · refine ⟨g, 0, rfl, fun r hr => ?_⟩
    obtain ⟨a, c, e, h2, h3⟩ := hx r (by omega)
    refine ⟨a, c, ?_, h2, h3⟩
    rw [Nat.zero_add, ho.cellAt r (by omega)]
    exact e

set_option maxRecDepth 100000 in
set_option maxHeartbeats 2000000 in
theorem firstThere_any (K : Nat) (hK : K ≤ 1000) (ao : Option Addr) (cap : Nat) (L : List (List Nat)) (hl : L.length ≤ 256) (hm : ∀ r, (L.getD r []).length ≤ 1000) (w : World) (hr : ReadsL w ao L) :
    Calls Tryz.prog 146 #[.int .i64 (K : Int), .slice ao L.length cap] w fun e w' => ∃ va vk, e = .returned (.tuple #[va, vk]) ∧ w'.ownsRow 0 5 1 va (decAt K L).length ((decAt K L).map U) ∧ (∃ ak ck, vk = .slice ak (firstL K L).length ck ∧ ReadsL w' ak (firstL K L)) ∧ Below w.heap.size w w' := by
  obtain ⟨i8, hi8, hz80, hz81, hz82⟩ := info_parts info_u8
  obtain ⟨iR, hiR, hzR0, hzR1, hzR2⟩ := info_parts info_rowK
  have HM := Hid.intro hm
  obtain ⟨ab, of_, hao, y, hy⟩ : ∃ ab of_, (0 < L.length → ao = some ⟨ab, of_, none⟩) ∧ ∃ y : Nat → Option Addr × Nat, ∀ r, r < L.length → w.cell? ⟨ab, of_ + r, none⟩ = some (.slice (y r).1 (L.getD r []).length (y r).2) ∧ Reads w (y r).1 (L.getD r []) ∧ ((y r).1 = none → (y r).2 = 0) := by
    by_cases h0 : 0 < L.length
    · obtain ⟨b, o, e, hrow⟩ := hr h0
      obtain ⟨y, hy⟩ := Go.Deep.choose_lt (n := L.length) (fun r hr => by
        obtain ⟨a, c, h1, h2, h3⟩ := hrow r hr
        exact (⟨(a, c), h1, h2, h3⟩ : ∃ q : Option Addr × Nat, w.cell? ⟨b, o + r, none⟩ = some (.slice q.1 (L.getD r []).length q.2) ∧ Reads w q.1 (L.getD r []) ∧ (q.1 = none → q.2 = 0)))
      exact ⟨b, o, fun _ => e, y, hy⟩
    · exact ⟨0, 0, fun h => absurd h h0, fun _ => (none, 0), fun r h => absurd h (by omega)⟩
  have HY := Hid.intro hy
  have HAO := Hid.intro hao
  have HL2 := Hid.intro (show L.length ≤ 256 from hl)
  obtain ⟨n, hn⟩ : ∃ n, n = L.length := ⟨_, rfl⟩
  rw [← hn] at hl ⊢
  have HN := Hid.intro hn
  obtain ⟨V, hV⟩ : ∃ V : Nat → Value, V = fun j => .slice (y j).1 (L.getD j []).length (y j).2 := ⟨_, rfl⟩
  have HV := Hid.intro (fun j => show V j = .slice (y j).1 (L.getD j []).length (y j).2 by rw [hV])
  have PB : Hid (∀ W, Below w.heap.size w W → ∀ va vk, W.ownsRow 0 5 1 va (thT K L n).length ((thT K L n).map U) → W.ownsRow 0 42 1 vk (thT K L n).length ((thT K L n).map V) → W.ownsRow 0 5 1 va (decAt K L).length ((decAt K L).map U) ∧ (∃ ak ck, vk = .slice ak (firstL K L).length ck ∧ ReadsL W ak (firstL K L))) := fun W hW va vk h1 h2 => by
    rw [hn, thT_all] at h1 h2
    refine ⟨h1, readsL_of_owns h2 (firstL_length K L) (fun r hr => ?_)⟩
    have hj : (decAt K L)[r] < L.length := there_lt (decAt_mem (List.getElem_mem hr))
    obtain ⟨_, q2, q3⟩ := HY.out _ hj
    have e : (firstL K L).getD r [] = L.getD (decAt K L)[r] [] := by
      rw [← List.getElem_eq_getD (h := by rw [firstL_length]; exact hr) []]
      simp [firstL]
    rw [e]
    refine ⟨_, _, ?_, q2.below hW, q3⟩
    rw [List.getElem?_map, List.getElem?_eq_getElem hr, Option.map_some, HV.out]
  clear hm hr hy hao hn hV
  go_enter Tryz.func146, Tryz.ntmps146
  go_wp2_with fail
  go_loopw [4, 5, 10] (fun va vk i wr => ∃ t : Nat, t ≤ n ∧ i = .int .i64 t ∧ wr.ownsRow 0 5 1 va (thT K L t).length ((thT K L t).map U) ∧ wr.ownsRow 0 42 1 vk (thT K L t).length ((thT K L t).map V) ∧ (∀ k, va.ownBlock = some k → w.heap.size ≤ k) ∧ (∀ k, vk.ownBlock = some k → w.heap.size ≤ k) ∧ Below w.heap.size w wr) (fun _ _ i _ => n - (intOf i).toNat)
  case atStart => exact ⟨0, by omega, rfl, by rw [thT_zero]; exact World.ownsRow_nil _ _ _ _, by rw [thT_zero]; exact World.ownsRow_nil _ _ _ _, nil_own _, nil_own _, Below.refl _ _⟩
  case round =>
    obtain ⟨t, ht, rfl, RA, RK, NA, NK, BT⟩ := hrel
    obtain ⟨aa, ca, ea, _⟩ := ownsRow_form RA
    have eaH := Hid.intro ea
    have RAH := Hid.intro RA
    have RKH := Hid.intro RK
    have NAH := Hid.intro NA
    have NKH := Hid.intro NK
    have BTH := Hid.intro BT
    have hle := thT_le K L t
    clear RA RK NA NK BT
    by_cases hlt : t < n
    · have hlt' : t < L.length := by rw [← HN.out]; exact hlt
      obtain rfl := HAO.out (by omega)
      obtain ⟨q1, _, _⟩ := HY.out t hlt'
      have ct : wr.cell? ⟨ab, of_ + t, none⟩ = some (.slice (y t).1 (L.getD t []).length (y t).2) := cellK BTH.out q1
      have hml := HM.out t
      have t0 : (0 : Int) ≤ (t : Int) := by omega
      have t1 : (t : Int) < (n : Int) := by omega
      have SK := Hid.intro (fun h : (L.getD t []).length = 0 => thT_skip (K := K) h)
      have SP := Hid.intro (fun (h : (L.getD t []).length ≠ 0) h2 => thT_push (K := K) h h2)
      have SF := Hid.intro (fun h => thT_full (K := K) (L := L) (t := t) h)
      have VT := Hid.intro (HV.out t)
      clear q1 hlt'
      generalize y t = yt at ct VT
      obtain ⟨ya, yc⟩ := yt
      obtain ⟨r, hrr⟩ : ∃ r, r = (L.getD t []).length := ⟨_, rfl⟩
      rw [← hrr] at ct hml SK SP VT
      clear hrr
      obtain ⟨m, hm⟩ : ∃ m, m = (thT K L t).length := ⟨_, rfl⟩
      rw [← hm] at ea hle RAH RKH SP SF
      have HMM := Hid.intro hm
      clear hm eaH
      subst ea
      by_cases hmk : m < K
      · have m1 : (m : Int) < (K : Int) := by omega
        by_cases r0 : r = 0
        · subst r0
          have SKE := SK.out rfl
          have l0 : ¬ (0 : Int) < ((0 : Nat) : Int) := by omega
          have SKH := Hid.intro SKE
          clear SKE SK SP SF
          go_wp2
          go_roundw
          case rel => exact ⟨t + 1, by omega, by go_num, by rw [SKH.out, ← HMM.out]; exact RAH.out, by rw [SKH.out, ← HMM.out]; exact RKH.out, NAH.out, NKH.out, BTH.out⟩
          case measure => simp [intOf]; omega
        · have l0 : (0 : Int) < (r : Int) := by omega
          have l1 : 0 < r := by omega
          have SPE := SP.out r0 hmk
          have SPH := Hid.intro SPE
          clear SPE SK SP SF
          have hu8 : (t : Int) % 256 = (t : Int) := by omega
          have hu8w : IntKind.u8.wrap (t : Int) = (t : Int) := IntWalk.u8_in _ (by omega)
          have R6H := Hid.intro (RAH.out.alloc (.cells #[U t] 5))
          go_wp2_with (at_builtin; refine wpList_append_lies _ rfl _ _ 42 rfl 0 5 i8 (.int .u8 0) 1 1 Tryz.underlying42 hi8 hz80 hz81 hz82 rfl (by decide) (.slice aa m ca) _ _ rfl R6H.out ⟨wr.heap.size, 0, none⟩ 1 1 [U t] rfl rfl (World.news_of_block (cs := #[U t]) (t := 5) (fr := (0, 0)) (heap_alloc_new wr _)) (by simp [Value.oneCell', U]) (by decide) (by unfold maxLen; omega) (by omega) (Nat.zero_le _) (wr.heap.size + 1) (by simp) ?_)
          intro g7 cp7 w7 hown hgrow hat hgl
          have C7 : Chg (fun q => (Value.slice aa m ca).ownBlock = some q) wr w7 := ((Chg.refl _ wr).alloc _).grown hgrow (fun q hq _ => hq)
          have B7 := BTH.out.trans (C7.below BTH.out.size (fun q hq => NAH.out q hq))
          have N7 : ∀ q, (Value.slice (some ⟨g7, 0, none⟩) (m + 1) cp7).ownBlock = some q → w.heap.size ≤ q := by
            intro q hq
            have e : g7 = q := by simpa [Value.ownBlock] using hq
            subst e
            rcases hat with hat | hat
            · exact NAH.out g7 hat
            · have := BTH.out.size; omega
          have R7 : w7.ownsRow 0 5 1 (.slice (some ⟨g7, 0, none⟩) (m + 1) cp7) (thT K L (t + 1)).length ((thT K L (t + 1)).map U) := by
            rw [SPH.out, List.length_append, List.length_singleton, ← HMM.out, List.map_append]
            exact hown
          have K7 : w7.ownsRow 0 42 1 u5 m ((thT K L t).map V) := ownsRow_keep RKH.out fun k hk => C7.block k (ownsRow_lt RKH.out hk) (fun q => rows_apart RAH.out RKH.out (by decide) k q hk)
          have R7H := Hid.intro R7
          have N7H := Hid.intro N7
          have B7H := Hid.intro B7
          have K7H := Hid.intro (K7.alloc (.cells #[.slice ya r yc] 42))
          have K6H := Hid.intro K7
          clear hown hgrow hat R7 N7 C7 B7 R6H K7 RAH RKH ct NAH BTH
          go_wp2_with (at_builtin; refine wpList_append_lies _ rfl _ _ 36 rfl 0 42 iR (.slice none 0 0) 1 24 Tryz.underlying36 hiR hzR0 hzR1 hzR2 rfl (by decide) u5 m _ rfl K7H.out ⟨w7.heap.size, 0, none⟩ 1 1 [.slice ya r yc] rfl rfl (World.news_of_block (cs := #[.slice ya r yc]) (t := 42) (fr := (0, 0)) (heap_alloc_new w7 _)) (by simp [Value.oneCell']) (by decide) (by unfold maxLen; omega) (by omega) (Nat.zero_le _) (w7.heap.size + 1) (by simp) ?_)
          intro g9 cp9 w9 hown hgrow hat hgl9
          have C9 : Chg (fun q => u5.ownBlock = some q) w7 w9 := ((Chg.refl _ w7).alloc _).grown hgrow (fun q hq _ => hq)
          have B9 := B7H.out.trans (C9.below B7H.out.size (fun q hq => NKH.out q hq))
          have N9 : ∀ q, (Value.slice (some ⟨g9, 0, none⟩) (m + 1) cp9).ownBlock = some q → w.heap.size ≤ q := by
            intro q hq
            have e : g9 = q := by simpa [Value.ownBlock] using hq
            subst e
            rcases hat with hat | hat
            · exact NKH.out g9 hat
            · have := B7H.out.size; omega
          have K9 : w9.ownsRow 0 42 1 (.slice (some ⟨g9, 0, none⟩) (m + 1) cp9) (thT K L (t + 1)).length ((thT K L (t + 1)).map V) := by
            rw [SPH.out, List.length_append, List.length_singleton, ← HMM.out, List.map_append, List.map_singleton, VT.out]
            exact hown
          have R9 := ownsRow_keep (w' := w9) R7H.out fun k hk => C9.block k (ownsRow_lt R7H.out hk) (fun q => rows_apart R7H.out K6H.out (by decide) k hk q)
          have R9H := Hid.intro R9
          have K9H := Hid.intro K9
          have N9H := Hid.intro N9
          have B9H := Hid.intro B9
          clear hown hgrow hat R9 K9 N9 B9 C9 R7H K7H K6H B7H NKH VT SPH HMM
          go_wp2
          go_roundw
          case rel => exact ⟨t + 1, by omega, by go_num, R9H.out, K9H.out, N7H.out, N9H.out, B9H.out⟩
          case measure => simp [intOf]; omega
      · have m1 : ¬ (m : Int) < (K : Int) := by omega
        have SFE := SF.out hmk
        have SFH := Hid.intro SFE
        clear SFE SK SP SF
        go_wp2
        go_roundw
        case rel => exact ⟨t + 1, by omega, by go_num, by rw [SFH.out, ← HMM.out]; exact RAH.out, by rw [SFH.out, ← HMM.out]; exact RKH.out, NAH.out, NKH.out, BTH.out⟩
        case measure => simp [intOf]; omega
    · have hte : n = t := by omega
      have t1 : ¬ (t : Int) < (n : Int) := by omega
      subst hte
      have P := PB.out wr BTH.out _ _ RAH.out RKH.out
      have PH := Hid.intro P
      clear P hlt ht
      subst ea
      go_wp2
      go_ret2
      obtain ⟨ak, ck, e, h⟩ := PH.out.2
      exact ⟨_, _, rfl, PH.out.1, ⟨ak, ⟨ck, e⟩, h⟩, BTH.out⟩

end Go.Proofs.YthhggjakenalpaaGreatDoor

/- Plain: a text's pieces; what is reckoned from them is a shard; no program is named here. -/
namespace Go.Proofs.YthhggjakenalpaaGreatDoor.Bt
set_option maxRecDepth 100000

/-- A piece of a text. -/
def pieceL (S : Nat) (text : List Nat) (r : Nat) : List Nat := (text.drop (r * S)).take S

/-- All pieces. -/
def cutL (K S : Nat) (text : List Nat) : List (List Nat) := (List.range K).map (pieceL S text)

theorem cutL_length (K S : Nat) (text : List Nat) : (cutL K S text).length = K := by simp [cutL]

theorem cutL_getD {K S : Nat} {text : List Nat} {r : Nat} (h : r < K) : (cutL K S text).getD r [] = pieceL S text r := by
  rw [← List.getElem_eq_getD (h := by rw [cutL_length]; exact h) []]
  simp [cutL]

theorem piece_length {K S : Nat} {text : List Nat} (hl : text.length = K * S) {r : Nat} (h : r < K) : (pieceL S text r).length = S := by
  have := Nat.mul_le_mul_right S (show r + 1 ≤ K from h)
  rw [Nat.succ_mul] at this
  simp [pieceL]
  omega

theorem piece_getElem {S : Nat} {text : List Nat} {r p : Nat} (h : p < (pieceL S text r).length) (h2 : r * S + p < text.length) : (pieceL S text r)[p] = text[r * S + p] := by
  simp [pieceL]

theorem piece_getD {K S : Nat} {text : List Nat} (hl : text.length = K * S) {r p : Nat} (h : r < K) (hp : p < S) : (pieceL S text r).getD p 0 = text.getD (r * S + p) 0 := by
  have h1 := piece_length hl h
  have h2 : r * S + p < text.length := by rw [hl]; exact mul_in h hp
  rw [← List.getElem_eq_getD (h := by omega) 0, ← List.getElem_eq_getD (h := h2) 0, piece_getElem _ h2]

theorem cutL_byt {K S : Nat} {text : List Nat} (ht : Byt text) : BytL (cutL K S text) := fun x hx => by
  obtain ⟨r, _, rfl⟩ := List.mem_map.1 hx
  exact fun y hy => ht y (List.mem_of_mem_drop (List.mem_of_mem_take hy))

theorem there_all {L : List (List Nat)} (h : ∀ r, r < L.length → 0 < (L.getD r []).length) : there L = List.range L.length := by
  unfold there
  refine List.filter_eq_self.2 (fun r hr => ?_)
  simpa using h r (List.mem_range.1 hr)

theorem decAt_cut {K S : Nat} {text : List Nat} (hS : 0 < S) (hl : text.length = K * S) : decAt K (cutL K S text) = List.range K := by
  unfold decAt
  rw [there_all (fun r hr => by
    rw [cutL_length] at hr
    rw [cutL_getD hr, piece_length hl hr]
    exact hS), cutL_length]
  exact List.take_of_length_le (by simp)

/-- What is reckoned from the pieces is a shard's byte. -/
theorem dot_cut {K S : Nat} {text : List Nat} (hK : K ≤ 256) (ht : Byt text) (hl : text.length = K * S) {i p : Nat} (hi : i < 256) (hp : p < S) :
    fs K (fun r => gmul ((wts (List.range K) i).getD r 0) (((cutL K S text).getD r []).getD p 0)) = shB K S text i p := by
  rw [shB_pev hK ht]
  have e := dot_poly (range_byt K hK) (valsP_byt (S := S) ht p K) (by rw [valsP_length, List.length_range]) hi
  rw [List.length_range] at e
  unfold polP
  rw [← e]
  refine fs_congr (fun r hr => ?_)
  rw [cutL_getD hr, piece_getD hl hr hp, valsP_getD hr]

/-- What is reckoned from the first that are there is what is decoded. -/
theorem dot_dec {K : Nat} {L : List (List Nat)} (hL : L.length ≤ 256) (hB : BytL L) {i p : Nat} (hi : i < 256) :
    fs (decAt K L).length (fun r => gmul ((wts (decAt K L) i).getD r 0) ((((decAt K L).map (fun j => L.getD j [])).getD r []).getD p 0)) = decB K L i p := by
  have e := dot_poly (decAt_byt (K := K) hL) (decV_byt hB (decAt K L) p) (by simp [decV]) hi
  unfold decB
  rw [← e]
  refine fs_congr (fun r hr => ?_)
  congr 1
  have a1 : ((decAt K L).map (fun j => L.getD j [])).getD r [] = L.getD (decAt K L)[r] [] := by
    rw [← List.getElem_eq_getD (h := by rw [List.length_map]; exact hr) [], List.getElem_map]
  have a2 : (decV L (decAt K L) p).getD r 0 = (L.getD (decAt K L)[r] []).getD p 0 := by
    rw [← List.getElem_eq_getD (h := by unfold decV; rw [List.length_map]; exact hr) 0]
    unfold decV
    rw [List.getElem_map]
  rw [a1, a2]

/-- The first shards' bytes of what is decoded. -/
def decRow (K S : Nat) (L : List (List Nat)) (i : Nat) : List Nat := (List.range S).map (decB K L i)

theorem decT_take {K S : Nat} (hS : 0 < S) (L : List (List Nat)) {i : Nat} (h : i < K) : (decT K S L).take ((i + 1) * S) = (decT K S L).take (i * S) ++ decRow K S L i := by
  have h1 : (i + 1) * S ≤ K * S := Nat.mul_le_mul_right _ h
  have h2 : (i + 1) * S = i * S + S := Nat.succ_mul i S
  have l1 : ((decT K S L).take ((i + 1) * S)).length = (i + 1) * S := by rw [List.length_take, decT_length]; omega
  have l2 : ((decT K S L).take (i * S)).length = i * S := by rw [List.length_take, decT_length]; omega
  have l3 : (decRow K S L i).length = S := by simp [decRow]
  apply List.ext_getElem
  · rw [List.length_append, l1, l2, l3]; exact h2
  · intro j q1 q2
    have hj : j < (i + 1) * S := by rw [l1] at q1; exact q1
    by_cases e : j < i * S
    · rw [List.getElem_append_left (by rw [l2]; exact e), List.getElem_take, List.getElem_take]
    · rw [List.getElem_append_right (by rw [l2]; omega), List.getElem_take]
      simp only [decT, decRow, List.getElem_map, List.getElem_range, List.length_take, List.length_map, List.length_range]
      have m : min (i * S) (K * S) = i * S := by omega
      rw [m]
      have a1 : j / S = i := by
        have : j = S * i + (j - i * S) := by rw [Nat.mul_comm]; omega
        rw [this, Nat.mul_add_div hS, Nat.div_eq_of_lt (by omega), Nat.add_zero]
      have a2 : j % S = j - i * S := by
        have : j = S * i + (j - i * S) := by rw [Nat.mul_comm]; omega
        conv => lhs; rw [this]
        rw [Nat.mul_add_mod, Nat.mod_eq_of_lt (by omega)]
      rw [a1, a2]

end Go.Proofs.YthhggjakenalpaaGreatDoor.Bt

/- Package rs: Encode. -/
namespace Go.Proofs.YthhggjakenalpaaGreatDoor
set_option maxRecDepth 100000
open Go.RowKit
open Bt

/-- The pieces of a text. -/
theorem cutR_any (K S : Nat) (hS : 1 ≤ S) (ao : Option Addr) (cap L : Nat) (text : List Nat) (hl : text.length = K * S) (hL : L = K * S) (hK : 1 ≤ K) (hlb : L ≤ 1000) (hcap : L ≤ cap) (w : World) (hr : Reads w ao text) :
    Calls Tryz.prog 154 #[.slice ao L cap, .int .i64 (S : Int)] w fun e w' => ∃ ak ck, e = .returned (.slice ak K ck) ∧ ReadsL w' ak (cutL K S text) ∧ Below w.heap.size w w' := by
  have hpos : 0 < text.length := by rw [hl]; exact Nat.mul_pos hK hS
  obtain ⟨bb, off, rfl, hc⟩ := reads_at hr hpos
  refine (cut_any K S hS bb off cap L hL hlb hcap w).mono ?_
  rintro e w' ⟨v, rfl, hO, _, hB⟩
  obtain ⟨ak, ck, e, hk⟩ := readsL_of_owns (R := cutL K S text) hO (cutL_length K S text) (fun r hr => by
    have e1 := cutL_getD (S := S) (text := text) hr
    rw [e1, piece_length hl hr]
    refine ⟨some ⟨bb, off + r * S, none⟩, cap - r * S, ?_, fun _ => ⟨_, rfl, fun j u hu => ?_⟩, fun h => by cases h⟩
    · rw [List.getElem?_map, List.getElem?_range hr]; rfl
    · obtain ⟨hj, hu⟩ := List.getElem?_eq_some_iff.1 hu
      have hj' : j < S := by rw [List.length_map, piece_length hl hr] at hj; exact hj
      have hin : r * S + j < text.length := by rw [hl]; exact mul_in hr hj'
      rw [WideShapes.add_plain, ← hu, List.getElem_map, piece_getElem _ hin, Nat.add_assoc]
      exact cellK hB (hc _ hin))
  rw [cutL_length] at e
  exact ⟨ak, ck, by rw [e], hk, hB⟩

/-- The first of the pieces are all of them. -/
theorem firstC_any (K S : Nat) (hS : 1 ≤ S) (hS2 : S ≤ 1000) (hK : K ≤ 256) (ao : Option Addr) (cap : Nat) (text : List Nat) (hl : text.length = K * S) (w : World) (hr : ReadsL w ao (cutL K S text)) :
    Calls Tryz.prog 146 #[.int .i64 (K : Int), .slice ao K cap] w fun e w' => ∃ aa ca ak ck, e = .returned (.tuple #[.slice aa K ca, .slice ak K ck]) ∧ Reads w' aa (List.range K) ∧ ReadsL w' ak (cutL K S text) ∧ Below w.heap.size w w' := by
  have h := firstThere_any K (by omega) ao cap (cutL K S text) (by rw [cutL_length]; exact hK) (fun r => by
    by_cases hr : r < K
    · rw [cutL_getD hr, piece_length hl hr]; exact hS2
    · rw [List.getD_eq_getElem?_getD, List.getElem?_eq_none (by rw [cutL_length]; omega)]; exact Nat.zero_le _) w hr
  have e1 : decAt K (cutL K S text) = List.range K := decAt_cut (by omega) hl
  have e2 : firstL K (cutL K S text) = cutL K S text := by
    unfold firstL
    rw [e1]
    apply List.ext_getElem
    · simp [cutL_length]
    · intro j h1 h2
      rw [List.getElem_map, List.getElem_range, ← List.getElem_eq_getD]
  rw [cutL_length] at h
  refine h.mono ?_
  rintro e w' ⟨va, vk, rfl, ho, ⟨ak, ck, rfl, hk⟩, hB⟩
  rw [e2] at hk
  rw [e1] at ho
  obtain ⟨aa, ca, rfl, ra, _⟩ := row_of_owns ho
  exact ⟨aa, ca, ak, ck, by rw [e2, cutL_length, List.length_range], ra, hk, hB⟩

/-- A shard, reckoned from the pieces. -/
theorem shardC_any (K S : Nat) (hS2 : S ≤ 1000) (hK : K ≤ 256) (text : List Nat) (ht : Byt text) (hl : text.length = K * S) (i : Nat) (hi : i < 256) (bk bw : Nat) (w : World) (hT : Thr w bk bw (cutL K S text) (wts (List.range K) i)) :
    Calls Tryz.prog 148 #[.int .i64 (S : Int), thrF bk bw] w fun e w' => ∃ v, e = .returned v ∧ w'.ownsRow 0 5 1 v (shL K S text S i).length ((shL K S text S i).map U) ∧ (∀ j, v.ownBlock = some j → w.heap.size ≤ j) ∧ Below w.heap.size w w' := by
  have hws := wts_byt (range_byt K hK) hi
  have hwl : (wts (List.range K) i).length = (cutL K S text).length := by rw [wts_length, List.length_range, cutL_length]
  have h := shardOf_any S bk bw hS2 (shB K S text i) w (fun W hW p hp => by
    have := through1_any bk bw p (cutL K S text) (wts (List.range K) i) (cutL_byt ht) hws hwl (by rw [cutL_length]; omega) (by omega) (fun r hr => by
      rw [cutL_length] at hr
      rw [cutL_getD hr, piece_length hl hr]; exact hp) W (hT.below hW)
    rw [cutL_length, dot_cut hK ht hl hi hp] at this
    exact this)
  rw [shL_length]
  exact h

theorem cell_setK {w : World} {b b' o o' : Nat} {u v : Value} (h : b < b') (hc : w.cell? ⟨b, o, none⟩ = some v) : (w.setCell ⟨b', o', none⟩ u).cell? ⟨b, o, none⟩ = some v :=
  (World.cell?_setCell_other _ _ _ _ (fun q => by
    have := congrArg Addr.block q
    simp at this
    omega)).trans hc

/-- Shards so far. -/
def encR (K S : Nat) (text : List Nat) (t r : Nat) : List Nat := if r < t then shL K S text S r else []

set_option maxRecDepth 100000 in
set_option maxHeartbeats 4000000 in
theorem encode_ok (K N S : Nat) (hmay : mayC K N S = true) (ao : Option Addr) (cap L : Nat) (text : List Nat) (ht : Byt text) (hl : text.length = K * S) (hL : L = K * S) (hcap : L ≤ cap) (w : World) (hr : Reads w ao text) :
    Calls Tryz.prog 125 #[Cd K N S, .slice ao L cap] w fun e w' => ∃ mb vs, e = .returned (.tuple #[.slice (some ⟨mb, 0, none⟩) N N, .int .i64 0]) ∧ Rag w.heap.size w' mb N N vs (encR K S text N) ∧ Below w.heap.size w w' := by
  obtain ⟨iR, hiR, hzR0, hzR1, hzR2⟩ := info_parts info_rowK
  have hKS := may_prod hmay
  obtain ⟨h1, h2, h3, h4, h5, h6⟩ := mayC_true hmay
  have HM := Hid.intro (fun w => rmay_any K N S w)
  rw [hmay] at HM
  have HT := Hid.intro (fun w => textBytes_any K S N L hL (by omega) w)
  have HC := Hid.intro (fun W (h : Reads W ao text) => cutR_any K S (by omega) ao cap L text hl hL (by omega) (by omega) hcap W h)
  have HF := Hid.intro (fun (W : World) ak ck (h : ReadsL W ak (cutL K S text)) => firstC_any K S (by omega) (by omega) (by omega) ak ck text hl W h)
  have HTH := Hid.intro (fun (i : Nat) (hi : i < 256) (W : World) aa ca ak ck (h1 : Reads W aa (List.range K)) (h2 : ReadsL W ak (cutL K S text)) => through_any i hi aa ca (List.range K) (range_byt K (by omega)) List.nodup_range (by rw [List.length_range]; omega) ak ck (cutL K S text) W h1 h2)
  rw [List.length_range, cutL_length] at HTH
  have HSH := Hid.intro (fun (i : Nat) (hi : i < 256) bk bw (W : World) (h : Thr W bk bw (cutL K S text) (wts (List.range K) i)) => shardC_any K S (by omega) (by omega) text ht hl i hi bk bw W h)
  have HR := Hid.intro hr
  have b0 := Hid.intro (heap_alloc_new w (.cells #[.int .i64 (K : Int), .int .i64 (N : Int), .int .i64 (S : Int)] 23))
  have B0 := Hid.intro ((Below.refl _ w).alloc (Nat.le_refl _) (.cells #[.int .i64 (K : Int), .int .i64 (N : Int), .int .i64 (S : Int)] 23))
  have hLb : L ≤ 144 := by omega
  clear hr ht hl hL hmay hKS
  go_enter Tryz.func125, Tryz.ntmps125
  go_wp2_with fail
  refine (HM.out _).mono ?_
  rintro e1 w1 ⟨rfl, B1⟩
  have b1 := (B1.block _ (lt_of_heap b0.out)).trans b0.out
  have B1w := B0.out.trans (B1.mono B0.out.size)
  have c0 : w1.cell? ⟨w.heap.size, 0, none⟩ = some (.int .i64 (K : Int)) := by rw [cell_of_row w1 _ 0 _ _ _ b1]; rfl
  have c1 : w1.cell? ⟨w.heap.size, 1, none⟩ = some (.int .i64 (N : Int)) := by rw [cell_of_row w1 _ 1 _ _ _ b1]; rfl
  have c2 : w1.cell? ⟨w.heap.size, 2, none⟩ = some (.int .i64 (S : Int)) := by rw [cell_of_row w1 _ 2 _ _ _ b1]; rfl
  have b1H := Hid.intro b1
  have B1H := Hid.intro B1w
  clear b1 B1w B1 b0 B0 HM
  go_wp2_with fail
  refine (HT.out _).mono ?_
  rintro e1 w2 ⟨rfl, B2⟩
  have b2 := (B2.block _ (lt_of_heap b1H.out)).trans b1H.out
  have B2w := B1H.out.trans (B2.mono B1H.out.size)
  clear c0 c1 c2
  have c0 : w2.cell? ⟨w.heap.size, 0, none⟩ = some (.int .i64 (K : Int)) := by rw [cell_of_row w2 _ 0 _ _ _ b2]; rfl
  have c2 : w2.cell? ⟨w.heap.size, 2, none⟩ = some (.int .i64 (S : Int)) := by rw [cell_of_row w2 _ 2 _ _ _ b2]; rfl
  have q0 : ((L : Int) != (L : Int)) = false := by simp
  have b2H := Hid.intro b2
  have B2H := Hid.intro B2w
  have R2H := Hid.intro (HR.out.below B2w)
  clear b2 B2w B2 b1H B1H HT HR
  go_wp2_with fail
  go_region_held3 (fun w' => w'.cell? ⟨w.heap.size, 0, none⟩ = some (.int .i64 (K : Int)) ∧ w'.cell? ⟨w.heap.size, 2, none⟩ = some (.int .i64 (S : Int)))
    (first | exact ⟨cellK E4 c0, cellK E4 c2⟩ | exact ⟨cellK E3 c0, cellK E3 c2⟩ | go_keep)
    ((first
      | (go_at_call 154; refine (HC.out w2.drew (show Reads w2.drew ao text from R2H.out)).mono ?_; rintro e w3 ⟨ak3, ck3, rfl, K3, B3⟩; have E3 : Below w2.heap.size w2 w3 := undrewK B3 rfl)
      | (go_at_call 146; refine (HF.out w3 ak3 ck3 K3).mono ?_; rintro e w4 ⟨aa, ca, ak, ck, rfl, RA4, RK4, B4⟩; have E4 := E3.trans (B4.mono E3.size))))
  all_goals
    have b4 := (E4.block _ (lt_of_heap b2H.out)).trans b2H.out
    have B4w := B2H.out.trans (E4.mono B2H.out.size)
    have c1 : w4.cell? ⟨w.heap.size, 1, none⟩ = some (.int .i64 (N : Int)) := by rw [cell_of_row w4 _ 1 _ _ _ b4]; rfl
    have b4H := Hid.intro b4
    have B4H := Hid.intro B4w
    have RAH := Hid.intro RA4
    have RKH := Hid.intro RK4
    clear b4 B4w B4 E4 E3 B3 K3 b2H B2H R2H RA4 RK4 c0 c2 HC HF
    go_wp2_with (at_make; refine wpList_make_full _ rfl _ _ 36 rfl 0 42 iR (.slice none 0 0) 1 Tryz.underlying36 hiR hzR0 hzR1 _ _ _ _ N rfl rfl (by omega) (by omega) (by rw [hzR2]; omega) (by unfold maxLen; omega) (Nat.zero_le _) ?_)
    intro w5 hown hgrow
    have B5 : Below w4.heap.size w4 w5 := (Below.refl _ w4).grown hgrow (Nat.le_refl _) (fun k hk => by cases hk)
    have G5 : Rag w.heap.size w5 w4.heap.size N N (fun _ => .slice none 0 0) (encR K S text 0) := by
      refine ⟨?_, (fun r _ => World.ownsRow_nil _ _ _ _), (fun r s k _ _ _ h => by cases h), B4H.out.size, (fun r k _ h => by cases h)⟩
      rw [toList_madeCells_one] at hown
      have e : (List.range N).map (fun _ => Value.slice none 0 0) = List.replicate N (.slice none 0 0) := by
        apply List.ext_getElem
        · simp
        · intro j h3 h4; simp
      rw [e]
      exact hown
    have GH := Hid.intro G5
    have B5H := Hid.intro B5
    have NE := Hid.intro (lt_of_heap b4H.out)
    have VE : Hid (∀ (t : Nat) (r : Nat), (if r = t then shL K S text S t else encR K S text t r) = encR K S text (t + 1) r) := fun t r => by
      unfold encR
      by_cases e : r = t
      · subst e; rw [if_pos rfl, if_pos (by omega)]
      · rw [if_neg e]
        by_cases q : r < t
        · rw [if_pos q, if_pos (by omega)]
        · rw [if_neg q, if_neg (by omega)]
    clear hown hgrow G5 B5 c1
    go_wp2_with fail
    go_loopw [33] (fun i wr => ∃ (t : Nat) (vs : Nat → Value), t ≤ N ∧ i = .int .i64 t ∧ Rag w.heap.size wr w4.heap.size N N vs (encR K S text t) ∧ (∀ r, t ≤ r → vs r = .slice none 0 0) ∧ Below w4.heap.size w4 wr) (fun i _ => N - (intOf i).toNat)
    case atStart => exact ⟨0, _, by omega, rfl, GH.out, (fun _ _ => rfl), B5H.out⟩
    case round =>
      clear GH B5H
      obtain ⟨t, vs, htN, rfl, GT, VT, BT⟩ := hrel
      have GTH := Hid.intro GT
      have VTH := Hid.intro VT
      have BTH := Hid.intro BT
      clear GT VT BT
      by_cases hlt : t < N
      · have t256 : t < 256 := by omega
        have hu8 : (t : Int) % 256 = (t : Int) := by omega
        have hu8w : IntKind.u8.wrap (t : Int) = (t : Int) := IntWalk.u8_in _ (by omega)
        have t0 : (0 : Int) ≤ (t : Int) := by omega
        have t1 : (t : Int) < (N : Int) := by omega
        have bt := (BTH.out.block _ NE.out).trans b4H.out
        have c2 : wr.cell? ⟨w.heap.size, 2, none⟩ = some (.int .i64 (S : Int)) := by rw [cell_of_row wr _ 2 _ _ _ bt]; rfl
        have HA := Hid.intro (HTH.out t t256 wr.drew aa ca ak ck (show Reads wr.drew aa _ from RAH.out.below BTH.out.drew) (show ReadsL wr.drew ak _ from RKH.out.below BTH.out.drew))
        have HS := Hid.intro (HSH.out t t256)
        have ct := GTH.out.cellTop hlt
        have ft := GTH.out.frozenTop t
        rw [VTH.out t (Nat.le_refl _)] at ct
        clear bt
        go_wp2_with fail
        go_region_held3 (fun w' => w'.cell? ⟨w.heap.size, 2, none⟩ = some (.int .i64 (S : Int)))
          (first | exact cellK E7 c2 | exact cellK E6 c2 | go_keep | exact cell_setK NE.out (cellK E7 c2))
          ((first
            | (go_at_call 149; refine HA.out.mono ?_; rintro e w6 ⟨bk, bw, rfl, T6, B6⟩; have E6 : Below wr.heap.size wr w6 := undrewK B6 rfl)
            | (go_at_call 148; refine (HS.out bk bw w6 T6).mono ?_; rintro e w7 ⟨v7, rfl, O7, N7, B7⟩; obtain ⟨a7, p7, e7, _⟩ := ownsRow_form O7; subst e7; have E7 := E6.trans (B7.mono E6.size); have ct7 := cellK E7 ct; have ft7 := (frozen_block (E7.block _ (cell_lt ct))).trans ft)))
        all_goals
          have G7 := GTH.out.app hlt (Nat.le_trans (Nat.le_of_lt NE.out) BTH.out.size) O7 ((below_chg E7).mono (fun _ f _ => f.elim)) (fun k hk => .inr (Nat.le_trans E6.size (N7 k hk)))
          have G8 := G7.congr (R' := encR K S text (t + 1)) (fun r _ => VE.out t r)
          have B8 := (BTH.out.trans (E7.mono BTH.out.size)).setCell (p := ⟨w4.heap.size, t, none⟩) (Nat.le_refl _) (.slice a7 (shL K S text S t).length p7)
          have G8H := Hid.intro G8
          have B8H := Hid.intro B8
          clear G7 G8 B8 E6 E7 B6 B7 T6 O7 N7 ct ft ct7 ft7 c2 GTH BTH
          go_wp2
          go_roundw
          case rel => exact ⟨t + 1, _, by omega, by go_num, G8H.out, (fun r hr => by
            show (if r = t then _ else vs r) = _
            rw [if_neg (by omega)]
            exact VTH.out r (by omega)), B8H.out⟩
          case measure => simp [intOf]; omega
      · have hte : N = t := by omega
        have t1 : ¬ (t : Int) < (N : Int) := by omega
        subst hte
        clear hlt htN
        have BW := Hid.intro (B4H.out.trans (BTH.out.mono B4H.out.size))
        go_wp2
        go_ret2
        exact ⟨_, rfl, ⟨_, GTH.out⟩, BW.out⟩

theorem cdK_cells {w : World} {b : Nat} {K N S : Int} (h : w.heap[b]? = some (.cells #[.int .i64 K, .int .i64 N, .int .i64 S] 23 (0, 0))) :
    w.cell? ⟨b, 0, none⟩ = some (.int .i64 K) ∧ w.cell? ⟨b, 1, none⟩ = some (.int .i64 N) ∧ w.cell? ⟨b, 2, none⟩ = some (.int .i64 S) :=
  ⟨by rw [cell_of_row w _ 0 _ _ _ h]; rfl, by rw [cell_of_row w _ 1 _ _ _ h]; rfl, by rw [cell_of_row w _ 2 _ _ _ h]; rfl⟩

theorem shs_nil (B : Nat) (w : World) : Shs B w (.slice none 0 0) [] := .inl ⟨rfl, none, 0, rfl, fun _ => rfl⟩

set_option maxRecDepth 100000 in
set_option maxHeartbeats 1000000 in
theorem rencode_all (k n s : Int) (ao : Option Addr) (cap : Nat) (text : List Nat) (ht : Byt text) (w : World) (hr : Reads w ao text) (hroom : Room ao cap text.length) :
    Calls Tryz.prog 125 #[Cd k n s, .slice ao text.length cap] w fun e w' => ∃ v, e = .returned (.tuple #[v, .int .i64 (encE k n s text.length)]) ∧ Shs w.heap.size w' v (encA k n s text) ∧ Below w.heap.size w w' := by
  have HM := Hid.intro (fun w => rmay_any k n s w)
  have b0 := Hid.intro (heap_alloc_new w (.cells #[.int .i64 k, .int .i64 n, .int .i64 s] 23))
  have B0 := Hid.intro ((Below.refl _ w).alloc (Nat.le_refl _) (.cells #[.int .i64 k, .int .i64 n, .int .i64 s] 23))
  rcases hmay : mayC k n s with _ | _
  · have e1 : encE k n s text.length = 1 := by unfold encE; rw [hmay]; rfl
    have eA : encA k n s text = [] := by unfold encA; rw [e1, if_neg (by decide)]
    rw [e1, eA]
    rw [hmay] at HM
    clear e1 eA hr ht hroom
    go_enter Tryz.func125, Tryz.ntmps125
    go_wp2_with fail
    refine (HM.out _).mono ?_
    rintro e1 w1 ⟨rfl, B1⟩
    have B1w := B0.out.trans (B1.mono B0.out.size)
    clear B1
    go_wp2
    go_ret2
    exact ⟨_, rfl, shs_nil _ _, B1w⟩
  · obtain ⟨h1, h2, h3, h4, h5, h6⟩ := mayC_true hmay
    obtain ⟨K, rfl⟩ := Int.eq_ofNat_of_zero_le (show 0 ≤ k by omega)
    obtain ⟨N, rfl⟩ := Int.eq_ofNat_of_zero_le (show 0 ≤ n by omega)
    obtain ⟨S, rfl⟩ := Int.eq_ofNat_of_zero_le (show 0 ≤ s by omega)
    have hKS := may_prod hmay
    by_cases hlen : text.length = K * S
    · have e1 : encE K N S text.length = 0 := by unfold encE; rw [if_pos hmay, if_pos (by rw [hlen]; simp)]
      have eA : encA K N S text = encL K N S text := by unfold encA; rw [e1, if_pos rfl]; rfl
      rw [e1, eA]
      refine (encode_ok K N S hmay ao cap text.length text ht hlen hlen hroom.2 w hr).mono ?_
      rintro e w' ⟨mb, vs, rfl, hG, hB⟩
      have hG' := hG.congr (R' := shL K S text S) (fun r hr => by unfold encR; rw [if_pos hr])
      obtain ⟨A, C, hS, _⟩ := hG'.shs
      exact ⟨_, rfl, .inr ⟨mb, 0, N, A, C, by rw [encL_length], hS⟩, hB⟩
    · have e1 : encE K N S text.length = 4 := by
        unfold encE
        rw [if_pos hmay, if_neg]
        rw [← Int.natCast_mul]; omega
      have eA : encA K N S text = [] := by unfold encA; rw [e1, if_neg (by decide)]
      rw [e1, eA]
      rw [hmay] at HM
      obtain ⟨L, hL⟩ : ∃ L, L = K * S := ⟨_, rfl⟩
      rw [← hL] at hKS hlen
      have HT := Hid.intro (fun w => textBytes_any K S N L hL (by omega) w)
      have q0 : ((text.length : Int) != (L : Int)) = true := by rw [bne_iff_ne]; omega
      clear e1 eA hr ht hroom hL
      go_enter Tryz.func125, Tryz.ntmps125
      go_wp2_with fail
      refine (HM.out _).mono ?_
      rintro e1 w1 ⟨rfl, B1⟩
      have b1 := (B1.block _ (lt_of_heap b0.out)).trans b0.out
      have B1H := Hid.intro (B0.out.trans (B1.mono B0.out.size))
      obtain ⟨c0, c1, c2⟩ := cdK_cells b1
      clear b1 B1
      go_wp2_with fail
      refine (HT.out _).mono ?_
      rintro e1 w2 ⟨rfl, B2⟩
      have B2w := B1H.out.trans (B2.mono B1H.out.size)
      clear B2 c0 c1 c2
      go_wp2
      go_ret2
      exact ⟨_, rfl, shs_nil _ _, B2w⟩

theorem rencode_any (k n s : Int) (ao : Option Addr) (cap : Nat) (text : List Nat) (ht : Byt text) (_ : text.length ≤ 300) (w : World) (hr : Reads w ao text) (hroom : Room ao cap text.length) :
    Calls Tryz.prog 125 #[Cd k n s, .slice ao text.length cap] w fun e w' => ∃ v, e = .returned (.tuple #[v, .int .i64 (encE k n s text.length)]) ∧ Shs w.heap.size w' v (encA k n s text) ∧ Below w.heap.size w w' :=
  rencode_all k n s ao cap text ht w hr hroom

end Go.Proofs.YthhggjakenalpaaGreatDoor

/- Package rs: areSized. -/
namespace Go.Proofs.YthhggjakenalpaaGreatDoor
set_option maxRecDepth 100000
open Go.RowKit
open Bt

set_option maxRecDepth 100000 in
set_option maxHeartbeats 1000000 in
theorem areSized_any (K N S : Nat) (hS : 1 ≤ S) (hN : N ≤ 1000) (hS2 : S ≤ 1000) (ao : Option Addr) (cap : Nat) (L : List (List Nat)) (hl : L.length ≤ 1000) (hm : ∀ r, (L.getD r []).length ≤ 1000) (w : World) (hr : ReadsL w ao L) :
    Calls Tryz.prog 145 #[Cd K N S, .slice ao L.length cap] w fun e w' => e = .returned (.bool (sizedB N S L)) ∧ Below w.heap.size w w' := by
  obtain ⟨R, hR⟩ : ∃ R, R = sizedB N S L := ⟨_, rfl⟩
  rw [← hR]
  have SZ : Hid (R = true ↔ L.length = N ∧ ∀ r, r < L.length → (L.getD r []).length = 0 ∨ (L.getD r []).length = S) := by
    show _ ↔ _
    rw [hR]; exact sizedB_iff
  clear hR
  have b0 := heap_alloc_new w (.cells #[.int .i64 (K : Int), .int .i64 (N : Int), .int .i64 (S : Int)] 23)
  have HB0 := Hid.intro b0
  have HM := Hid.intro hm
  have HR := Hid.intro hr
  have BA := Hid.intro ((Below.refl _ w).alloc (Nat.le_refl _) (.cells #[.int .i64 (K : Int), .int .i64 (N : Int), .int .i64 (S : Int)] 23))
  clear b0 hr hm
  obtain ⟨n, hn⟩ : ∃ n, n = L.length := ⟨_, rfl⟩
  rw [← hn] at hl ⊢
  have HLN := Hid.intro hn
  clear hn
  by_cases hN2 : n = N
  · subst hN2
    have q0 : ((n : Int) != (n : Int)) = false := by simp
    go_enter Tryz.func145, Tryz.ntmps145
    go_wp2_with fail
    go_loopw [14] (fun i wr => ∃ t : Nat, t ≤ n ∧ i = .int .i64 t ∧ (∀ r, r < t → (L.getD r []).length = 0 ∨ (L.getD r []).length = S) ∧ wr.heap[w.heap.size]? = some (.cells #[.int .i64 (K : Int), .int .i64 (n : Int), .int .i64 (S : Int)] 23 (0, 0)) ∧ Below w.heap.size w wr) (fun i _ => n - (intOf i).toNat)
    case atStart => exact ⟨0, by omega, rfl, fun r h => absurd h (by omega), HB0.out, BA.out⟩
    case round =>
      obtain ⟨t, ht, rfl, hA, hb, hB⟩ := hrel
      have HA := Hid.intro hA
      have HBW := Hid.intro hB
      have HBB := Hid.intro hb
      have c2 : wr.cell? ⟨w.heap.size, 2, none⟩ = some (.int .i64 (S : Int)) := by rw [cell_of_row wr _ 2 _ _ _ hb]; rfl
      clear hA hb hB
      by_cases hlt : t < n
      · have hlt' : t < L.length := by rw [← HLN.out]; exact hlt
        obtain ⟨lb, lo, rfl, hrow⟩ := HR.out (by omega)
        obtain ⟨ra, rc, hcell, _, _⟩ := hrow t hlt'
        have ct : wr.cell? ⟨lb, lo + t, none⟩ = some (.slice ra (L.getD t []).length rc) := cellK HBW.out hcell
        have hml := HM.out t
        have t0 : (0 : Int) ≤ (t : Int) := by omega
        have t1 : (t : Int) < (n : Int) := by omega
        have HX : Hid (∀ r, (L.getD t []).length = r → (r = 0 ∨ r = S) → ∀ q, q < t + 1 → (L.getD q []).length = 0 ∨ (L.getD q []).length = S) := fun r h1 h2 q hq => by
          by_cases e : q = t
          · subst e; rw [h1]; exact h2
          · exact HA.out q (by omega)
        have HY : Hid (∀ r, (L.getD t []).length = r → ¬ (r = 0 ∨ r = S) → ¬ ∀ q, q < L.length → (L.getD q []).length = 0 ∨ (L.getD q []).length = S) := fun r h1 h2 h3 => h2 (h1 ▸ h3 t hlt')
        have HZ := Hid.intro (show (L.getD t []).length = (L.getD t []).length from rfl)
        clear hcell hrow hlt'
        obtain ⟨r, hrr⟩ : ∃ r, r = (L.getD t []).length := ⟨_, rfl⟩
        rw [← hrr] at ct hml
        have HRR := Hid.intro hrr.symm
        clear hrr HZ
        by_cases r0 : r = 0
        · subst r0
          have d0 : (((0 : Nat) : Int) != 0) = false := by simp
          go_wp2
          go_roundw
          case rel => exact ⟨t + 1, by omega, by go_num, HX.out 0 HRR.out (.inl rfl), HBB.out, HBW.out⟩
          case measure => simp [intOf]; omega
        · have d0 : ((r : Int) != 0) = true := by rw [bne_iff_ne]; omega
          by_cases r1 : r = S
          · subst r1
            have d1 : ((r : Int) != (r : Int)) = false := by simp
            go_wp2
            go_roundw
            case rel => exact ⟨t + 1, by omega, by go_num, HX.out r HRR.out (.inr rfl), HBB.out, HBW.out⟩
            case measure => simp [intOf]; omega
          · have d1 : ((r : Int) != (S : Int)) = true := by rw [bne_iff_ne]; omega
            go_wp2
            go_ret
            have e : R = false := by
              rcases hq : R with _ | _
              · rfl
              · exact absurd (SZ.out.1 hq).2 (HY.out r HRR.out (by omega))
            rw [e]
            exact ⟨rfl, HBW.out⟩
      · have hte : n = t := by omega
        have t1 : ¬ (t : Int) < (n : Int) := by omega
        subst hte
        clear hlt ht
        go_wp2
        go_ret
        have e : R = true := SZ.out.2 ⟨HLN.out.symm, fun r hr => HA.out r (by rw [HLN.out]; exact hr)⟩
        rw [e]
        exact ⟨rfl, HBW.out⟩
  · have q0 : ((n : Int) != (N : Int)) = true := by rw [bne_iff_ne]; omega
    go_enter Tryz.func145, Tryz.ntmps145
    go_wp2
    go_ret
    have e : R = false := by
      rcases hq : R with _ | _
      · rfl
      · exact absurd (HLN.out.trans (SZ.out.1 hq).1) hN2
    rw [e]
    exact ⟨rfl, BA.out⟩

end Go.Proofs.YthhggjakenalpaaGreatDoor

/- Package rs: Decode. -/
namespace Go.Proofs.YthhggjakenalpaaGreatDoor
set_option maxRecDepth 100000
open Go.RowKit
open Bt

/-- A shard of data, reckoned from the first shards that are there. -/
theorem shardD_any (K S : Nat) (hS : 1 ≤ S) (hS2 : S ≤ 1000) (L : List (List Nat)) (hL : L.length ≤ 256) (hB : BytL L) (hs : ∀ r, r < L.length → (L.getD r []).length = 0 ∨ (L.getD r []).length = S) (i : Nat) (hi : i < 256) (bk bw : Nat) (w : World) (hT : Thr w bk bw (firstL K L) (wts (decAt K L) i)) :
    Calls Tryz.prog 148 #[.int .i64 (S : Int), thrF bk bw] w fun e w' => ∃ g cap, e = .returned (.slice (some ⟨g, 0, none⟩) S cap) ∧ (∀ j u, ((decRow K S L i).map U)[j]? = some u → w'.cell? ((⟨g, 0, none⟩ : Addr).add j) = some u) ∧ Below w.heap.size w w' := by
  have hws := wts_byt (decAt_byt (K := K) hL) hi
  have hwl : (wts (decAt K L) i).length = (firstL K L).length := by rw [wts_length, firstL_length]
  have hrow : ∀ r, r < (firstL K L).length → ((firstL K L).getD r []).length = S := fun r hr => by
    have hr' : r < (decAt K L).length := by rw [← firstL_length]; exact hr
    have hm := decAt_mem (List.getElem_mem hr')
    have e : (firstL K L).getD r [] = L.getD (decAt K L)[r] [] := by
      rw [← List.getElem_eq_getD (h := hr) []]
      simp [firstL]
    rw [e]
    have := there_pos hm
    rcases hs _ (there_lt hm) with h | h <;> omega
  have hFB : BytL (firstL K L) := fun x hx => by
    obtain ⟨j, _, rfl⟩ := List.mem_map.1 hx
    exact getD_bytL hB j
  have hFl : (firstL K L).length ≤ 1000 := by
    rw [firstL_length]
    have : (decAt K L).length ≤ (there L).length := by unfold decAt; rw [List.length_take]; omega
    have : (there L).length ≤ L.length := by
      unfold there
      exact Nat.le_trans (List.length_filter_le _ _) (by simp)
    omega
  have h := shardOf_any S bk bw hS2 (decB K L i) w (fun W hW p hp => by
    have := through1_any bk bw p (firstL K L) (wts (decAt K L) i) hFB hws hwl hFl (by omega) (fun r hr => by rw [hrow r hr]; exact hp) W (hT.below hW)
    rw [firstL_length] at this
    have e : fs (decAt K L).length (fun r => gmul ((wts (decAt K L) i).getD r 0) (((firstL K L).getD r []).getD p 0)) = decB K L i p := dot_dec hL hB hi
    rw [e] at this
    exact this)
  refine h.mono ?_
  rintro e w' ⟨v, rfl, hO, _, hB'⟩
  obtain ⟨g, cap, rfl, _, _⟩ := hO.form (by omega)
  refine ⟨g, cap, rfl, fun j u hu => ?_, hB'⟩
  have hj : j < S := by
    have := (List.getElem?_eq_some_iff.1 hu).1
    simpa [decRow] using this
  rw [WideShapes.add_plain, Nat.zero_add, hO.cellAt j (by omega)]
  exact hu

set_option maxRecDepth 100000 in
set_option maxHeartbeats 1000000 in
theorem decode_ok (K N S : Nat) (hmay : mayC K N S = true) (ao : Option Addr) (cap : Nat) (L : List (List Nat)) (hB : BytL L) (hl : L.length = N) (hs : ∀ r, r < L.length → (L.getD r []).length = 0 ∨ (L.getD r []).length = S) (hm : ∀ r, (L.getD r []).length ≤ 300) (w : World) (hr : ReadsL w ao L) :
    Calls Tryz.prog 109 #[Cd K N S, .slice ao L.length cap] w fun e w' => ∃ v, e = .returned (.tuple #[v, .int .i64 (decE K N S L)]) ∧ Rd w.heap.size w' v (decA K N S L) ∧ Below w.heap.size w w' := by
  obtain ⟨i8, hi8, hz80, hz81, hz82⟩ := info_parts info_u8
  have hKS := may_prod hmay
  obtain ⟨h1, h2, h3, h4, h5, h6⟩ := mayC_true hmay
  have HM := Hid.intro (fun w => rmay_any K N S w)
  rw [hmay] at HM
  obtain ⟨X, hX⟩ : ∃ X, X = K * S := ⟨_, rfl⟩
  have HT := Hid.intro (fun w => textBytes_any K S N X hX (by omega) w)
  have HA := Hid.intro (fun (W : World) (h : ReadsL W ao L) => areSized_any K N S (by omega) (by omega) (by omega) ao cap L (by omega) (fun r => by have := hm r; omega) W h)
  have hsz : sizedB N S L = true := sizedB_iff.2 ⟨hl, hs⟩
  rw [hsz] at HA
  have HF := Hid.intro (fun (W : World) (h : ReadsL W ao L) => firstThere_any K (by omega) ao cap L (by omega) (fun r => by have := hm r; omega) W h)
  have HTH := Hid.intro (fun (i : Nat) (hi : i < 256) (W : World) aa ca ak ck (h1 : Reads W aa (decAt K L)) (h2 : ReadsL W ak (firstL K L)) => through_any i hi aa ca (decAt K L) (decAt_byt (by omega)) (decAt_nodup K L) (by have := thT_le K L L.length; rw [thT_all] at this; omega) ak ck (firstL K L) W h1 h2)
  have HSH := Hid.intro (fun (i : Nat) (hi : i < 256) bk bw (W : World) (h : Thr W bk bw (firstL K L) (wts (decAt K L) i)) => shardD_any K S (by omega) (by omega) L (by omega) hB hs i hi bk bw W h)
  have HR := Hid.intro hr
  have E8 : Hid ((decAt K L).length < K → decE K N S L = 8 ∧ decA K N S L = []) := fun h => by
    have e := decE_few hmay (by omega) (fun r hr => (hs r hr).imp id (fun q => by omega)) (by have := decAt_few h; omega)
    exact ⟨e, by unfold decA; rw [e, if_neg (by decide)]⟩
  have E0 : Hid (¬ (decAt K L).length < K → (decE K N S L = 0 ∧ decA K N S L = decT K S L) ∧ (decAt K L).length = K) := fun h => by
    have q := decAt_enough h
    have e := decE_ok hmay (by omega) (fun r hr => (hs r hr).imp id (fun q => by omega)) (by omega : (K : Int) ≤ ((there L).length : Int))
    exact ⟨⟨e, by unfold decA; rw [e, if_pos rfl]; rfl⟩, decAt_length q⟩
  have b0 := Hid.intro (heap_alloc_new w (.cells #[.int .i64 (K : Int), .int .i64 (N : Int), .int .i64 (S : Int)] 23))
  have B0 := Hid.intro ((Below.refl _ w).alloc (Nat.le_refl _) (.cells #[.int .i64 (K : Int), .int .i64 (N : Int), .int .i64 (S : Int)] 23))
  have hXb : X ≤ 144 := by omega
  have DL := Hid.intro (decT_length K S L)
  have DTK : Hid (∀ i, i < K → (decT K S L).take ((i + 1) * S) = (decT K S L).take (i * S) ++ decRow K S L i) := fun i hi => decT_take (by omega) L hi
  have HX := Hid.intro hX
  have hAl : (decAt K L).length ≤ K := by have := thT_le K L L.length; rw [thT_all] at this; exact this
  generalize decE K N S L = E at E8 E0 ⊢
  generalize decA K N S L = A at E8 E0 ⊢
  rw [hl] at HA HF ⊢
  clear hr hB hs hm hmay hKS hX hsz hl
  go_enter Tryz.func109, Tryz.ntmps109
  go_wp2_with fail
  refine (HM.out _).mono ?_
  rintro e1 w1 ⟨rfl, B1⟩
  have b1 := (B1.block _ (lt_of_heap b0.out)).trans b0.out
  have B1w := B0.out.trans (B1.mono B0.out.size)
  obtain ⟨c0, c1, c2⟩ := cdK_cells b1
  have b1H := Hid.intro b1
  have B1H := Hid.intro B1w
  clear b1 B1w B1 b0 B0 HM
  go_wp2_with fail
  refine (HA.out _ (HR.out.below B1H.out)).mono ?_
  rintro e1 w2 ⟨rfl, B2⟩
  have b2 := (B2.block _ (lt_of_heap b1H.out)).trans b1H.out
  have B2w := B1H.out.trans (B2.mono B1H.out.size)
  clear c0 c1 c2
  obtain ⟨c0, c1, c2⟩ := cdK_cells b2
  have b2H := Hid.intro b2
  have B2H := Hid.intro B2w
  clear b2 B2w B2 b1H B1H HA
  go_wp2_with fail
  refine (HF.out _ (HR.out.below B2H.out)).mono ?_
  rintro e1 w3 ⟨va, vk, rfl, O3, ⟨ak, ck, rfl, K3⟩, B3⟩
  obtain ⟨aa, ca, rfl, RA3, _⟩ := row_of_owns O3
  have b3 := (B3.block _ (lt_of_heap b2H.out)).trans b2H.out
  have B3w := B2H.out.trans (B3.mono B2H.out.size)
  clear c0 c1 c2
  obtain ⟨c0, c1, c2⟩ := cdK_cells b3
  have b3H := Hid.intro b3
  have B3H := Hid.intro B3w
  have RAH := Hid.intro RA3
  have RKH := Hid.intro K3
  clear b3 B3w B3 b2H B2H HF O3 RA3 K3 HR
  by_cases hfew : (decAt K L).length < K
  · obtain ⟨rfl, rfl⟩ := E8.out hfew
    have f1 : ((decAt K L).length : Int) < (K : Int) := by omega
    clear E8 E0
    generalize (decAt K L).length = nA at hfew f1 hAl ⊢
    go_wp2
    go_ret2
    exact ⟨_, rfl, rd_nil _ _, B3H.out⟩
  · obtain ⟨⟨rfl, rfl⟩, hAK⟩ := E0.out hfew
    have f1 : ¬ ((decAt K L).length : Int) < (K : Int) := by omega
    have hFK : (firstL K L).length = K := by rw [firstL_length]; exact hAK
    rw [hAK] at f1 HTH ⊢
    rw [hFK] at HTH ⊢
    clear E8 E0 hfew hAK hFK hAl
    go_wp2_with fail
    refine (HT.out _).mono ?_
    rintro e1 w4 ⟨rfl, B4⟩
    have b4 := (B4.block _ (lt_of_heap b3H.out)).trans b3H.out
    have B4w := B3H.out.trans (B4.mono B3H.out.size)
    have RA4 := Hid.intro (RAH.out.below B4)
    have RK4 := Hid.intro (RKH.out.below B4)
    have b4H := Hid.intro b4
    have B4H := Hid.intro B4w
    clear c0 c1 c2 b4 B4w B4 b3H B3H RAH RKH HT
    go_wp2_with (at_make; refine wpList_make_own _ rfl _ _ 42 rfl 0 5 i8 (.int .u8 0) 1 Tryz.underlying42 hi8 hz80 hz81 _ _ _ X rfl rfl (by omega) (by rw [hz82]; omega) (by unfold maxLen; omega) (Nat.zero_le _) ?_)
    intro w5 hown hgrow
    have B5 : Below w4.heap.size w4 w5 := (Below.refl _ w4).grown hgrow (Nat.le_refl _) (fun k hk => by cases hk)
    have NE := Hid.intro (lt_of_heap b4H.out)
    have OH := Hid.intro hown
    have B5H := Hid.intro B5
    have b5 := (B5.block _ NE.out).trans b4H.out
    obtain ⟨c0, c1, c2⟩ := cdK_cells b5
    clear hown hgrow B5 b5
    go_wp2_with fail
    clear c0 c1 c2
    go_loopw [8, 34] (fun v i wr => ∃ t : Nat, t ≤ K ∧ i = .int .i64 t ∧ wr.ownsRow 0 5 1 v (t * S) (((decT K S L).take (t * S)).map U) ∧ (∀ k, v.ownBlock = some k → w4.heap.size ≤ k) ∧ Below w4.heap.size w4 wr) (fun _ i _ => K - (intOf i).toNat)
    case atStart => exact ⟨0, by omega, rfl, by simpa using OH.out, (fun k hk => by
      have e : w4.heap.size = k := by simpa [Value.ownBlock] using hk
      omega), B5H.out⟩
    case round =>
      clear OH B5H
      obtain ⟨t, ht, rfl, OT, NT, BT⟩ := hrel
      have OTH := Hid.intro OT
      have NTH := Hid.intro NT
      have BTH := Hid.intro BT
      clear OT NT BT
      have bt := (BTH.out.block _ NE.out).trans b4H.out
      obtain ⟨c0, c1, c2⟩ := cdK_cells bt
      by_cases hlt : t < K
      · have t256 : t < 256 := by omega
        have hu8 : (t : Int) % 256 = (t : Int) := by omega
        have hu8w : IntKind.u8.wrap (t : Int) = (t : Int) := IntWalk.u8_in _ (by omega)
        have t0 : (0 : Int) ≤ (t : Int) := by omega
        have t1 : (t : Int) < (K : Int) := by omega
        have hA := Hid.intro (HTH.out t t256 wr.drew aa ca ak ck (show Reads wr.drew aa _ from RA4.out.below BTH.out.drew) (show ReadsL wr.drew ak _ from RK4.out.below BTH.out.drew))
        have HS := Hid.intro (HSH.out t t256)
        have TK := DTK.out t hlt
        have h7 : t * S + S ≤ X := by rw [HX.out, ← Nat.succ_mul]; exact Nat.mul_le_mul_right _ hlt
        have h8 : (t + 1) * S = t * S + S := Nat.succ_mul t S
        rw [h8] at TK
        obtain ⟨Y, hY⟩ : ∃ Y, Y = t * S := ⟨_, rfl⟩
        rw [← hY] at OTH TK h7 h8
        have H8 := Hid.intro h8
        have TKH := Hid.intro TK
        have DR : Hid (((decRow K S L t).map U).length = S * 1) := by show _ = _; simp [decRow]
        have D1 : Hid (∀ u ∈ (decRow K S L t).map U, u.oneCell' = true) := bytes_one _
        have S0 : Hid (0 < S) := by show _ < _; omega
        clear bt h8 TK hY
        go_wp2_with fail
        go_region_held3 (fun w' => w'.cell? ⟨w.heap.size, 2, none⟩ = some (.int .i64 (S : Int)))
          (first | exact cellK E7 c2 | exact cellK E6 c2 | go_keep | exact (hgrow.cell_far _ (Nat.lt_of_lt_of_le NE.out (Nat.le_trans BTH.out.size E7.size)) (fun q => Nat.lt_irrefl _ (Nat.lt_of_lt_of_le NE.out (NTH.out _ q.symm)))).trans (cellK E7 c2))
          ((first
            | (go_at_call 149; refine hA.out.mono ?_; rintro e w6 ⟨bk, bw, rfl, T6, B6⟩; have E6 : Below wr.heap.size wr w6 := undrewK B6 rfl)
            | (go_at_call 148; refine (HS.out bk bw w6 T6).mono ?_; rintro e w7 ⟨g7, p7, rfl, N7, B7⟩; have E7 := E6.trans (B7.mono E6.size); have O7 := ownsRow_keep (w' := w7) OTH.out fun k hk => E7.block k (ownsRow_lt OTH.out hk))
            | (refine step_append_lies _ rfl _ _ 42 rfl 0 5 i8 (.int .u8 0) 1 1 Tryz.underlying42 hi8 hz80 hz81 hz82 rfl (by decide) u8 Y _ rfl O7 ⟨g7, 0, none⟩ S p7 ((decRow K S L t).map U) rfl DR.out N7 D1.out S0.out (by unfold maxLen; omega) (by omega) (Nat.zero_le _) w7.heap.size rfl ?_; intro g9 c9 w9 hown hgrow hat hgl)))
        all_goals
          have C9 : Chg (fun k => u8.ownBlock = some k) w7 w9 := (Chg.refl _ w7).grown hgrow (fun k hk _ => hk)
          have B7w := BTH.out.trans (E7.mono BTH.out.size)
          have B9 := B7w.trans (C9.below B7w.size (fun k hk => NTH.out k hk))
          have N9 : ∀ k, (Value.slice (some ⟨g9, 0, none⟩) (Y + S) c9).ownBlock = some k → w4.heap.size ≤ k := by
            intro k hk
            have e : g9 = k := by simpa [Value.ownBlock] using hk
            subst e
            rcases hat with hat | hat
            · exact NTH.out g9 hat
            · have := B7w.size; omega
          have O9 : w9.ownsRow 0 5 1 (.slice (some ⟨g9, 0, none⟩) (Y + S) c9) ((t + 1) * S) (((decT K S L).take ((t + 1) * S)).map U) := by
            rw [H8.out, TKH.out, List.map_append]
            exact hown
          have O9H := Hid.intro O9
          have N9H := Hid.intro N9
          have B9H := Hid.intro B9
          clear hown hgrow hat hgl O9 N9 B9 C9 B7w E6 E7 B6 B7 T6 O7 N7 c0 c1 c2 OTH NTH BTH
          go_wp2
          go_roundw
          case rel => exact ⟨t + 1, by omega, by go_num, O9H.out, N9H.out, B9H.out⟩
          case measure => simp [intOf]; omega
      · have hte : K = t := by omega
        have t1 : ¬ (t : Int) < (K : Int) := by omega
        have OE := OTH.out
        rw [← hte, List.take_of_length_le (by rw [DL.out]; exact Nat.le_refl _), ← DL.out] at OE
        have R := rd_of_owns OE NTH.out
        have RH := Hid.intro R
        have BW := Hid.intro (B4H.out.trans (BTH.out.mono B4H.out.size))
        have MW : Hid (∀ v bs, Rd w4.heap.size wr v bs → Rd w.heap.size wr v bs) := fun v bs h => by
          obtain ⟨a, c, e, q1, q2, q3⟩ := h
          exact ⟨a, c, e, q1, q2, fun ad ha => Nat.le_trans (Nat.le_of_lt NE.out) (q3 ad ha)⟩
        clear hlt ht hte OE R OTH
        go_wp2
        go_ret2
        exact ⟨_, rfl, MW.out _ _ RH.out, BW.out⟩

set_option maxRecDepth 100000 in
set_option maxHeartbeats 1000000 in
theorem rdecode_any (k n s : Int) (ao : Option Addr) (cap : Nat) (L : List (List Nat)) (hB : BytL L) (hl : L.length ≤ 300) (hm : ∀ r, (L.getD r []).length ≤ 300) (w : World) (hr : ReadsL w ao L) :
    Calls Tryz.prog 109 #[Cd k n s, .slice ao L.length cap] w fun e w' => ∃ v, e = .returned (.tuple #[v, .int .i64 (decE k n s L)]) ∧ Rd w.heap.size w' v (decA k n s L) ∧ Below w.heap.size w w' := by
  have HM := Hid.intro (fun w => rmay_any k n s w)
  have b0 := Hid.intro (heap_alloc_new w (.cells #[.int .i64 k, .int .i64 n, .int .i64 s] 23))
  have B0 := Hid.intro ((Below.refl _ w).alloc (Nat.le_refl _) (.cells #[.int .i64 k, .int .i64 n, .int .i64 s] 23))
  rcases hmay : mayC k n s with _ | _
  · have e1 := decE_may (L := L) hmay
    have eA : decA k n s L = [] := by unfold decA; rw [e1, if_neg (by decide)]
    rw [e1, eA]
    rw [hmay] at HM
    clear e1 eA hr hB hm
    go_enter Tryz.func109, Tryz.ntmps109
    go_wp2_with fail
    refine (HM.out _).mono ?_
    rintro e1 w1 ⟨rfl, B1⟩
    have B1w := B0.out.trans (B1.mono B0.out.size)
    clear B1
    go_wp2
    go_ret2
    exact ⟨_, rfl, rd_nil _ _, B1w⟩
  · obtain ⟨h1, h2, h3, h4, h5, h6⟩ := mayC_true hmay
    obtain ⟨K, rfl⟩ := Int.eq_ofNat_of_zero_le (show 0 ≤ k by omega)
    obtain ⟨N, rfl⟩ := Int.eq_ofNat_of_zero_le (show 0 ≤ n by omega)
    obtain ⟨S, rfl⟩ := Int.eq_ofNat_of_zero_le (show 0 ≤ s by omega)
    rcases hsz : sizedB N S L with _ | _
    · have hno : ¬ (L.length = N ∧ ∀ r, r < L.length → (L.getD r []).length = 0 ∨ (L.getD r []).length = S) := fun q => by
        rw [sizedB_iff.2 q] at hsz; cases hsz
      have e1 : decE K N S L = 4 := by
        by_cases hq : L.length = N
        · have : ∃ t, t < L.length ∧ ¬ ((L.getD t []).length = 0 ∨ (L.getD t []).length = S) := Classical.byContradiction fun q => hno ⟨hq, fun r hr => Classical.byContradiction fun q2 => q ⟨r, hr, q2⟩⟩
          obtain ⟨t, ht, hq2⟩ := this
          exact decE_size hmay (by omega) ht (by omega) (by omega)
        · exact decE_many hmay (by omega)
      have eA : decA K N S L = [] := by unfold decA; rw [e1, if_neg (by decide)]
      rw [e1, eA]
      rw [hmay] at HM
      have HA := Hid.intro (fun (W : World) (h : ReadsL W ao L) => areSized_any K N S (by omega) (by omega) (by omega) ao cap L (by omega) (fun r => by have := hm r; omega) W h)
      rw [hsz] at HA
      have HR := Hid.intro hr
      clear e1 eA hr hB hm hno hsz
      go_enter Tryz.func109, Tryz.ntmps109
      go_wp2_with fail
      refine (HM.out _).mono ?_
      rintro e1 w1 ⟨rfl, B1⟩
      have b1 := (B1.block _ (lt_of_heap b0.out)).trans b0.out
      have B1H := Hid.intro (B0.out.trans (B1.mono B0.out.size))
      obtain ⟨c0, c1, c2⟩ := cdK_cells b1
      clear b1 B1
      go_wp2_with fail
      refine (HA.out _ (HR.out.below B1H.out)).mono ?_
      rintro e1 w2 ⟨rfl, B2⟩
      have B2w := B1H.out.trans (B2.mono B1H.out.size)
      clear B2 c0 c1 c2
      go_wp2
      go_ret2
      exact ⟨_, rfl, rd_nil _ _, B2w⟩
    · obtain ⟨q1, q2⟩ := sizedB_iff.1 hsz
      exact decode_ok K N S hmay ao cap L hB q1 q2 hm w hr

end Go.Proofs.YthhggjakenalpaaGreatDoor
