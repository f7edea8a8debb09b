/- Package field: Add, and Mul, which ranges over a byte's doublings. -/
import Derived.Test.YtebjkbhidpdpfaaFldB
import Derived.Test.YtebjkbhidpdpfaaFldU8
namespace Go.Proofs.Ytebjkbhidpdpfaa
open Go.RowKit Go.Shelf
open Bt
attribute [local go_sem] Oper.semAt_some

theorem fadd_any (a b : Nat) (ha : a < 256) (hb : b < 256) (w : World) :
    Calls Try.prog 37 #[.int .u8 (a : Int), .int .u8 (b : Int)] w fun e w' => e = .returned (.int .u8 ((a ^^^ b : Nat) : Int)) ∧ Below w.heap.size w w' := by
  have hx := fu8_xor a b ha hb
  generalize a ^^^ b = R at hx ⊢
  have HX := Hid.intro hx
  clear hx
  go_enter Try.func37, Try.ntmps37
  go_wp2
  go_ret
  exact ⟨ret_int HX.out, Below.refl _ _⟩


theorem add_same (a b : Nat) (ha : a < 256) (hb : b < 256) (w : World) :
    Calls Try.prog 37 #[.int .u8 (a : Int), .int .u8 (b : Int)] w fun e w' => e = .returned (.int .u8 ((a ^^^ b : Nat) : Int)) ∧ w = w' := by
  have hx := fu8_xor a b ha hb
  generalize a ^^^ b = R at hx ⊢
  have HX := Hid.intro hx
  clear hx
  go_enter Try.func37, Try.ntmps37
  go_wp2
  go_ret
  exact ⟨ret_int HX.out, rfl⟩

/-- What the bits of b at the places that have come make of a. -/
def gsum (a b : Nat) : List (Fin 8) → Nat
  | [] => 0
  | x :: r => (if b / 2 ^ x.val % 2 = 1 then xtn x.val a else 0) ^^^ gsum a b r

theorem gsum_snoc (a b : Nat) (l : List (Fin 8)) (x : Fin 8) : gsum a b (l ++ [x]) = gsum a b l ^^^ (if b / 2 ^ x.val % 2 = 1 then xtn x.val a else 0) := by
  induction l with
  | nil => simp [gsum]
  | cons y r ih => simp only [List.cons_append, gsum, ih, Nat.xor_assoc]

theorem gsum_lt {a : Nat} (ha : a < 256) (b : Nat) (l : List (Fin 8)) : gsum a b l < 256 := by
  induction l with
  | nil => simp [gsum]
  | cons y r ih =>
    refine xor_lt8 ?_ ih
    split
    · exact xtn_lt ha _
    · decide

theorem gsum_row (a b : Nat) (k : Nat) : ∀ l : List (Fin 8), l.length = k → Row l → gsum a b l = gm k a b := by
  induction k with
  | zero => intro l hl _; obtain rfl := List.length_eq_zero_iff.1 hl; rfl
  | succ k ih =>
    intro l hl hr
    obtain ⟨p, x, rfl⟩ : ∃ p x, l = p ++ [x] := by
      rcases List.eq_nil_or_concat l with h | ⟨p, x, h⟩
      · subst h; simp at hl
      · exact ⟨p, x, by simpa using h⟩
    have hp : p.length = k := by simpa using hl
    have hx : x.val = k := by
      have := hr k (by simp; omega)
      subst hp
      simpa using this
    rw [gsum_snoc, ih p hp (fun j hj => by have := hr j (by simp; omega); rwa [List.getElem_append_left hj] at this), hx]
    rfl

theorem bit_at {b x : Nat} (hb : b < 256) (hx : x < 8) : (bits .and .u8 ((b : Int) / 2 ^ x) 1 == 1) = decide (b / 2 ^ x % 2 = 1) := by
  have := all_lt (p := fun b => (List.range 8).all fun x => decide ((bits .and .u8 ((b : Int) / 2 ^ x) 1 == 1) = decide (b / 2 ^ x % 2 = 1))) (n := 256) (by decide +kernel) b hb
  simpa using all_lt this x hx

set_option maxRecDepth 100000 in
set_option maxHeartbeats 2000000 in
theorem fmul_any (a b : Nat) (ha : a < 256) (hb : b < 256) (w : World) :
    Calls Try.prog 38 #[.int .u8 (a : Int), .int .u8 (b : Int)] w fun e w' => e = .returned (.int .u8 ((gmul a b : Nat) : Int)) ∧ Below w.heap.size w w' := by
  refine (callsIn_wide (n := 4)).1 ?_
  refine callsIn_of_wp_marks Try.func38 rfl trivial ?_ rfl
  simp only [Try.ntmps38, List.size_toArray, List.length_cons, List.length_nil, Nat.reduceAdd, Nat.reduceSub, Array.replicate_succ, Array.replicate_zero, List.push_toArray, List.append_toArray, List.nil_append, List.cons_append]
  gi_wp2_with (refine ⟨trivial, ?_⟩; gi_at_call 40; refine (callsIn_wide.2 (doublings_any _ _ _)).mono ?_; rintro e w' ⟨rfl, rfl⟩)
  have c0 := cellNew w (.int .u8 (b : Int)) 5
  have c1 := cellNew (w.alloc (.cells #[.int .u8 (b : Int)] 5)) (.int .u8 0) 5
  have c2 := cellNew ((w.alloc (.cells #[.int .u8 (b : Int)] 5)).alloc (.cells #[.int .u8 0] 5)) (.int .u8 (a : Int)) 5
  have c3 := cellNew (((w.alloc (.cells #[.int .u8 (b : Int)] 5)).alloc (.cells #[.int .u8 0] 5)).alloc (.cells #[.int .u8 (a : Int)] 5)) (.int .i64 8) 3
  simp only [World.size_alloc, Nat.add_assoc, Nat.reduceAdd] at c1 c2 c3
  have hB0 : Below w.heap.size w ((((w.alloc (.cells #[.int .u8 (b : Int)] 5)).alloc (.cells #[.int .u8 0] 5)).alloc (.cells #[.int .u8 (a : Int)] 5)).alloc (.cells #[.int .i64 8] 3)) := ((((Below.refl _ w).alloc (Nat.le_refl _) _).alloc (by simp) _).alloc (by simp; omega) _).alloc (by simp; omega) _
  refine wpIn_rangeFunc_ownF rfl (by decide) (gf := 42) (lb := #[.pointer (some ⟨w.heap.size + 2, 0, none⟩), .pointer (some ⟨w.heap.size + 3, 0, none⟩)]) rfl trivial (enters_of Try.func42 (by kernel_rfl) rfl)
    (doublings_stops 3 (by decide) a 8 (w.heap.size + 2) (w.heap.size + 3) ha (by decide) _ (cellOld _ c2.1) c3.1) walksK_t walksK_b (Below.refl _ _) (fun _ => rfl)
    (fun pre W => (W.cell? ⟨w.heap.size, 0, none⟩ = some (.int .u8 (b : Int)) ∧ W.cell? ⟨w.heap.size + 1, 0, none⟩ = some (.int .u8 ((gsum a b pre : Nat) : Int)) ∧ W.frozen? ⟨w.heap.size + 1, 0, none⟩ = false) ∧ Below w.heap.size w W)
    (fun _ _ _ => False)
    (OwnFrom.and (Own.from (fun s A B row hs hg hr => ⟨cell_kept hs.1 hg hr, cell_kept hs.2.1 hg hr, (frozen_kept hs.2.1 hg hr).trans hs.2.2⟩) _) (ownFrom_below (Nat.le_refl _) (by simp; omega)))
    (fun c => Own.from (fun _ _ _ _ hs _ _ => hs) _)
    ⟨⟨cellOld _ (cellOld _ (cellOld _ c0.1)), cellOld _ (cellOld _ c1.1), ?frz⟩, hB0⟩
    (fun x => { tmps := #[.int .u8 (a : Int), .int .u8 (b : Int), undef, .pointer (some ⟨w.heap.size, 0, none⟩), .int .u8 0, .pointer (some ⟨w.heap.size + 1, 0, none⟩), .int .i64 (x.val : Int), .int .u8 ((xtn x.val a : Nat) : Int), .int .u8 (a : Int), .func (.func 42) #[] #[.pointer (some ⟨w.heap.size + 2, 0, none⟩), .pointer (some ⟨w.heap.size + 3, 0, none⟩)], .int .i64 (x.val : Int), .int .u8 ((xtn x.val a : Nat) : Int), undef, undef, undef, undef, undef, undef, undef, undef, undef], defers := [] }) ?assign ?body ?done ?stop
  case frz => exact frozenOld _ (cellOld _ c1.1) (frozenOld _ c1.1 c1.2)
  case assign =>
    intro l x W K hK
    gi_wp2
    exact hK
  case body =>
    rintro l pre x W ⟨⟨hcb, hcs, hfs⟩, hB⟩ _
    have hS := gsum_snoc a b pre x
    have hl := gsum_lt ha b pre
    have hx := xtn_lt ha x.val
    have hj := bit_at hb x.isLt
    by_cases hbit : b / 2 ^ x.val % 2 = 1
    · rw [decide_eq_true hbit] at hj
      rw [if_pos hbit] at hS
      have HA := Hid.intro (add_same (gsum a b pre) (xtn x.val a) hl hx)
      rw [← hS] at HA
      have HS := Hid.intro (fun (v : Nat) (h : W.cell? ⟨w.heap.size + 1, 0, none⟩ = some (.int .u8 (v : Int))) => World.cell?_setCell_same' W ⟨w.heap.size + 1, 0, none⟩ (.int .u8 ((gsum a b (pre ++ [x]) : Nat) : Int)) (by rw [h]; rfl))
      clear hS
      gi_wp2_with (refine ⟨trivial, ?_⟩; gi_at_call 37; refine (CallsIn.inRound l (callsIn_wide.2 (HA.out _))).mono ?_; rintro e w' ⟨rfl, rfl⟩)
      exact ⟨KeepsOthers.setCell _ _ _, (KeepsOthers.setCell _ _ _).walks, ⟨(World.cell?_setCell_other _ _ _ _ (fun h => by have := congrArg Addr.block h; simp at this)).trans hcb, HS.out _ hcs, by rw [World.frozen?_setCell]; exact hfs⟩, hB.setCell (p := ⟨w.heap.size + 1, 0, none⟩) (by simp) _⟩
    · rw [decide_eq_false hbit] at hj
      rw [if_neg hbit, Nat.xor_zero] at hS
      have HS := Hid.intro hS
      clear hS
      gi_wp2
      exact ⟨KeepsOthers.refl _, KeepsWalks.refl _, ⟨hcb, by rw [HS.out]; exact hcs, hfs⟩, hB⟩
  case done =>
    rintro D ys W hD ⟨hl, hrow⟩ ⟨⟨_, hcs, hfs⟩, hB⟩ hK
    rw [gsum_row a b 8 ys hl hrow] at hcs
    obtain ⟨R, hR⟩ : ∃ R, R = gmul a b := ⟨_, rfl⟩
    rw [show gm 8 a b = gmul a b from rfl, ← hR] at hcs
    have HR := Hid.intro hR
    clear hR
    gi_wp2
    refine ⟨by simp, .inl ⟨_, _, rfl, run_takeDeferred hK, ?_⟩⟩
    exact ⟨_, results_tmp rfl _ _ _, by rw [← HR.out]; rfl, hB.trans (belowK_b (w := w) (Nat.le_refl _) W D _ _ (by simp at hD; omega) hK rfl rfl)⟩
  case stop =>
    rintro D c pre W _ _ h _
    exact h.elim

end Go.Proofs.Ytebjkbhidpdpfaa
