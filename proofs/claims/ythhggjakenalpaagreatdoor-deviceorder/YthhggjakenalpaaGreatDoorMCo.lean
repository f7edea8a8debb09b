/- Several texts, one behind the other: CoK1 CoK2 CoK3 CoK4 CoK5 CoK6 CoClone CoK7 CoK8 CoK9 CoKa CoCon. -/
import Derived.Test.YthhggjakenalpaaGreatDoorCoPart
import Derived.Test.YthhggjakenalpaaGreatDoorMapL
import Derived.Test.YthhggjakenalpaaGreatDoorMSq
import Derived.Test.YthhggjakenalpaaGreatDoorMRs
import Derived.Test.YthhggjakenalpaaGreatDoorMPlain
import Derived.Test.YthhggjakenalpaaGreatDoorRsVal
import Derived.Test.YthhggjakenalpaaGreatDoorAppB
import Derived.Lib.SliceRun
import Derived.Deep.RegionLaw
import Derived.Test.YthhggjakenalpaaGreatDoorRefSevI
/- A collector in memory: its map's keys, and the bits of groups that were given up. -/
namespace Go.Proofs.YthhggjakenalpaaGreatDoor
set_option maxRecDepth 100000
open Go.RowKit
open Bt

def spotV (k : Int × Int) : Value := .agg #[.int .i64 k.1, .int .i64 k.2]

def okS (k : Int × Int) : Prop := (Lit.int .i64 k.1).wf = true ∧ (Lit.int .i64 k.2).wf = true

theorem spot_key (x : Int × Int) (h : okS x) : ∃ l, keyOf Tryz.prog 99 (spotV x) = some l := by
  obtain ⟨x1, x2⟩ := x
  obtain ⟨h1, h2⟩ := h
  have u := Tryz.underlying99
  have c2 : Tryz.prog.cellsOf 99 = 2 := by kernel_rfl
  have c1 : Tryz.prog.cellsOf 3 = 1 := by kernel_rfl
  have k1 : Tryz.prog.keyType 99 = true := by kernel_rfl
  have f1 : (spotV (x1, x2)).formed Tryz.prog 99 = true := by simp [spotV, Value.formed, u, c2]
  obtain ⟨d, hd⟩ : ∃ d, Tryz.prog.types.size = d + 1 := Nat.exists_eq_succ_of_ne_zero (Nat.ne_of_gt (of_decide_eq_true (by kernel_rfl)))
  have h3 : Tryz.prog.keyLits (Tryz.prog.types.size + 1) 99 (spotV (x1, x2)).cells.toList = some [.int .i64 x1, .int .i64 x2] := by
    rw [hd]
    simp [Program.keyLits, u, c2, c1, Tryz.underlying3, spotV, Value.cells, h1, h2]
  unfold keyOf
  rw [u]
  simp only [k1, f1, h3]
  exact ⟨_, rfl⟩

theorem spot_by : KeyBy 99 spotV okS :=
  ⟨Maps.Keyed.of_law (deep_law_laid (P := Tryz.prog) (by kernel_rfl) (m := 2) (by omega) (of_decide_eq_true (by kernel_rfl)) (by kernel_rfl) (by rw [Tryz.underlying99])),
    spot_key, fun x y h => by
      obtain ⟨x1, x2⟩ := x
      obtain ⟨y1, y2⟩ := y
      simpa [spotV] using h⟩

/-! ### The groups that were given up, a bit each -/

def gB (a b c d : Bool) : Nat := ((bitN d * 2 + bitN c) * 2 + bitN b) * 2 + bitN a

def gonN (x : Col) : Nat := gB (x.gone 0) (x.gone 1) (x.gone 2) (x.gone 3)

theorem bitN_lt (b : Bool) : bitN b < 2 := by cases b <;> decide

theorem gonN_lt (x : Col) : gonN x < 16 := by
  have := bitN_lt (x.gone 0); have := bitN_lt (x.gone 1); have := bitN_lt (x.gone 2); have := bitN_lt (x.gone 3)
  unfold gonN gB; omega

/-- '1 << f'. -/
def bitI (f : Nat) : Int := IntKind.i64.wrap (2 ^ (min f 64))

theorem bitI_lo {f : Nat} (h : f < 63) : bitI f = ((2 ^ f : Nat) : Int) := by
  unfold bitI
  have h1 : 2 ^ f < 2 ^ 63 := Nat.pow_lt_pow_right (by decide) h
  rw [show min f 64 = f by omega, show (2 : Int) ^ f = ((2 ^ f : Nat) : Int) by simp]
  generalize 2 ^ f = m at h1 ⊢
  exact IntWalk.i64_in _ (by omega)

theorem bitI_hi {f : Nat} (h : 64 ≤ f) : bitI f = 0 := by
  unfold bitI
  rw [show min f 64 = 64 by omega]
  decide

theorem and_top (n : Nat) (h : n < 16) : bits .and .i64 (n : Int) (bitI 63) = 0 := by
  match n, h with
  | 0, _ | 1, _ | 2, _ | 3, _ | 4, _ | 5, _ | 6, _ | 7, _ | 8, _ | 9, _ | 10, _ | 11, _ | 12, _ | 13, _ | 14, _ | 15, _ => decide
  | n + 16, h => omega

/-- Of groups that aren't open no bit is set. -/
theorem gon_far (x : Col) {f : Nat} (h : 4 ≤ f) : bits .and .i64 (gonN x : Int) (bitI f) = 0 := by
  have hl := gonN_lt x
  generalize gonN x = n at hl
  by_cases h1 : f < 63
  · have h2 : 2 ^ f < 2 ^ 63 := Nat.pow_lt_pow_right (by decide) h1
    have h3 : n &&& 2 ^ f = 0 := by
      apply Nat.eq_of_testBit_eq
      intro i
      rw [Nat.testBit_and, Nat.testBit_two_pow, Nat.zero_testBit]
      by_cases e : f = i
      · subst e
        rw [Nat.testBit_lt_two_pow (Nat.lt_of_lt_of_le hl (Nat.pow_le_pow_right (n := 2) (by decide) h))]; rfl
      · simp [e]
    rw [bitI_lo h1, i64_and_nat _ _ (by omega) h2, h3]; rfl
  · by_cases h2 : f = 63
    · subst h2; exact and_top n hl
    · rw [bitI_hi (by omega)]
      have := i64_and_nat n 0 (by omega) (by decide)
      simpa using this

theorem gon_bit (x : Col) {f : Nat} (h : f < 4) : bits .and .i64 (gonN x : Int) (bitI f) = if x.gone f = true then ((2 ^ f : Nat) : Int) else 0 := by
  match f, h with
  | 0, _ => unfold gonN; cases x.gone 0 <;> cases x.gone 1 <;> cases x.gone 2 <;> cases x.gone 3 <;> decide
  | 1, _ => unfold gonN; cases x.gone 0 <;> cases x.gone 1 <;> cases x.gone 2 <;> cases x.gone 3 <;> decide
  | 2, _ => unfold gonN; cases x.gone 0 <;> cases x.gone 1 <;> cases x.gone 2 <;> cases x.gone 3 <;> decide
  | 3, _ => unfold gonN; cases x.gone 0 <;> cases x.gone 1 <;> cases x.gone 2 <;> cases x.gone 3 <;> decide

/-- 'x.givenUp&x.bit(group) != 0'. -/
def wasG (x : Col) (g : Int) : Bool := openA x.base g && x.gone (farN x g)

theorem was_bits (x : Col) {g : Int} (hb : x.base < 256) (hg : isG g = true) : (bits .and .i64 (gonN x : Int) (bitI (farN x g)) != 0) = wasG x g := by
  obtain ⟨h1, h2⟩ := isG_true hg
  unfold wasG
  have hf : farA x.base g = (g - x.base) % 256 := farA_in (by omega) ⟨h1, h2⟩
  by_cases h : farN x g < 4
  · have ho : openA x.base g = true := by
      unfold farN at h
      unfold openA
      rw [hf] at h ⊢
      simp; omega
    rw [gon_bit x h, ho]
    have hp : ((2 ^ farN x g : Nat) : Int) ≠ 0 := by
      have := Nat.two_pow_pos (farN x g); omega
    cases x.gone (farN x g)
    · simp
    · simp only [if_true, Bool.true_and, bne_iff_ne, ne_eq]; exact hp
  · have ho : openA x.base g = false := by
      cases q : openA x.base g
      · rfl
      · exact absurd (open_far q).2 h
    rw [gon_far x (by omega), ho]; rfl

theorem gon_more (x : Col) {f : Nat} (h : f < 4) : bits .or .i64 (gonN x : Int) (bitI f) = (gonN (goneS x f) : Int) := by
  unfold gonN
  match f, h with
  | 0, _ => show _ = ((gB true (x.gone 1) (x.gone 2) (x.gone 3) : Nat) : Int); cases x.gone 0 <;> cases x.gone 1 <;> cases x.gone 2 <;> cases x.gone 3 <;> decide
  | 1, _ => show _ = ((gB (x.gone 0) true (x.gone 2) (x.gone 3) : Nat) : Int); cases x.gone 0 <;> cases x.gone 1 <;> cases x.gone 2 <;> cases x.gone 3 <;> decide
  | 2, _ => show _ = ((gB (x.gone 0) (x.gone 1) true (x.gone 3) : Nat) : Int); cases x.gone 0 <;> cases x.gone 1 <;> cases x.gone 2 <;> cases x.gone 3 <;> decide
  | 3, _ => show _ = ((gB (x.gone 0) (x.gone 1) (x.gone 2) true : Nat) : Int); cases x.gone 0 <;> cases x.gone 1 <;> cases x.gone 2 <;> cases x.gone 3 <;> decide

theorem gon_shift (x : Col) : gonN (shift x) = gonN x / 2 := by
  show gB (x.gone 1) (x.gone 2) (x.gone 3) false = gB (x.gone 0) (x.gone 1) (x.gone 2) (x.gone 3) / 2
  cases x.gone 0 <;> cases x.gone 1 <;> cases x.gone 2 <;> cases x.gone 3 <;> decide

end Go.Proofs.YthhggjakenalpaaGreatDoor

/- A collector in memory: a map of shards, a number of bits: what a call does to them. -/
namespace Go.Proofs.YthhggjakenalpaaGreatDoor
set_option maxRecDepth 100000
open Go.RowKit
open Bt

/-- A group's row at a place. -/
def rowOf (x : Col) (g p : Int) : List Nat := (x.g (farN x g)).getD p.toNat []

/-- Is it there? -/
def inK (x : Col) (k : Int × Int) : Bool := openA x.base k.1 && (decide (0 ≤ k.2) && decide (k.2 < x.N)) && decide (0 < (rowOf x k.1 k.2).length)

theorem inK_true {x : Col} {k : Int × Int} (h : inK x k = true) : openA x.base k.1 = true ∧ 0 ≤ k.2 ∧ k.2 < x.N ∧ 0 < (rowOf x k.1 k.2).length := by
  simp [inK] at h; exact ⟨h.1.1, h.1.2.1, h.1.2.2, h.2⟩

theorem inK_of {x : Col} {k : Int × Int} (h1 : openA x.base k.1 = true) (h2 : 0 ≤ k.2) (h3 : k.2 < x.N) (h4 : 0 < (rowOf x k.1 k.2).length) : inK x k = true := by
  simp [inK, h1, h2, h3, h4]

def thF (x : Col) (A : Int → Int → Option Addr) (C : Int → Int → Nat) (k : Int × Int) : Option Value :=
  if inK x k = true then some (.slice (A k.1 k.2) (rowOf x k.1 k.2).length (C k.1 k.2)) else none

structure CA (S : Nat → Prop) (w : World) (b tb : Nat) (A : Int → Int → Option Addr) (C : Int → Int → Nat) (x : Col) : Prop where
  head : w.heap[b]? = some (.cells #[.int .i64 (x.K : Int), .int .i64 (x.N : Int), .int .i64 (x.S : Int), .int .i64 (x.base : Int), .map (some tb), .int .i64 (gonN x : Int)] 97 (0, 0))
  thr : MapAt spotV okS w tb (thF x A C)
  rd : ∀ g p, inK x (g, p) = true → Reads w (A g p) (rowOf x g p) ∧ Room (A g p) (C g p) (rowOf x g p).length
  inB : S b ∧ S tb
  inA : ∀ g p, inK x (g, p) = true → ∀ ad, A g p = some ad → S ad.block ∧ ad.block ≠ b ∧ ad.block ≠ tb
  ap : b ≠ tb
  lt : ∀ k, S k → k < w.heap.size
  ok : x.Ok

def Coll (S : Nat → Prop) (w : World) (b : Nat) (x : Col) : Prop := ∃ tb A C, CA S w b tb A C x

variable {S : Nat → Prop} {w w' : World} {b tb : Nat} {A : Int → Int → Option Addr} {C : Int → Int → Nat} {x : Col}

theorem CA.kept {T : Nat → Prop} (h : CA S w b tb A C x) (hc : Chg T w w') (hT : ∀ k, S k → ¬ T k) : CA S w' b tb A C x := by
  have bl : ∀ k, S k → w'.heap[k]? = w.heap[k]? := fun k hk => hc.block k (h.lt k hk) (hT k hk)
  exact ⟨(bl b h.inB.1).trans h.head, h.thr.kept (bl tb h.inB.2), fun g p hk => ⟨(h.rd g p hk).1.kept hc (fun ad ha => hT _ (h.inA g p hk ad ha).1), (h.rd g p hk).2⟩,
    h.inB, h.inA, h.ap, fun k hk => Nat.lt_of_lt_of_le (h.lt k hk) hc.size, h.ok⟩

theorem Coll.ok (h : Coll S w b x) : x.Ok := by obtain ⟨_, _, _, h⟩ := h; exact h.ok
theorem Coll.lt (h : Coll S w b x) : ∀ k, S k → k < w.heap.size := by obtain ⟨_, _, _, h⟩ := h; exact h.lt
theorem Coll.kept {T : Nat → Prop} (h : Coll S w b x) (hc : Chg T w w') (hT : ∀ k, S k → ¬ T k) : Coll S w' b x := by
  obtain ⟨tb, A, C, h⟩ := h
  exact ⟨tb, A, C, h.kept hc hT⟩

theorem CA.cells (h : CA S w b tb A C x) : w.cell? ⟨b, 0, none⟩ = some (.int .i64 (x.K : Int)) ∧ w.cell? ⟨b, 1, none⟩ = some (.int .i64 (x.N : Int)) ∧ w.cell? ⟨b, 2, none⟩ = some (.int .i64 (x.S : Int)) ∧ w.cell? ⟨b, 3, none⟩ = some (.int .i64 (x.base : Int)) ∧ w.cell? ⟨b, 4, none⟩ = some (.map (some tb)) ∧ w.cell? ⟨b, 5, none⟩ = some (.int .i64 (gonN x : Int)) :=
  ⟨by rw [cell_of_row w _ 0 _ _ _ h.head]; rfl, by rw [cell_of_row w _ 1 _ _ _ h.head]; rfl, by rw [cell_of_row w _ 2 _ _ _ h.head]; rfl, by rw [cell_of_row w _ 3 _ _ _ h.head]; rfl, by rw [cell_of_row w _ 4 _ _ _ h.head]; rfl, by rw [cell_of_row w _ 5 _ _ _ h.head]; rfl⟩

/-! ### Groups and how far they are -/

theorem open_bounds {x : Col} (hb : x.base < 256) {g : Int} (h : openA x.base g = true) : 0 ≤ g ∧ g ≤ 255 ∧ (g - x.base) % 256 = (farN x g : Int) ∧ farN x g < 4 := by
  obtain ⟨h1, h2⟩ := open_far h
  have hg : isG g = true := by
    cases q : isG g
    · exfalso
      unfold farA at h1
      rw [if_neg (by rw [q]; simp)] at h1
      omega
    · rfl
  obtain ⟨h3, h4⟩ := isG_true hg
  rw [farA_in (by omega) ⟨h3, h4⟩] at h1
  exact ⟨h3, h4, h1, h2⟩

theorem far_inj {x : Col} (hb : x.base < 256) {g g' : Int} (h : openA x.base g = true) (h' : openA x.base g' = true) (e : farN x g = farN x g') : g = g' := by
  obtain ⟨a1, a2, a3, _⟩ := open_bounds hb h
  obtain ⟨b1, b2, b3, _⟩ := open_bounds hb h'
  omega

theorem open_of {b g : Int} (hb : 0 ≤ b ∧ b ≤ 255) (hg : 0 ≤ g ∧ g ≤ 255) : openA b g = decide ((g - b) % 256 < 4) := by
  unfold openA
  rw [farA_in hb hg]
  have := Int.emod_nonneg (g - b) (show (256 : Int) ≠ 0 by decide)
  by_cases h : (g - b) % 256 < 4
  · simp [h, this]; omega
  · simp [h]; omega

theorem open_none {b g : Int} (hg : ¬ (0 ≤ g ∧ g ≤ 255)) : openA b g = false := by
  have : isG g = false := by
    cases q : isG g
    · rfl
    · exact absurd (isG_true q) hg
  unfold openA farA
  rw [if_neg (by rw [this]; simp)]
  rfl

/-- A group behind a shift. -/
theorem open_shift {x : Col} (hb : x.base < 256) (g : Int) : (openA (shift x).base g = true ∧ (farN (shift x) g = 3 ∨ (openA x.base g = true ∧ g ≠ x.base ∧ farN x g = farN (shift x) g + 1))) ∨ (openA (shift x).base g = false ∧ (openA x.base g = false ∨ g = x.base)) := by
  have hs : ((shift x).base : Int) = ((x.base : Int) + 1) % 256 := by show (((x.base + 1) % 256 : Nat) : Int) = _; omega
  have hs2 : (shift x).base < 256 := Nat.mod_lt _ (by decide)
  by_cases hg : 0 ≤ g ∧ g ≤ 255
  · rw [open_of (by omega) hg, open_of (by omega) hg]
    have f1 : farN (shift x) g = ((g - (shift x).base) % 256).toNat := by unfold farN; rw [farA_in (by omega) hg]
    have f2 : farN x g = ((g - x.base) % 256).toNat := by unfold farN; rw [farA_in (by omega) hg]
    rw [f1, f2, hs]
    by_cases h1 : (g - ((x.base : Int) + 1) % 256) % 256 < 4
    · left
      simp only [h1, decide_true, decide_eq_true_eq, true_and]
      omega
    · right
      simp only [h1, decide_false, decide_eq_false_iff_not, true_and]
      omega
  · rw [open_none hg, open_none hg]
    exact .inr ⟨rfl, .inl rfl⟩

/-! ### What a call leaves -/

theorem row_put {x : Col} (hx : x.Ok) {g p : Int} (ho : openA x.base g = true) (hp : 0 ≤ p ∧ p < x.N) (bs : List Nat) {g' p' : Int} (ho' : openA x.base g' = true) (hp' : 0 ≤ p' ∧ p' < x.N) :
    rowOf (putS x (farN x g) p.toNat bs) g' p' = if g' = g ∧ p' = p then bs else rowOf x g' p' := by
  obtain ⟨_, _, _, f1⟩ := open_bounds hx.base ho
  show (if farN x g' = farN x g then (x.g (farN x g)).set p.toNat bs else x.g (farN x g')).getD p'.toNat [] = _
  by_cases e : g' = g
  · subst e
    rw [if_pos rfl, getD_set_row _ _ _ _ (by rw [hx.len _ f1]; omega)]
    by_cases e2 : p' = p
    · subst e2; rw [if_pos rfl, if_pos ⟨rfl, rfl⟩]
    · rw [if_neg (by omega), if_neg (fun q => e2 q.2)]; rfl
  · rw [if_neg (fun q => e (far_inj hx.base ho' ho q)), if_neg (fun q => e q.1)]
    rfl

theorem CA.put (h : CA S w b tb A C x) {g p : Int} (ho : openA x.base g = true) (hp : 0 ≤ p ∧ p < x.N) {bs : List Nat} (hl : bs.length = x.S) (hY : Byt bs) {na : Option Addr} {nc : Nat} (hr : Reads w na bs) (hm : Room na nc bs.length)
    (hna : ∀ ad, na = some ad → ad.block < w.heap.size ∧ ad.block ≠ b ∧ ad.block ≠ tb) (hmap : MapAt spotV okS w' tb (fun k => if k = (g, p) then some (.slice na bs.length nc) else thF x A C k)) (hc : Chg (fun q => q = tb) w w') :
    CA (fun k => S k ∨ ∃ ad, na = some ad ∧ k = ad.block) w' b tb (fun g' p' => if g' = g ∧ p' = p then na else A g' p') (fun g' p' => if g' = g ∧ p' = p then nc else C g' p') (putS x (farN x g) p.toNat bs) := by
  have hS := h.ok.bounds
  obtain ⟨_, _, _, f1⟩ := open_bounds h.ok.base ho
  have hin : ∀ g' p', inK (putS x (farN x g) p.toNat bs) (g', p') = if g' = g ∧ p' = p then true else inK x (g', p') := fun g' p' => by
    by_cases ho' : openA x.base g' = true
    · by_cases hp' : 0 ≤ p' ∧ p' < x.N
      · have e := row_put h.ok ho hp bs ho' hp'
        by_cases q : g' = g ∧ p' = p
        · rw [if_pos q] at e ⊢
          exact inK_of ho' hp'.1 hp'.2 (by show 0 < (rowOf _ g' p').length; rw [e]; omega)
        · rw [if_neg q] at e ⊢
          unfold inK
          rw [e]
          rfl
      · rw [if_neg (fun q => hp' (by rw [q.2]; exact hp))]
        have : (decide (0 ≤ p') && decide (p' < (x.N : Int))) = false := by simp; omega
        show (openA x.base g' && (decide (0 ≤ p') && decide (p' < (x.N : Int))) && _) = (openA x.base g' && (decide (0 ≤ p') && decide (p' < (x.N : Int))) && _)
        rw [this]; simp
    · rw [if_neg (fun q => ho' (by rw [q.1]; exact ho))]
      have : openA x.base g' = false := by simpa using ho'
      show (openA x.base g' && _ && _) = (openA x.base g' && _ && _)
      rw [this]; rfl
  have hrow : ∀ g' p', inK (putS x (farN x g) p.toNat bs) (g', p') = true → rowOf (putS x (farN x g) p.toNat bs) g' p' = if g' = g ∧ p' = p then bs else rowOf x g' p' := fun g' p' hk => by
    obtain ⟨q1, q2, q3, _⟩ := inK_true hk
    exact row_put h.ok ho hp bs q1 ⟨q2, q3⟩
  refine ⟨(hc.block b (h.lt b h.inB.1) h.ap).trans h.head, hmap.congr (fun k => ?_), fun g' p' hk => ?_, ⟨.inl h.inB.1, .inl h.inB.2⟩, fun g' p' hk ad ha => ?_, h.ap, fun k hk => ?_, putS_ok h.ok f1 (by omega) hl hY⟩
  · obtain ⟨g', p'⟩ := k
    unfold thF
    show _ = if inK (putS x (farN x g) p.toNat bs) (g', p') = true then some (Value.slice (if g' = g ∧ p' = p then na else A g' p') (rowOf (putS x (farN x g) p.toNat bs) g' p').length (if g' = g ∧ p' = p then nc else C g' p')) else none
    by_cases q : g' = g ∧ p' = p
    · rw [if_pos (by rw [q.1, q.2]), hin, if_pos q, if_pos rfl, hrow g' p' (by rw [hin, if_pos q]), if_pos q, if_pos q, if_pos q]
    · rw [if_neg (fun e => q (by cases e; exact ⟨rfl, rfl⟩)), hin, if_neg q, if_neg q, if_neg q]
      by_cases q2 : inK x (g', p') = true
      · rw [if_pos q2, if_pos q2, hrow g' p' (by rw [hin, if_neg q]; exact q2), if_neg q]
      · rw [if_neg q2, if_neg q2]
  · rw [hrow g' p' hk]
    by_cases q : g' = g ∧ p' = p
    · simp only [if_pos q]
      exact ⟨hr.kept hc (fun ad ha => (hna ad ha).2.2), hm⟩
    · simp only [if_neg q]
      rw [hin, if_neg q] at hk
      exact ⟨(h.rd g' p' hk).1.kept hc (fun ad ha => (h.inA g' p' hk ad ha).2.2), (h.rd g' p' hk).2⟩
  · by_cases q : g' = g ∧ p' = p
    · simp only [if_pos q] at ha
      exact ⟨.inr ⟨ad, ha, rfl⟩, (hna ad ha).2⟩
    · simp only [if_neg q] at ha
      rw [hin, if_neg q] at hk
      exact ⟨.inl (h.inA g' p' hk ad ha).1, (h.inA g' p' hk ad ha).2⟩
  · rcases hk with hk | ⟨ad, ha, rfl⟩
    · exact Nat.lt_of_lt_of_le (h.lt k hk) hc.size
    · exact Nat.lt_of_lt_of_le (hna ad ha).1 hc.size

theorem CA.skip (h : CA S w b tb A C x) {i : Nat} (hc : Chg (fun q => q = b) w w')
    (head : w'.heap[b]? = some (.cells #[.int .i64 (x.K : Int), .int .i64 (x.N : Int), .int .i64 (x.S : Int), .int .i64 (x.base : Int), .map (some tb), .int .i64 (gonN (goneS x i) : Int)] 97 (0, 0))) :
    CA S w' b tb A C (goneS x i) :=
  ⟨head, h.thr.kept (hc.block tb (h.lt tb h.inB.2) (fun q => h.ap q.symm)), fun g' p' hk => ⟨(h.rd g' p' hk).1.kept hc (fun ad ha => (h.inA g' p' hk ad ha).2.1), (h.rd g' p' hk).2⟩, h.inB, h.inA, h.ap, fun k hk => Nat.lt_of_lt_of_le (h.lt k hk) hc.size, goneS_ok h.ok _⟩

/-- One group goes. -/
theorem CA.shift (h : CA S w b tb A C x) (hc : Chg (fun k => k = b ∨ k = tb) w w')
    (head : w'.heap[b]? = some (.cells #[.int .i64 (x.K : Int), .int .i64 (x.N : Int), .int .i64 (x.S : Int), .int .i64 (((x.base + 1) % 256 : Nat) : Int), .map (some tb), .int .i64 ((gonN x / 2 : Nat) : Int)] 97 (0, 0)))
    (thr : MapAt spotV okS w' tb (fun k => if k.1 = x.base ∧ 0 ≤ k.2 ∧ k.2 < x.N then none else thF x A C k)) :
    CA S w' b tb A C (shift x) := by
  have hb := h.ok.base
  have keep : ∀ g p, inK (Bt.shift x) (g, p) = true → inK x (g, p) = true ∧ g ≠ x.base ∧ rowOf (Bt.shift x) g p = rowOf x g p := fun g p hk => by
    obtain ⟨q1, q2, q3, q4⟩ := inK_true hk
    rcases open_shift hb g with ⟨_, r | ⟨r1, r2, r3⟩⟩ | ⟨r, _⟩
    · exfalso
      have : rowOf (Bt.shift x) g p = [] := by
        show (if farN (Bt.shift x) g = 3 then List.replicate x.N [] else _).getD _ [] = []
        rw [if_pos r, getD_replicate_nil]
      change 0 < (rowOf (Bt.shift x) g p).length at q4
      rw [this] at q4
      exact Nat.lt_irrefl _ q4
    · have f4 := (open_bounds hb r1).2.2.2
      have e : rowOf (Bt.shift x) g p = rowOf x g p := by
        show (if farN (Bt.shift x) g = 3 then List.replicate x.N [] else x.g (farN (Bt.shift x) g + 1)).getD _ [] = _
        rw [if_neg (by omega), ← r3]
        rfl
      refine ⟨inK_of r1 q2 q3 ?_, r2, e⟩
      change 0 < (rowOf (Bt.shift x) g p).length at q4
      show 0 < (rowOf x g p).length
      rw [← e]; exact q4
    · rw [r] at q1; cases q1
  have back : ∀ g p, inK x (g, p) = true → g ≠ x.base → inK (Bt.shift x) (g, p) = true := fun g p hk hn => by
    obtain ⟨q1, q2, q3, q4⟩ := inK_true hk
    rcases open_shift hb g with ⟨r0, r | ⟨r1, r2, r3⟩⟩ | ⟨_, r⟩
    · exfalso
      obtain ⟨a1, a2, a3, a4⟩ := open_bounds hb q1
      obtain ⟨b1, b2, b3, b4⟩ := open_bounds (x := Bt.shift x) (Nat.mod_lt _ (by decide)) r0
      have hs : ((Bt.shift x).base : Int) = ((x.base : Int) + 1) % 256 := by show (((x.base + 1) % 256 : Nat) : Int) = _; omega
      rw [hs] at b3
      omega
    · have f4 := (open_bounds hb r1).2.2.2
      have e : rowOf (Bt.shift x) g p = rowOf x g p := by
        show (if farN (Bt.shift x) g = 3 then List.replicate x.N [] else x.g (farN (Bt.shift x) g + 1)).getD _ [] = _
        rw [if_neg (by omega), ← r3]
        rfl
      exact inK_of r0 q2 q3 (by show 0 < (rowOf (Bt.shift x) g p).length; rw [e]; exact q4)
    · rcases r with r | r
      · change openA x.base g = true at q1
        rw [r] at q1; cases q1
      · exact absurd r hn
  refine ⟨by rw [gon_shift]; exact head, thr.congr (fun k => ?_), fun g p hk => ?_, h.inB, fun g p hk => h.inA g p (keep g p hk).1, h.ap, fun k hk => Nat.lt_of_lt_of_le (h.lt k hk) hc.size, shift_ok h.ok⟩
  · obtain ⟨g, p⟩ := k
    unfold thF
    show (if g = (x.base : Int) ∧ 0 ≤ p ∧ p < (x.N : Int) then none else _) = _
    by_cases q : inK (Bt.shift x) (g, p) = true
    · obtain ⟨r1, r2, r3⟩ := keep g p q
      rw [if_neg (fun e => r2 e.1), if_pos r1, if_pos q]
      show some (Value.slice _ (rowOf x g p).length _) = some (Value.slice _ (rowOf (Bt.shift x) g p).length _)
      rw [r3]
    · rw [if_neg q]
      by_cases q2 : g = (x.base : Int) ∧ 0 ≤ p ∧ p < (x.N : Int)
      · rw [if_pos q2]
      · rw [if_neg q2, if_neg]
        intro hk
        obtain ⟨_, r2, r3, _⟩ := inK_true hk
        exact q (back g p hk (fun e => q2 ⟨e, r2, r3⟩))
  · obtain ⟨r1, r2, r3⟩ := keep g p hk
    rw [r3]
    refine ⟨(h.rd g p r1).1.kept hc (fun ad ha => ?_), (h.rd g p r1).2⟩
    have := (h.inA g p r1 ad ha).2
    rintro (q | q)
    · exact this.1 q
    · exact this.2 q

end Go.Proofs.YthhggjakenalpaaGreatDoor

/- Package collect: isGroup, New, Base. -/
namespace Go.Proofs.YthhggjakenalpaaGreatDoor
set_option maxRecDepth 100000
open Go.RowKit
open Bt

variable {S : Nat → Prop} {w w' : World} {b tb : Nat} {A : Int → Int → Option Addr} {C : Int → Int → Nat} {x : Col}

theorem cbase_any (b : Nat) (F : Nat → Prop) (x : Col) (w : World) (hc : Coll F w b x) :
    Calls Tryz.prog 33 #[.pointer (some ⟨b, 0, none⟩)] w fun e w' => e = .returned (.int .i64 (x.base : Int)) ∧ Below w.heap.size w w' := by
  obtain ⟨tb, A, C, h⟩ := hc
  have c3 := h.cells.2.2.2.1
  clear h
  go_enter Tryz.func33, Tryz.ntmps33
  go_wp2
  go_ret
  exact ⟨rfl, Below.refl _ _⟩

theorem cbase_nil (w : World) :
    Calls Tryz.prog 33 #[.pointer none] w fun e w' => e = .returned (.int .i64 0) ∧ Below w.heap.size w w' := by
  go_enter Tryz.func33, Tryz.ntmps33
  go_wp2
  go_ret
  exact ⟨rfl, Below.refl _ _⟩

theorem far_self (g : Int) : farA g g = if isG g = true then 0 else -1 := by
  unfold farA
  by_cases h : isG g = true
  · rw [if_pos ⟨h, h⟩, if_pos h]; simp
  · rw [if_neg (fun q => h q.1), if_neg h]

theorem col0_row (K N S g : Nat) (h p : Int) : rowOf (col0 K N S g) h p = [] := getD_replicate_nil N _

theorem col0_in (K N S g : Nat) (k : Int × Int) : inK (col0 K N S g) k = false := by
  unfold inK; rw [col0_row]; simp

set_option maxRecDepth 100000 in
theorem cisGroup_any (g : Int) (w : World) :
    Calls Tryz.prog 63 #[.int .i64 g] w fun e w' => e = .returned (.bool (isG g)) ∧ Below w.heap.size w w' := by
  have FA := Hid.intro (sfar_any g g w)
  rw [far_self] at FA
  generalize isG g = vg at FA ⊢
  go_enter Tryz.func63, Tryz.ntmps63
  go_wp2_with fail
  refine FA.out.mono ?_
  rintro e w1 ⟨rfl, B1⟩
  clear FA
  cases vg
  · go_wp2
    go_ret
    exact ⟨rfl, B1⟩
  · go_wp2
    go_ret
    exact ⟨rfl, B1⟩

/-- A new collector in memory. -/
theorem CA.new {K N S g : Nat} (hmay : mayC K N S = true) (hg : g < 256) (w : World) :
    CA (fun k => w.heap.size ≤ k ∧ k < w.heap.size + 2) ((w.alloc (.map #[] 0)).alloc (.cells #[.int .i64 (K : Int), .int .i64 (N : Int), .int .i64 (S : Int), .int .i64 (g : Int), .map (some w.heap.size), .int .i64 0] 97 (0, 0))) (w.heap.size + 1) w.heap.size (fun _ _ => none) (fun _ _ => 0) (col0 K N S g) := by
  have b1 : Below (w.heap.size + 1) (w.alloc (.map #[] 0)) ((w.alloc (.map #[] 0)).alloc (.cells #[.int .i64 (K : Int), .int .i64 (N : Int), .int .i64 (S : Int), .int .i64 (g : Int), .map (some w.heap.size), .int .i64 0] 97 (0, 0))) := (Below.refl _ _).alloc (by simp) _
  have hd := heap_alloc_new (w.alloc (.map #[] 0)) (.cells #[.int .i64 (K : Int), .int .i64 (N : Int), .int .i64 (S : Int), .int .i64 (g : Int), .map (some w.heap.size), .int .i64 0] 97 (0, 0))
  have m1 := mapAt_made spotV okS w
  simp only [World.size_alloc] at hd
  refine ⟨hd, (m1.kept (b1.block _ (by omega))).congr (fun k => ?_), fun h p hk => ?_, ⟨by omega, by omega⟩, fun h p hk => ?_, by omega, fun k hk => ?_, col0_ok hmay hg⟩
  · unfold thF; rw [col0_in]; rfl
  · rw [col0_in] at hk; cases hk
  · rw [col0_in] at hk; cases hk
  · simp; omega

set_option maxRecDepth 100000 in
theorem cnew_no (k n s g : Int) (h : (mayC k n s && isG g) = false) (w : World) :
    Calls Tryz.prog 28 #[Cd k n s, .int .i64 g] w fun e w' => e = .returned (.pointer none) ∧ Below w.heap.size w w' := by
  have MA := Hid.intro (fun w => rmay_any k n s w)
  have FA := Hid.intro (fun w => cisGroup_any g w)
  generalize mayC k n s = vm at h MA
  generalize isG g = vg at h FA
  have HH := Hid.intro h
  have B0 := Hid.intro ((Below.refl _ w).alloc (Nat.le_refl _) (.cells #[.int .i64 k, .int .i64 n, .int .i64 s] 23))
  clear h
  go_enter Tryz.func28, Tryz.ntmps28
  go_wp2_with fail
  refine (MA.out _).mono ?_
  rintro e w1 ⟨rfl, B1⟩
  have B1H := Hid.intro (B0.out.trans (B1.mono B0.out.size))
  clear B1 B0 MA
  cases vm
  · go_wp2
    go_ret
    exact ⟨rfl, B1H.out⟩
  · obtain rfl : vg = false := by have := HH.out; simpa using this
    go_wp2_with fail
    refine (FA.out _).mono ?_
    rintro e w2 ⟨rfl, B2⟩
    have B2H := Hid.intro (B1H.out.trans (B2.mono B1H.out.size))
    clear B2 B1H FA
    go_wp2
    go_ret
    exact ⟨rfl, B2H.out⟩

set_option maxRecDepth 100000 in
theorem cnew_yes (K N S g : Nat) (h : (mayC K N S && isG g) = true) (w : World) :
    Calls Tryz.prog 28 #[Cd K N S, .int .i64 (g : Int)] w fun e w' => ∃ b F, e = .returned (.pointer (some ⟨b, 0, none⟩)) ∧ Coll F w' b (col0 K N S g) ∧ (∀ k, F k → w.heap.size ≤ k) ∧ Below w.heap.size w w' := by
  rw [Bool.and_eq_true] at h
  have hg := isG_true h.2
  have HMY := Hid.intro h.1
  have MA := fun w => rmay_any (K : Int) N S w
  have FA := fun w => cisGroup_any (g : Int) w
  rw [h.1] at MA
  rw [h.2] at FA
  have MAH := Hid.intro MA
  have FAH := Hid.intro FA
  have b0 := Hid.intro (heap_alloc_new w (.cells #[.int .i64 (K : Int), .int .i64 (N : Int), .int .i64 (S : Int)] 23))
  have B0 := Hid.intro ((Below.refl _ w).alloc (Nat.le_refl _) (.cells #[.int .i64 (K : Int), .int .i64 (N : Int), .int .i64 (S : Int)] 23))
  clear h MA FA
  go_enter Tryz.func28, Tryz.ntmps28
  go_wp2_with fail
  refine (MAH.out _).mono ?_
  rintro e w1 ⟨rfl, B1⟩
  have b1 := (B1.block _ (lt_of_heap b0.out)).trans b0.out
  have b1H := Hid.intro b1
  have B1H := Hid.intro (B0.out.trans (B1.mono B0.out.size))
  clear B1 B0 MAH b1 b0
  go_wp2_with fail
  refine (FAH.out _).mono ?_
  rintro e w2 ⟨rfl, B2⟩
  have b2 := (B2.block _ (lt_of_heap b1H.out)).trans b1H.out
  have c0 : w2.cell? ⟨w.heap.size, 0, none⟩ = some (.int .i64 (K : Int)) := by rw [cell_of_row w2 _ 0 _ _ _ b2]; rfl
  have c1 : w2.cell? ⟨w.heap.size, 1, none⟩ = some (.int .i64 (N : Int)) := by rw [cell_of_row w2 _ 1 _ _ _ b2]; rfl
  have c2 : w2.cell? ⟨w.heap.size, 2, none⟩ = some (.int .i64 (S : Int)) := by rw [cell_of_row w2 _ 2 _ _ _ b2]; rfl
  have B2H := Hid.intro (B1H.out.trans (B2.mono B1H.out.size))
  have NEW := Hid.intro (CA.new HMY.out (show g < 256 by omega) w2)
  have BN := Hid.intro (((Below.refl w2.heap.size w2).alloc (Nat.le_refl _) (.map #[] 0)).alloc (by simp) (.cells #[.int .i64 (K : Int), .int .i64 (N : Int), .int .i64 (S : Int), .int .i64 (g : Int), .map (some w2.heap.size), .int .i64 0] 97 (0, 0)))
  clear B2 B1H FAH b1H b2
  have mk : ∀ (t : TypeId) (W : World), (Instr.makeMap t none).run Tryz.prog W = .ok (.map (some W.heap.size)) (W.alloc (.map #[] 0)) := fun t W => rfl
  go_wp2
  go_ret
  exact ⟨w2.heap.size + 1, _, rfl, ⟨_, _, _, NEW.out⟩, fun k hk => by have := B2H.out.size; omega, B2H.out.trans (BN.out.mono B2H.out.size)⟩

end Go.Proofs.YthhggjakenalpaaGreatDoor

/- Package collect: isThere, Have, refusal, bit, wasGivenUp, isWhole, isReady. -/
namespace Go.Proofs.YthhggjakenalpaaGreatDoor
set_option maxRecDepth 100000
open Go.RowKit
open Bt

variable {S : Nat → Prop} {w w' : World} {b tb : Nat} {A : Int → Int → Option Addr} {C : Int → Int → Nat} {x : Col}

theorem CA.below (h : CA S w b tb A C x) (hb : Below w.heap.size w w') : CA S w' b tb A C x := h.kept (below_chg hb) (fun _ _ => id)

theorem CA.drewN (h : CA S w b tb A C x) (n : Nat) : CA S (w.drewN n) b tb A C x :=
  h.below ⟨rfl, rfl, rfl, Nat.le_refl _, fun _ _ => rfl⟩

/-- A number of 64 bits. -/
def isI (g : Int) : Prop := -9223372036854775808 ≤ g ∧ g ≤ 9223372036854775807

theorem okS_of {g p : Int} (hg : isI g) (hp : 0 ≤ p ∧ p ≤ 100) : okS (g, p) := by
  unfold isI at hg
  have e1 : IntKind.i64.min = -9223372036854775808 := rfl
  have e2 : IntKind.i64.max = 9223372036854775807 := rfl
  constructor
  · show (decide (IntKind.i64.min ≤ g) && decide (g ≤ IntKind.i64.max)) = true
    rw [e1, e2]; simp; omega
  · show (decide (IntKind.i64.min ≤ p) && decide (p ≤ IntKind.i64.max)) = true
    rw [e1, e2]; simp; omega

theorem isI_of {g : Int} (h : isG g = true) : isI g := by
  have := isG_true h
  unfold isI; omega

theorem zero_bytes (w : World) : (zeroValue 42).run Tryz.prog w = .ok (.slice none 0 0) w := by kernel_rfl

/-- '_, there := x.shards[at]'. -/
theorem CA.look (h : CA S w b tb A C x) {g p : Int} (ho : okS (g, p)) :
    (Instr.lookup 95 (.map (some tb)) (.agg #[.int .i64 g, .int .i64 p]) true).run Tryz.prog w = .ok (.tuple #[(thF x A C (g, p)).getD (.slice none 0 0), .bool (inK x (g, p))]) w := by
  have q := h.thr.look true spot_by Tryz.underlying95 (zero_bytes w) ho
  have e : (thF x A C (g, p)).isSome = inK x (g, p) := by
    unfold thF
    by_cases q : inK x (g, p) = true
    · rw [if_pos q, q]; rfl
    · rw [if_neg q]; simp at q; rw [q]; rfl
  rw [e] at q
  exact q

/-- 'x.shards[at]'. -/
theorem CA.look1 (h : CA S w b tb A C x) {g p : Int} (ho : okS (g, p)) :
    (Instr.lookup 95 (.map (some tb)) (.agg #[.int .i64 g, .int .i64 p]) false).run Tryz.prog w = .ok ((thF x A C (g, p)).getD (.slice none 0 0)) w := by
  have q := h.thr.look false spot_by Tryz.underlying95 (zero_bytes w) ho
  rw [if_neg (by decide)] at q
  exact q

set_option maxRecDepth 100000 in
theorem there_any (g p : Int) (ho : okS (g, p)) (w : World) (h : CA S w b tb A C x) :
    Calls Tryz.prog 65 #[.pointer (some ⟨b, 0, none⟩), .agg #[.int .i64 g, .int .i64 p]] w fun e w' => e = .returned (.bool (inK x (g, p))) ∧ Below w.heap.size w w' := by
  have B0 := (Below.refl _ w).alloc (Nat.le_refl _) (.cells #[.int .i64 g, .int .i64 p] 99)
  have b0 := heap_alloc_new w (.cells #[.int .i64 g, .int .i64 p] 99)
  have h0 := h.below B0
  have c4 := h0.cells.2.2.2.2.1
  have LK := fun n => (h0.drewN n).look ho
  have e0 : (w.alloc (.cells #[.int .i64 g, .int .i64 p] 99)).cell? ⟨w.heap.size, 0, none⟩ = some (.int .i64 g) := by rw [cell_of_row _ _ 0 _ _ _ b0]; rfl
  have e1 : (w.alloc (.cells #[.int .i64 g, .int .i64 p] 99)).cell? ⟨w.heap.size, 1, none⟩ = some (.int .i64 p) := by rw [cell_of_row _ _ 1 _ _ _ b0]; rfl
  generalize (thF x A C (g, p)).getD (.slice none 0 0) = tv at LK
  generalize inK x (g, p) = vi at LK ⊢
  have B0H := Hid.intro B0
  clear h h0 B0 b0
  go_enter Tryz.func65, Tryz.ntmps65
  go_wp2_with fail
  go_quiet (fail)
  go_wp2
  go_ret
  exact ⟨rfl, B0H.out.os, B0H.out.tape, B0H.out.output, B0H.out.size, B0H.out.block⟩

theorem inK_open {x : Col} {g : Int} (ho : openA x.base g = true) {r : Nat} (hr : r < x.N) : inK x (g, (r : Int)) = decide (0 < ((x.g (farN x g)).getD r []).length) := by
  unfold inK
  rw [ho]
  show ((true && (decide (0 ≤ (r : Int)) && decide ((r : Int) < (x.N : Int)))) && decide (0 < ((x.g (farN x g)).getD (r : Int).toNat []).length)) = _
  rw [Int.toNat_natCast]
  have : (decide (0 ≤ (r : Int)) && decide ((r : Int) < (x.N : Int))) = true := by simp; omega
  rw [this]; rfl

theorem have_cnt {x : Col} (hx : x.Ok) (g : Int) : haveN x g = cntH x.N (fun r => inK x (g, (r : Int))) := by
  unfold haveN
  by_cases ho : openA x.base g = true
  · obtain ⟨_, _, _, g4⟩ := open_bounds hx.base ho
    rw [if_pos ho, cntH_congr (G := fun r => decide (0 < ((x.g (farN x g)).getD r []).length)) (fun r hr => inK_open ho hr)]
    rw [← hx.len _ g4]; rfl
  · rw [if_neg ho, cntH_congr (G := fun _ => false) (fun r hr => by
      have : openA x.base g = false := by simpa using ho
      unfold inK; rw [this]; rfl), cntH_none]

set_option maxRecDepth 100000 in
set_option maxHeartbeats 1000000 in
theorem chave_any (b : Nat) (g : Int) (hg : isI g) (F : Nat → Prop) (x : Col) (w : World) (hc : Coll F w b x) :
    Calls Tryz.prog 144 #[.pointer (some ⟨b, 0, none⟩), .int .i64 g] w fun e w' => e = .returned (.int .i64 (haveN x g : Int)) ∧ Below w.heap.size w w' := by
  obtain ⟨tb, A, C, h⟩ := hc
  have c1 := h.cells.2.1
  have hbd := h.ok.bounds
  have HC := Hid.intro (have_cnt h.ok g)
  have HH := Hid.intro h
  generalize haveN x g = hv at HC ⊢
  obtain ⟨n, hn⟩ : ∃ n, n = x.N := ⟨_, rfl⟩
  have HN := Hid.intro hn
  rw [← hn] at HC hbd c1
  clear h hn
  go_enter Tryz.func144, Tryz.ntmps144
  go_wp2_with fail
  clear c1
  go_loopw [5, 14] (fun v i wr => ∃ t : Nat, t ≤ n ∧ i = .int .i64 t ∧ v = .int .i64 (cntH t (fun r => inK x (g, (r : Int))) : Int) ∧ Below w.heap.size w wr) (fun _ i _ => n - (intOf i).toNat)
  case atStart => exact ⟨0, by omega, rfl, rfl, Below.refl _ _⟩
  case round =>
    obtain ⟨t, ht, rfl, rfl, hB⟩ := hrel
    have HB := Hid.intro hB
    have cb := cntH_le t (fun r => inK x (g, (r : Int)))
    by_cases hlt : t < n
    · have CS := cntH_succ t (fun r => inK x (g, (r : Int)))
      have LK := there_any g (t : Int) (okS_of hg ⟨by omega, by omega⟩) wr (HH.out.below hB)
      have t1 : (t : Int) < (n : Int) := by omega
      obtain ⟨c1, hc1⟩ : ∃ c1, c1 = cntH (t + 1) (fun r => inK x (g, (r : Int))) := ⟨_, rfl⟩
      rw [← hc1] at CS
      have HC1 := Hid.intro hc1
      generalize cntH t (fun r => inK x (g, (r : Int))) = c2 at CS cb ⊢
      generalize inK x (g, (t : Int)) = d at LK CS
      have CSH := Hid.intro CS
      have LKH := Hid.intro LK
      clear hc1 CS hB LK
      go_wp2_with fail
      refine LKH.out.mono ?_
      rintro e w1 ⟨rfl, B1⟩
      have HB1 := Hid.intro (HB.out.trans (B1.mono HB.out.size))
      clear B1 LKH
      cases d
      · go_wp2
        go_roundw
        case rel => exact ⟨t + 1, by omega, by go_num, by rw [← HC1.out, CSH.out]; rfl, HB1.out⟩
        case measure => simp [intOf]; omega
      · go_wp2
        go_roundw
        case rel => exact ⟨t + 1, by omega, by go_num, by rw [← HC1.out, CSH.out]; simp, HB1.out⟩
        case measure => simp [intOf]; omega
    · obtain rfl : n = t := by omega
      have t1 : ¬ (n : Int) < (n : Int) := by omega
      rw [← HC.out] at cb ⊢
      clear hB
      go_wp2
      go_ret
      exact ⟨rfl, HB.out⟩

end Go.Proofs.YthhggjakenalpaaGreatDoor

/- Package collect: refusal, bit, wasGivenUp, isWhole, isReady. -/
namespace Go.Proofs.YthhggjakenalpaaGreatDoor
set_option maxRecDepth 100000
open Go.RowKit
open Bt

variable {S : Nat → Prop} {w w' : World} {b tb : Nat} {A : Int → Int → Option Addr} {C : Int → Int → Nat} {x : Col}

def refE (x : Col) (g : Int) (done : Bool) : Int := if done = true ∨ behindA x.base g = true then 9 else if openA x.base g = true then 0 else 8

set_option maxRecDepth 100000 in
theorem refusal_any (g : Int) (done : Bool) (w : World) (h : CA S w b tb A C x) :
    Calls Tryz.prog 64 #[.pointer (some ⟨b, 0, none⟩), .int .i64 g, .bool done] w fun e w' => e = .returned (.int .i64 (refE x g done)) ∧ Below w.heap.size w w' := by
  have c3 := h.cells.2.2.2.1
  have HE : Hid (refE x g done = if done = true ∨ behindA x.base g = true then 9 else if openA x.base g = true then 0 else 8) := rfl
  have FB := Hid.intro (fun W => sbehind_any x.base g W)
  have FO := Hid.intro (fun W => sopen_any x.base g W)
  have HH := Hid.intro h
  generalize refE x g done = pe at HE ⊢
  generalize behindA x.base g = vb at FB HE
  generalize openA x.base g = vo at FO HE
  clear h
  cases done
  · go_enter Tryz.func64, Tryz.ntmps64
    go_wp2_with fail
    refine (FB.out _).mono ?_
    rintro e w1 ⟨rfl, B1⟩
    cases vb
    · have d3 := (HH.out.below B1).cells.2.2.2.1
      go_wp2_with fail
      refine (FO.out _).mono ?_
      rintro e w2 ⟨rfl, B2⟩
      have B2w := Hid.intro (B1.trans (B2.mono B1.size))
      clear B1 B2 c3 d3
      cases vo
      · go_wp2
        go_ret
        exact ⟨by rw [HE.out]; rfl, B2w.out⟩
      · go_wp2
        go_ret
        exact ⟨by rw [HE.out]; rfl, B2w.out⟩
    · clear c3
      go_wp2
      go_ret
      exact ⟨by rw [HE.out]; rfl, B1⟩
  · clear FB FO
    go_enter Tryz.func64, Tryz.ntmps64
    go_wp2
    go_ret
    exact ⟨by rw [HE.out]; simp, Below.refl _ _⟩

theorem far_nat {x : Col} (hx : x.Ok) {g : Int} (hg : isG g = true) : farA x.base g = (farN x g : Int) ∧ farN x g < 256 := by
  have := hx.base
  have h2 := isG_true hg
  unfold farN
  rw [farA_in (by omega) h2]
  omega

set_option maxRecDepth 100000 in
theorem bit_any (g : Int) (hg : isG g = true) (w : World) (h : CA S w b tb A C x) :
    Calls Tryz.prog 77 #[.pointer (some ⟨b, 0, none⟩), .int .i64 g] w fun e w' => e = .returned (.int .i64 (bitI (farN x g))) ∧ Below w.heap.size w w' := by
  have c3 := h.cells.2.2.2.1
  have FA := fun W => sfar_any x.base g W
  rw [(far_nat h.ok hg).1] at FA
  have hf := (far_nat h.ok hg).2
  have FAH := Hid.intro FA
  generalize farN x g = f at FAH hf ⊢
  clear h FA
  go_enter Tryz.func77, Tryz.ntmps77
  go_wp2_with fail
  refine (FAH.out _).mono ?_
  rintro e w1 ⟨rfl, B1⟩
  clear FAH c3
  go_wp2
  go_ret
  exact ⟨by unfold bitI; rw [IntWalk.i64_left]; simp, B1⟩

set_option maxRecDepth 100000 in
set_option maxHeartbeats 1000000 in
theorem was_any (g : Int) (hg : isG g = true) (w : World) (h : CA S w b tb A C x) :
    Calls Tryz.prog 107 #[.pointer (some ⟨b, 0, none⟩), .int .i64 g] w fun e w' => e = .returned (.bool (wasG x g)) ∧ Below w.heap.size w w' := by
  have c5 := h.cells.2.2.2.2.2
  have FB := Hid.intro (fun W (hW : Below w.heap.size w W) => bit_any g hg W (h.below hW))
  have HWB := Hid.intro (was_bits x h.ok.base hg)
  generalize wasG x g = vw at HWB ⊢
  generalize bitI (farN x g) = vb at FB HWB
  generalize gonN x = gn at c5 HWB
  clear h
  go_enter Tryz.func107, Tryz.ntmps107
  go_wp2_with fail
  go_region_held3 (fun w' => w'.cell? ⟨b, 5, none⟩ = some (.int .i64 (gn : Int)))
    (first | exact cellK B1 c5 | go_keep)
    ((go_at_call 77; refine (FB.out _ ?_).mono ?_; exact (Below.refl _ w).drew; rintro e w1 ⟨rfl, B0⟩; have B1 : Below w.heap.size w w1 := undrewK B0 rfl; clear B0))
  all_goals
    go_wp2
    go_ret
    exact ⟨by rw [HWB.out]; rfl, B1⟩

set_option maxRecDepth 100000 in
set_option maxHeartbeats 1000000 in
theorem whole_any (g : Int) (hg : isI g) (w : World) (h : CA S w b tb A C x) :
    Calls Tryz.prog 108 #[.pointer (some ⟨b, 0, none⟩), .int .i64 g] w fun e w' => e = .returned (.bool (decide (x.K ≤ haveN x g))) ∧ Below w.heap.size w w' := by
  have c0 := h.cells.1
  have FH := Hid.intro (fun W (hW : Below w.heap.size w W) => chave_any b g hg S x W ⟨tb, A, C, h.below hW⟩)
  generalize haveN x g = hv at FH ⊢
  generalize x.K = K at c0 ⊢
  have hd : Hid (decide ((K : Int) ≤ (hv : Int)) = decide (K ≤ hv)) := by unfold Hid; simp
  clear h
  go_enter Tryz.func108, Tryz.ntmps108
  go_wp2_with fail
  go_region_held3 (fun w' => w'.cell? ⟨b, 0, none⟩ = some (.int .i64 (K : Int)))
    (first | exact cellK B1 c0 | go_keep)
    ((go_at_call 144; refine (FH.out _ ?_).mono ?_; exact (Below.refl _ w).drew; rintro e w1 ⟨rfl, B0⟩; have B1 : Below w.heap.size w w1 := undrewK B0 rfl; clear B0))
  all_goals
    go_wp2
    go_ret
    exact ⟨by first | rfl | (rw [← hd.out]; rfl) | (simp), B1⟩

def rdyG (x : Col) (g : Int) : Bool := wasG x g || decide (x.K ≤ haveN x g)

theorem rdyG_open {x : Col} {g : Int} (ho : openA x.base g = true) : rdyG x g = rdy x (farN x g) := by
  unfold rdyG wasG haveN rdy
  rw [ho, if_pos rfl, Bool.true_and]

set_option maxRecDepth 100000 in
theorem ready1_any (g : Int) (hg : isG g = true) (w : World) (h : CA S w b tb A C x) :
    Calls Tryz.prog 67 #[.pointer (some ⟨b, 0, none⟩), .int .i64 g] w fun e w' => e = .returned (.bool (rdyG x g)) ∧ Below w.heap.size w w' := by
  have FW := Hid.intro (was_any g hg w h)
  have FH := Hid.intro (fun W (hW : Below w.heap.size w W) => whole_any g (isI_of hg) W (h.below hW))
  unfold rdyG
  generalize wasG x g = vw at FW ⊢
  generalize decide (x.K ≤ haveN x g) = vh at FH ⊢
  clear h
  go_enter Tryz.func67, Tryz.ntmps67
  go_wp2_with fail
  refine FW.out.mono ?_
  rintro e w1 ⟨rfl, B1⟩
  cases vw
  · go_wp2_with fail
    refine (FH.out _ B1).mono ?_
    rintro e w2 ⟨rfl, B2⟩
    have B2w := Hid.intro (B1.trans (B2.mono B1.size))
    clear B1 B2
    go_wp2
    go_ret
    exact ⟨rfl, B2w.out⟩
  · go_wp2
    go_ret
    exact ⟨rfl, B1⟩

end Go.Proofs.YthhggjakenalpaaGreatDoor

/- Package collect: Ready. -/
namespace Go.Proofs.YthhggjakenalpaaGreatDoor
set_option maxRecDepth 100000
open Go.RowKit
open Bt

variable {S : Nat → Prop} {w w' : World} {b tb : Nat} {A : Int → Int → Option Addr} {C : Int → Int → Nat} {x : Col}

/-- The first so many bits. -/
def rP (x : Col) : Nat → Nat
  | 0 => 0
  | t + 1 => rP x t + bitN (rdy x t) * 2 ^ t

theorem rP_all (x : Col) : rP x 4 = readyN x := by
  simp only [rP, readyN]; omega

theorem rP_lt (x : Col) (t : Nat) : rP x t < 2 ^ t := by
  induction t with
  | zero => exact Nat.one_pos
  | succ t ih =>
    have := bitN_lt (rdy x t)
    have h2 : bitN (rdy x t) * 2 ^ t ≤ 1 * 2 ^ t := Nat.mul_le_mul_right _ (by omega)
    show rP x t + bitN (rdy x t) * 2 ^ t < 2 ^ (t + 1)
    rw [Nat.pow_succ]; omega

theorem rP_or (x : Col) {t : Nat} (ht : t < 4) : bits .or .i64 (rP x t : Int) (bitI t) = ((rP x t + 2 ^ t : Nat) : Int) := by
  have h := rP_lt x t
  have h1 : 2 ^ t ≤ 2 ^ 3 := Nat.pow_le_pow_right (by decide) (by omega)
  rw [bitI_lo (by omega), i64_or_nat _ _ (by omega) (by omega)]
  have := Nat.two_pow_add_eq_or_of_lt h 1
  rw [Nat.mul_one] at this
  rw [Nat.or_comm, ← this, Nat.add_comm]

/-- The group so many steps behind the base. -/
theorem next_group {x : Col} (hx : x.Ok) {t : Nat} (ht : t < 4) : nextA x.base t = (((x.base + t) % 256 : Nat) : Int) ∧ isG (((x.base + t) % 256 : Nat) : Int) = true ∧ openA x.base (((x.base + t) % 256 : Nat) : Int) = true ∧ farN x (((x.base + t) % 256 : Nat) : Int) = t := by
  have hb := hx.base
  have hg : 0 ≤ (((x.base + t) % 256 : Nat) : Int) ∧ (((x.base + t) % 256 : Nat) : Int) ≤ 255 := by omega
  refine ⟨?_, isG_of hg, ?_, ?_⟩
  · rw [nextA_in _ (by omega)]; omega
  · rw [open_of (by omega) hg]; simp; omega
  · unfold farN; rw [farA_in (by omega) hg]; omega

theorem base_isG {x : Col} (hx : x.Ok) : isG (x.base : Int) = true := by
  have := hx.base
  exact isG_of (by omega)

set_option maxRecDepth 100000 in
set_option maxHeartbeats 1000000 in
theorem cready_any (b : Nat) (F : Nat → Prop) (x : Col) (w : World) (hc : Coll F w b x) :
    Calls Tryz.prog 34 #[.pointer (some ⟨b, 0, none⟩)] w fun e w' => e = .returned (.int .i64 (readyN x : Int)) ∧ Below w.heap.size w w' := by
  obtain ⟨tb, A, C, h⟩ := hc
  have HC := Hid.intro (rP_all x)
  have HH := Hid.intro h
  have HX := Hid.intro h.ok
  generalize readyN x = hv at HC ⊢
  clear h
  go_enter Tryz.func34, Tryz.ntmps34
  go_wp2_with fail
  go_loopw [3, 8] (fun v i wr => ∃ t : Nat, t ≤ 4 ∧ i = .int .i64 t ∧ v = .int .i64 (rP x t : Int) ∧ Below w.heap.size w wr) (fun _ i _ => 4 - (intOf i).toNat)
  case atStart => exact ⟨0, by omega, rfl, rfl, Below.refl _ _⟩
  case round =>
    obtain ⟨t, ht, rfl, rfl, hB⟩ := hrel
    have HB := Hid.intro hB
    by_cases hlt : t < 4
    · have t1 : (t : Int) < 4 := by omega
      obtain ⟨q1, q2, q3, q4⟩ := next_group HX.out hlt
      have c3 := (HH.out.below hB).cells.2.2.2.1
      have FN := snext_any x.base t ⟨by omega, by omega⟩ wr
      rw [q1] at FN
      have FR := fun W (hW : Below wr.heap.size wr W) => ready1_any _ q2 W ((HH.out.below hB).below hW)
      rw [rdyG_open q3, q4] at FR
      have FB := fun W (hW : Below wr.heap.size wr W) => bit_any _ q2 W ((HH.out.below hB).below hW)
      rw [q4] at FB
      have OR := rP_or x hlt
      have PS : Hid (rP x (t + 1) = rP x t + bitN (rdy x t) * 2 ^ t) := rfl
      obtain ⟨c1, hc1⟩ : ∃ c1, c1 = rP x (t + 1) := ⟨_, rfl⟩
      rw [← hc1] at PS
      have HC1 := Hid.intro hc1
      generalize (((x.base + t) % 256 : Nat) : Int) = G at FN FR FB
      generalize rP x t = c2 at OR PS ⊢
      generalize bitI t = bt at FB OR
      generalize rdy x t = d at FR PS
      have FNH := Hid.intro FN
      have FRH := Hid.intro FR
      have FBH := Hid.intro FB
      clear hc1 hB FN FR FB q1 q2 q3 q4
      go_wp2_with fail
      refine FNH.out.mono ?_
      rintro e w1 ⟨rfl, B1⟩
      have HB1 := Hid.intro B1
      clear B1 FNH c3
      go_wp2_with fail
      refine (FRH.out _ HB1.out).mono ?_
      rintro e w2 ⟨rfl, B2⟩
      have HB2 := Hid.intro (HB1.out.trans (B2.mono HB1.out.size))
      clear B2 FRH HB1
      cases d
      · go_wp2
        go_roundw
        case rel => exact ⟨t + 1, by omega, by go_num, by rw [← HC1.out, PS.out]; simp [bitN], HB.out.trans (HB2.out.mono HB.out.size)⟩
        case measure => simp [intOf]; omega
      · go_wp2_with fail
        refine (FBH.out _ HB2.out).mono ?_
        rintro e w3 ⟨rfl, B3⟩
        have HB3 := Hid.intro (HB2.out.trans (B3.mono HB2.out.size))
        have ORH := Hid.intro OR
        clear B3 FBH HB2 OR
        go_wp2
        go_roundw
        case rel => exact ⟨t + 1, by omega, by go_num, by rw [ORH.out, ← HC1.out, PS.out]; simp [bitN], HB.out.trans (HB3.out.mono HB.out.size)⟩
        case measure => simp [intOf]; omega
    · obtain rfl : t = 4 := by omega
      clear hB
      rw [HC.out]
      go_wp2
      go_ret
      exact ⟨rfl, HB.out⟩

theorem cready_nil (w : World) :
    Calls Tryz.prog 34 #[.pointer none] w fun e w' => e = .returned (.int .i64 0) ∧ Below w.heap.size w w' := by
  go_enter Tryz.func34, Tryz.ntmps34
  go_wp2
  go_ret
  exact ⟨rfl, Below.refl _ _⟩

end Go.Proofs.YthhggjakenalpaaGreatDoor

/- slices.Clone of bytes that are not nil. -/
namespace Go.Proofs.YthhggjakenalpaaGreatDoor
set_option maxRecDepth 100000
open Go.RowKit
open Bt

theorem reads_lt {w : World} {ad : Addr} {bs : List Nat} (h : Reads w (some ad) bs) (h0 : 0 < bs.length) : ad.block < w.heap.size := by
  obtain ⟨b, off, e, hc⟩ := reads_at h h0
  cases e
  exact cell_lt (hc 0 h0)

theorem cl_grown {w w1 w2 : World} {v v' : Value} {B : Nat} (hgrow : w1.grownBy w2 v.ownBlock) (hat : v'.ownBlock = v.ownBlock ∨ v'.ownBlock = some w1.heap.size) (hB : Below B w w1) (hBw : B ≤ w.heap.size) (hv : ∀ k, v.ownBlock = some k → B ≤ k) :
    Below B w w2 ∧ ∀ k, v'.ownBlock = some k → B ≤ k := by
  have hs := hB.size
  refine ⟨hB.grown hgrow (by omega) hv, fun k hk => ?_⟩
  rcases hat with h | h
  · exact hv k (by rw [← h]; exact hk)
  · rw [hk] at h
    have e : k = w1.heap.size := by simpa using h
    omega

theorem cl_none {w : World} {e : TypeId} {sz n c : Nat} {ao : Option Addr} {xs : List Value} (h : w.ownsRow 0 e sz (.slice ao n c) n xs) : ao = none → c = 0 := by
  intro ha
  rcases h.2 with ⟨h', _⟩ | ⟨g', cap', _, h', _⟩
  · cases h'; rfl
  · cases h'; cases ha

/-- A slice of one's own: where it lies, and how it reads. -/
theorem cl_owned {w : World} {B : Nat} {v : Value} {bs : List Nat} (h : w.ownsRow 0 5 1 v bs.length (bs.map U)) (hk : ∀ k, v.ownBlock = some k → B ≤ k) :
    ∃ ao c, v = .slice ao bs.length c ∧ Reads w ao bs ∧ Room ao c bs.length ∧ ∀ ad, ao = some ad → B ≤ ad.block := by
  obtain ⟨ao, c, rfl, hr, hb⟩ := row_of_owns h
  refine ⟨ao, c, rfl, hr, ⟨fun e => ?_, ?_⟩, fun ad e => hk _ (hb ad e)⟩
  · exact cl_none h e
  · rcases h.2 with ⟨h', h0⟩ | ⟨g', cap', _, h', _, _, hn, _⟩
    · omega
    · cases h'; exact hn

/-- Clone of bytes that are not nil. -/
theorem cl_clone (bb off cap : Nat) (ds : List Nat) (hl : ds.length ≤ 100000) (w : World) (hr : Reads w (some ⟨bb, off, none⟩) ds) :
    Calls Tryz.prog 66 #[.slice (some ⟨bb, off, none⟩) ds.length cap] w fun e w' => ∃ ao c, e = .returned (.slice ao ds.length c) ∧ Reads w' ao ds ∧ Room ao c ds.length ∧ (∀ ad, ao = some ad → w.heap.size ≤ ad.block) ∧ Below w.heap.size w w' := by
  have HR := Hid.intro hr
  clear hr
  have HB := Hid.intro ((Below.refl _ w).alloc (Nat.le_refl _) (.cells #[] 5))
  have ER := Hid.intro (empty_row w)
  have en := fun (w : World) => Lib.run_eql_slice_nil (P := Tryz.prog) w 42 5 (some ⟨bb, off, none⟩) ds.length cap 0 0 Tryz.underlying42
  go_enter Tryz.func66, Tryz.ntmps66
  go_wp2_with (at_builtin; refine append_bytes rfl _ _ rfl _ [] rfl ER.out (some ⟨bb, off, none⟩) ds.length cap ds rfl rfl (HR.out.below HB.out) (fun e => by cases e) (by simp; omega) ?_)
  intro v1 w1 hown hgrow hat
  obtain ⟨B1, N1⟩ := cl_grown hgrow (by rw [World.size_alloc]; exact hat) HB.out (Nat.le_refl _) (fun k hk => by
    have e : w.heap.size = k := by simpa [Value.ownBlock] using hk
    omega)
  obtain ⟨ao, c, rfl, hr1, h1, h4⟩ := cl_owned hown N1
  clear hown hgrow hat N1
  have R1 := Hid.intro hr1
  have H1 := Hid.intro h1
  have H4 := Hid.intro h4
  clear hr1 h1 h4
  go_wp2
  go_ret
  exact ⟨ao, c, rfl, R1.out, H1.out, H4.out, B1⟩

end Go.Proofs.YthhggjakenalpaaGreatDoor

/- Package collect: Shard, Skip. -/
namespace Go.Proofs.YthhggjakenalpaaGreatDoor
set_option maxRecDepth 100000
open Go.RowKit
open Bt

variable {S : Nat → Prop} {w w' : World} {b tb : Nat} {A : Int → Int → Option Addr} {C : Int → Int → Nat} {x : Col}

/-- What a call leaves: but for the collector's own blocks, and new ones, all as it was. -/
def Left (S : Nat → Prop) (w w' : World) (b : Nat) (x : Col) : Prop := ∃ S', Coll S' w' b x ∧ Chg S w w' ∧ ∀ k, S' k → S k ∨ w.heap.size ≤ k

theorem CA.left (h : CA S w b tb A C x) (hb : Below w.heap.size w w') : Left S w w' b x :=
  ⟨S, ⟨tb, A, C, h.below hb⟩, (below_chg hb).mono (fun _ q _ => q.elim), fun _ q => .inl q⟩

/-- A bit more. -/
theorem CA.skipLeft (h : CA S w b tb A C x) (hb : Below w.heap.size w w') {i : Nat} {v : Int} (hv : v = (gonN (goneS x i) : Int)) : Left S w (w'.setCell ⟨b, 5, none⟩ (.int .i64 v)) b (goneS x i) := by
  have h4 := h.below hb
  have C4 : Chg (fun q => q = b) w' (w'.setCell ⟨b, 5, none⟩ (.int .i64 v)) := Chg.setCell (S := fun k => k = b) (Chg.refl _ w') (fun _ => rfl) _
  have hd := heap_setCell_same w' b 5 _ _ (.int .i64 v) h4.head
  have n := h4.skip (i := i) C4 (by rw [hd, hv]; rfl)
  exact ⟨S, ⟨tb, A, C, n⟩, ((below_chg hb).mono (fun _ q _ => q.elim)).trans C4 (fun k q _ => by rw [q]; exact h.inB.1), fun _ q => .inl q⟩

/-- A shard more. -/
theorem CA.putLeft (h : CA S w b tb A C x) {w4 w5 : World} (hb : Below w.heap.size w w4) {g p : Int} (ho : openA x.base g = true) (hp : 0 ≤ p ∧ p < x.N) {bs : List Nat} (hl : bs.length = x.S) (hY : Byt bs) {na : Option Addr} {nc : Nat} (hr : Reads w4 na bs) (hm : Room na nc bs.length)
    (hna : ∀ ad, na = some ad → w.heap.size ≤ ad.block) (hmap : MapAt spotV okS w5 tb (fun k => if k = (g, p) then some (.slice na bs.length nc) else thF x A C k)) (hc : Chg (fun q => q = tb) w4 w5) :
    Left S w w5 b (putS x (farN x g) p.toNat bs) := by
  have hbd := h.ok.bounds
  have h4 := h.below hb
  have hlt : ∀ ad, na = some ad → ad.block < w4.heap.size := fun ad e => reads_lt (by rw [← e]; exact hr) (by omega)
  have hS := h.lt b h.inB.1
  have hT := h.lt tb h.inB.2
  have n := h4.put ho hp hl hY hr hm (fun ad e => ⟨hlt ad e, by have := hna ad e; omega, by have := hna ad e; omega⟩) hmap hc
  refine ⟨_, ⟨tb, _, _, n⟩, ((below_chg hb).mono (fun _ q _ => q.elim)).trans hc (fun k q _ => by rw [q]; exact h.inB.2), fun k q => ?_⟩
  rcases q with q | ⟨ad, e, rfl⟩
  · exact .inl q
  · exact .inr (hna ad e)

theorem ref_shard {x : Col} {g p : Int} (hp : 0 ≤ p ∧ p < x.N) : refE x g (inK x (g, p)) = if placeE x g = 0 then (if 0 < ((x.g (farN x g)).getD p.toNat []).length then 9 else 0) else placeE x g := by
  unfold refE placeE
  by_cases ho : openA x.base g = true
  · have hb : behindA x.base g = false := by
      have := open_far ho
      unfold behindA
      simp; omega
    have hk : inK x (g, p) = decide (0 < ((x.g (farN x g)).getD p.toNat []).length) := by
      have := inK_open ho (r := p.toNat) (by omega)
      rw [Int.toNat_of_nonneg hp.1] at this
      exact this
    rw [hk, hb, ho]
    simp
  · have hk : inK x (g, p) = false := by
      have : openA x.base g = false := by simpa using ho
      unfold inK; rw [this]; rfl
    rw [hk, if_neg ho]
    cases behindA x.base g <;> simp

theorem ref_skip {x : Col} {g : Int} : refE x g (wasG x g) = if placeE x g = 0 then (if x.gone (farN x g) = true then 9 else 0) else placeE x g := by
  unfold refE placeE wasG
  by_cases ho : openA x.base g = true
  · have hb : behindA x.base g = false := by
      have := open_far ho
      unfold behindA
      simp; omega
    rw [hb, ho]
    cases x.gone (farN x g) <;> simp
  · rw [if_neg ho]
    have : openA x.base g = false := by simpa using ho
    rw [this]
    cases behindA x.base g <;> simp

theorem cshard_nil (g p : Int) (v : Value) (w : World) :
    Calls Tryz.prog 29 #[.pointer none, .int .i64 g, .int .i64 p, v] w fun e w' => e = .returned (.int .i64 1) ∧ Below w.heap.size w w' := by
  go_enter Tryz.func29, Tryz.ntmps29
  go_wp2
  go_ret
  exact ⟨rfl, Below.refl _ _⟩

set_option maxRecDepth 100000 in
set_option maxHeartbeats 1000000 in
theorem cshard_any (b : Nat) (g p : Int) (ao : Option Addr) (cap : Nat) (bs : List Nat) (hb : Byt bs) (hroom : Room ao cap bs.length) (F : Nat → Prop) (x : Col) (w : World) (hc : Coll F w b x) (hr : Reads w ao bs) (hap : 0 < bs.length → ∀ ad, ao = some ad → ¬ F ad.block) :
    Calls Tryz.prog 29 #[.pointer (some ⟨b, 0, none⟩), .int .i64 g, .int .i64 p, .slice ao bs.length cap] w fun e w' => e = .returned (.int .i64 (shardE x g p bs.length)) ∧ Left F w w' b (shardC x g p bs) := by
  obtain ⟨tb, A, C, h⟩ := hc
  have HH := Hid.intro h
  have FG := Hid.intro (cisGroup_any g w)
  have H1 : Hid (¬ (isG g = true ∧ 0 ≤ p ∧ p < x.N) → shardE x g p bs.length = 1 ∧ shardC x g p bs = x) := by
    intro q
    have e : shardE x g p bs.length = 1 := by unfold shardE; rw [if_neg q]
    exact ⟨e, by unfold shardC; rw [if_neg (by rw [e]; decide)]⟩
  rcases hg : isG g with _ | _
  · rw [hg] at FG
    obtain ⟨e1, e2⟩ := H1.out (fun q => by rw [hg] at q; cases q.1)
    rw [e1, e2]
    clear h hg e1 e2 H1
    generalize bs.length = L
    go_enter Tryz.func29, Tryz.ntmps29
    go_wp2_with fail
    refine FG.out.mono ?_
    rintro e w1 ⟨rfl, B1⟩
    clear FG
    go_wp2
    go_ret
    exact ⟨rfl, HH.out.left B1⟩
  · rw [hg] at FG
    by_cases hp0 : p < 0
    · obtain ⟨e1, e2⟩ := H1.out (fun q => by omega)
      rw [e1, e2]
      clear h hg e1 e2 H1
      generalize bs.length = L
      go_enter Tryz.func29, Tryz.ntmps29
      go_wp2_with fail
      refine FG.out.mono ?_
      rintro e w1 ⟨rfl, B1⟩
      clear FG
      go_wp2
      go_ret
      exact ⟨rfl, HH.out.left B1⟩
    · have hp0' : ¬ p < 0 := hp0
      have N1 := Hid.intro (fun W (hW : Below w.heap.size w W) => (HH.out.below hW).cells.2.1)
      have N2 := Hid.intro (fun W (hW : Below w.heap.size w W) => (HH.out.below hW).cells.2.2.1)
      by_cases hpN : p < x.N
      · have hse : bs.length = x.S → shardE x g p bs.length = refE x g (inK x (g, p)) := fun q => by
          rw [ref_shard ⟨by omega, hpN⟩]
          unfold shardE
          rw [if_pos ⟨hg, by omega, hpN⟩, if_pos q]
        have hs4 : bs.length ≠ x.S → shardE x g p bs.length = 4 := fun q => by
          unfold shardE
          rw [if_pos ⟨hg, by omega, hpN⟩, if_neg q]
        have hnN : decide ((x.N : Int) ≤ p) = false := by simp; omega
        have HSC : Hid (shardC x g p bs = if shardE x g p bs.length = 0 then putS x (farN x g) p.toNat bs else x) := rfl
        by_cases hl : bs.length = x.S
        · have hbd := h.ok.bounds
          obtain ⟨bb, off, rfl, hcl⟩ := reads_at hr (by omega)
          have hokS := okS_of (isI_of hg) (show 0 ≤ p ∧ p ≤ 100 by omega)
          have hse := hse hl
          have FT := Hid.intro (fun W (hW : Below w.heap.size w W) => there_any g p hokS W (HH.out.below hW))
          have FR := Hid.intro (fun W d (hW : Below w.heap.size w W) => refusal_any g d W (HH.out.below hW))
          have FC := Hid.intro (fun W (hW : Below w.heap.size w W) => cl_clone bb off cap bs (by omega) W (hr.below hW))
          have HOP : Hid (shardE x g p bs.length = 0 → openA x.base g = true) := by
            intro e
            unfold shardE placeE at e
            rw [if_pos ⟨hg, by omega, hpN⟩, if_pos hl] at e
            by_cases ho : openA x.base g = true
            · exact ho
            · exfalso
              rw [if_neg ho] at e
              cases hbb : behindA x.base g
              · rw [hbb] at e; simp at e
              · rw [hbb] at e; simp at e
          have hneq : ((bs.length : Int) != (x.S : Int)) = false := by simp; omega
          have HL := Hid.intro hl
          have HBY := Hid.intro hb
          obtain ⟨L, hL⟩ : ∃ L, L = bs.length := ⟨_, rfl⟩
          have HLL := Hid.intro hL
          rw [← hL] at FC hse hneq HSC HOP
          rw [← hL]
          generalize shardC x g p bs = z at HSC ⊢
          generalize shardE x g p L = se at hse HSC HOP ⊢
          have HSE := Hid.intro hse
          obtain ⟨sz, hsz⟩ : ∃ sz, sz = x.S := ⟨_, rfl⟩
          obtain ⟨n, hn⟩ : ∃ n, n = x.N := ⟨_, rfl⟩
          have HNN := Hid.intro hn
          rw [← hsz] at N2 hneq
          rw [← hn] at N1 hnN hpN
          clear h hse H1 hs4 hr hap hb hl hL hsz hn hcl hroom
          go_enter Tryz.func29, Tryz.ntmps29
          go_wp2_with fail
          refine FG.out.mono ?_
          rintro e w1 ⟨rfl, B1⟩
          clear FG
          have d1 := N1.out w1 B1
          have d2 := N2.out w1 B1
          go_wp2_with fail
          have a0 := Hid.intro (heap_alloc_new w1 (.cells #[.int .i64 g, .int .i64 p] 99))
          have BA := Hid.intro (B1.alloc B1.size (.cells #[.int .i64 g, .int .i64 p] 99))
          refine (FT.out _ BA.out).mono ?_
          rintro e w2 ⟨rfl, B2⟩
          have a2 := Hid.intro ((B2.block _ (lt_of_heap a0.out)).trans a0.out)
          have B2H := Hid.intro (BA.out.trans (B2.mono BA.out.size))
          have B1H := Hid.intro B1
          clear B1 B2 FT BA d1 d2 a0
          go_wp2_with fail
          refine (FR.out _ _ B2H.out).mono ?_
          rintro e w3 ⟨rfl, B3⟩
          have a3 := Hid.intro ((B3.block _ (lt_of_heap a2.out)).trans a2.out)
          have B3H := Hid.intro (B2H.out.trans (B3.mono B2H.out.size))
          rw [← HSE.out]
          clear B3 B2H FR HSE a2
          by_cases h0 : se = 0
          · subst h0
            have c4 := (HH.out.below B3H.out).cells.2.2.2.2.1
            have e0 : w3.cell? ⟨w1.heap.size, 0, none⟩ = some (.int .i64 g) := by rw [cell_of_row _ _ 0 _ _ _ a3.out]; rfl
            have e1 : w3.cell? ⟨w1.heap.size, 1, none⟩ = some (.int .i64 p) := by rw [cell_of_row _ _ 1 _ _ _ a3.out]; rfl
            have AB : Hid (∀ k, k = b ∨ k = w1.heap.size → k ≠ tb) := fun k q e => by
              have h3 := HH.out
              have hT := h3.lt tb h3.inB.2
              have hs := B1H.out.size
              rcases q with q | q
              · exact h3.ap (q.symm.trans e)
              · omega
            have HO := Hid.intro (HOP.out rfl)
            have hz : Hid (z = putS x (farN x g) p.toNat bs) := by rw [HSC.out, if_pos rfl]; rfl
            clear HSC HOP
            go_wp2_with fail
            go_region_held3 (fun w' => w'.cell? ⟨b, 4, none⟩ = some (.map (some tb)) ∧ w'.cell? ⟨w1.heap.size, 0, none⟩ = some (.int .i64 g) ∧ w'.cell? ⟨w1.heap.size, 1, none⟩ = some (.int .i64 p))
              (first | exact ⟨k4, k5, k6⟩ | exact ⟨cellK D4 c4, cellK D4 e0, cellK D4 e1⟩ | go_keep)
              ((go_at_call 66; refine (FC.out _ ?_).mono ?_; exact B3H.out.drew; rintro e w4 ⟨na, nc, rfl, r4, m4, n4, B4⟩; have D4 : Below w3.heap.size w3 w4 := undrewK B4 rfl; have E4 := B3H.out.trans (D4.mono B3H.out.size); obtain ⟨w5, hrun, m5, C5, s5⟩ := (HH.out.below E4).thr.store spot_by Tryz.underlying95 hokS (.slice na L nc); have k4 : w5.cell? ⟨b, 4, none⟩ = _ := cell_chg C5 (cellK D4 c4) (AB.out b (.inl rfl)); have k5 : w5.cell? ⟨w1.heap.size, 0, none⟩ = _ := cell_chg C5 (cellK D4 e0) (AB.out w1.heap.size (.inr rfl)); have k6 : w5.cell? ⟨w1.heap.size, 1, none⟩ = _ := cell_chg C5 (cellK D4 e1) (AB.out w1.heap.size (.inr rfl)); have R4 := Hid.intro r4; have M4 := Hid.intro m4; have N4 := Hid.intro n4; have M5 := Hid.intro m5; have C5H := Hid.intro C5; have E4H := Hid.intro E4; have hrun : (Instr.mapUpdate 95 (.map (some tb)) (.agg #[.int .i64 g, .int .i64 p]) (.slice na L nc)).run Tryz.prog w4 = .ok () w5 := hrun; clear r4 m4 n4 m5 C5 B4))
            all_goals
              clear hrun k4 k5 k6 c4 e0 e1
              go_wp2
              go_ret
              exact ⟨rfl, by rw [hz.out]; exact HH.out.putLeft E4H.out HO.out ⟨by omega, by rw [← HNN.out]; exact hpN⟩ HL.out HBY.out R4.out (by rw [← HLL.out]; exact M4.out) (fun ad e => Nat.le_trans B3H.out.size (N4.out ad e)) (by rw [← HLL.out]; exact M5.out) C5H.out⟩
          · have n0 : (se != 0) = true := by simpa using h0
            have HSC2 : Hid (z = x) := by rw [HSC.out, if_neg h0]; rfl
            go_wp2
            go_ret
            exact ⟨rfl, by rw [HSC2.out]; exact HH.out.left B3H.out⟩
        · have e1 := hs4 hl
          have e2 : shardC x g p bs = x := by rw [HSC.out, if_neg (by rw [e1]; decide)]
          rw [e1, e2]
          have hneq : ((bs.length : Int) != (x.S : Int)) = true := by simp; omega
          clear h hg e1 e2 H1 hs4 hse HSC hr hap hb hl
          obtain ⟨sz, hsz⟩ : ∃ sz, sz = x.S := ⟨_, rfl⟩
          obtain ⟨n, hn⟩ : ∃ n, n = x.N := ⟨_, rfl⟩
          rw [← hsz] at N2 hneq
          rw [← hn] at N1 hnN hpN
          generalize bs.length = L at hneq hroom ⊢
          clear hsz hn
          go_enter Tryz.func29, Tryz.ntmps29
          go_wp2_with fail
          refine FG.out.mono ?_
          rintro e w1 ⟨rfl, B1⟩
          clear FG
          have d1 := N1.out w1 B1
          have d2 := N2.out w1 B1
          go_wp2
          go_ret
          exact ⟨rfl, HH.out.left B1⟩
      · obtain ⟨e1, e2⟩ := H1.out (fun q => hpN q.2.2)
        rw [e1, e2]
        have hnN : decide ((x.N : Int) ≤ p) = true := by simp; omega
        clear h hg e1 e2 H1
        generalize bs.length = L
        obtain ⟨n, hn⟩ : ∃ n, n = x.N := ⟨_, rfl⟩
        rw [← hn] at N1 hnN hpN
        clear hn
        go_enter Tryz.func29, Tryz.ntmps29
        go_wp2_with fail
        refine FG.out.mono ?_
        rintro e w1 ⟨rfl, B1⟩
        clear FG
        have d1 := N1.out w1 B1
        go_wp2
        go_ret
        exact ⟨rfl, HH.out.left B1⟩

end Go.Proofs.YthhggjakenalpaaGreatDoor

/- Package collect: part. -/
namespace Go.Proofs.YthhggjakenalpaaGreatDoor
set_option maxRecDepth 100000
open Go.RowKit
open Bt

variable {S : Nat → Prop} {w w' : World} {b tb : Nat} {A : Int → Int → Option Addr} {C : Int → Int → Nat} {x : Col}

theorem fill_set (V : Nat → Value) (z : Value) {n t : Nat} (h : t < n) : ((List.range t).map V ++ List.replicate (n - t) z).set t (V t) = (List.range (t + 1)).map V ++ List.replicate (n - (t + 1)) z := by
  apply List.ext_getElem
  · simp; omega
  · intro j h1 h2
    rw [List.getElem_set]
    by_cases e : t = j
    · subst e
      rw [if_pos rfl, List.getElem_append_left (by simp)]
      simp
    · rw [if_neg e]
      by_cases e2 : j < t
      · rw [List.getElem_append_left (by simp; exact e2), List.getElem_append_left (by simp; omega)]
        simp
      · rw [List.getElem_append_right (by simp; omega), List.getElem_append_right (by simp; omega)]
        simp

/-- The base's shards as they are looked up. -/
def baseV (x : Col) (A : Int → Int → Option Addr) (C : Int → Int → Nat) (t : Nat) : Value := (thF x A C ((x.base : Int), (t : Int))).getD (.slice none 0 0)

theorem baseV_slice (x : Col) (A : Int → Int → Option Addr) (C : Int → Int → Nat) (t : Nat) : ∃ a l c, baseV x A C t = .slice a l c := by
  unfold baseV thF
  split
  · exact ⟨_, _, _, rfl⟩
  · exact ⟨none, 0, 0, rfl⟩

theorem base_open {x : Col} (hx : x.Ok) : openA x.base (x.base : Int) = true ∧ farN x (x.base : Int) = 0 ∧ isG (x.base : Int) = true := by
  have := next_group hx (t := 0) (by omega)
  have hb := hx.base
  rw [Nat.add_zero, Nat.mod_eq_of_lt hb] at this
  exact ⟨this.2.2.1, this.2.2.2, this.2.1⟩

/-- Shards that were looked up read as the base's rows. -/
theorem CA.readsL (h : CA S w b tb A C x) {mb : Nat} (ho : w.ownsRow 0 42 1 (.slice (some ⟨mb, 0, none⟩) x.N x.N) x.N ((List.range x.N).map (baseV x A C))) :
    ReadsL w (some ⟨mb, 0, none⟩) (x.g 0) := by
  obtain ⟨o1, o2, o3⟩ := base_open h.ok
  have hlen := h.ok.len 0 (by omega)
  intro _
  refine ⟨mb, 0, rfl, fun r hr => ?_⟩
  rw [hlen] at hr
  have hc : w.cell? ⟨mb, 0 + r, none⟩ = some (baseV x A C r) := by
    rw [Nat.zero_add, ho.cellAt r (by omega)]
    simp [hr]
  have hrow : rowOf x (x.base : Int) (r : Int) = (x.g 0).getD r [] := by unfold rowOf; rw [o2, Int.toNat_natCast]
  by_cases q : inK x ((x.base : Int), (r : Int)) = true
  · have hv : baseV x A C r = .slice (A x.base r) ((x.g 0).getD r []).length (C x.base r) := by
      unfold baseV thF
      rw [if_pos q]
      show Value.slice _ (rowOf x (x.base : Int) (r : Int)).length _ = _
      rw [hrow]
    rw [hv] at hc
    have := h.rd _ _ q
    rw [hrow] at this
    exact ⟨_, _, hc, this.1, this.2.1⟩
  · have hv : baseV x A C r = .slice none 0 0 := by unfold baseV thF; rw [if_neg q]; rfl
    have hn : (x.g 0).getD r [] = [] := by
      rw [inK_open o1 hr, o2] at q
      have : ((x.g 0).getD r []).length = 0 := by simpa using q
      exact List.length_eq_zero_iff.1 this
    rw [hv] at hc
    rw [hn]
    exact ⟨none, 0, hc, fun h0 => absurd h0 (by simp), fun _ => rfl⟩

/-- What part answers. -/
def PartV (B : Nat) (w : World) (v : Value) (p : Prt) : Prop := ∃ a c, v = .agg #[.int .i64 (p.group : Int), .bool p.gap, .slice a p.data.length c] ∧ Reads w a p.data ∧ Room a c p.data.length ∧ (∀ ad, a = some ad → B ≤ ad.block) ∧ (p.data.length = 0 → a = none)

theorem have_base {x : Col} (hx : x.Ok) : haveN x (x.base : Int) = cnt (x.g 0) := by
  obtain ⟨o1, o2, o3⟩ := base_open hx
  unfold haveN
  rw [if_pos o1, o2]

theorem below_setRowC {B : Nat} {w w' : World} (h : Below B w w') (g : Nat) (hg : B ≤ g) (cs : Array Value) : Below B w (w'.setRow g cs) :=
  ⟨h.os, h.tape, h.output, by rw [size_setRow]; exact h.size, fun k hk => (setRow_other w' g k cs (by omega)).trans (h.block k hk)⟩

theorem chg_setRowC (w : World) (g : Nat) (cs : Array Value) : Chg (fun k => k = g) w (w.setRow g cs) :=
  ⟨rfl, rfl, rfl, by rw [size_setRow]; exact Nat.le_refl _, fun k _ hk => setRow_other w g k cs hk⟩

/-- The cells of a zero part. -/
abbrev ZP : Array Value := #[.int .i64 0, .bool false, .slice none 0 0]

set_option maxRecDepth 100000 in
set_option maxHeartbeats 1000000 in
theorem part_any (w : World) (h : CA S w b tb A C x) :
    Calls Tryz.prog 68 #[.pointer (some ⟨b, 0, none⟩), .int .i64 (x.base : Int)] w fun e w' => ∃ v, e = .returned v ∧ PartV w.heap.size w' v (partOf x) ∧ Below w.heap.size w w' := by
  obtain ⟨o1, o2, o3⟩ := base_open h.ok
  have FW := fun W (hW : Below w.heap.size w W) => whole_any (x.base : Int) (isI_of o3) W (h.below hW)
  rw [have_base h.ok] at FW
  have B0 := Hid.intro ((Below.refl _ w).alloc (Nat.le_refl _) (.cells ZP 66))
  have g0 := Hid.intro (heap_alloc_new w (.cells ZP 66))
  by_cases hK : x.K ≤ cnt (x.g 0)
  · rw [decide_eq_true hK] at FW
    obtain ⟨iR, hiR, hzR0, hzR1, hzR2⟩ := info_parts info_rowK
    have HP : Hid (decA x.K x.N x.S (x.g 0) = (partOf x).data ∧ (partOf x).gap = false ∧ (partOf x).group = x.base) := by
      have q := (dec_part h.ok).1 hK
      exact ⟨q.2.1, q.2.2, by unfold partOf; rw [if_pos hK]⟩
    have HPL : Hid ((partOf x).data.length = x.K * x.S) := by unfold partOf; rw [if_pos hK]; exact decT_length _ _ _
    have hkz : 0 < x.K * x.S := Nat.mul_pos h.ok.bounds.1 h.ok.bounds.2.2.2.2.1
    have hbd := h.ok.bounds
    have HH := Hid.intro h
    have N1 := Hid.intro (fun W (hW : Below w.heap.size w W) => (HH.out.below hW).cells.2.1)
    have FWH := Hid.intro FW
    obtain ⟨xb, hxb⟩ : ∃ xb, xb = x.base := ⟨_, rfl⟩
    have HXB := Hid.intro hxb
    obtain ⟨n, hn⟩ : ∃ n, n = x.N := ⟨_, rfl⟩
    have HN := Hid.intro hn
    rw [← hxb] at FWH ⊢
    rw [← hn] at N1 hbd
    clear h FW hxb hn o1 o2 o3 hK
    go_enter Tryz.func68, Tryz.ntmps68
    go_wp2_with fail
    refine (FWH.out _ B0.out).mono ?_
    rintro e w1 ⟨rfl, B1⟩
    have g1 := Hid.intro ((B1.block _ (lt_of_heap g0.out)).trans g0.out)
    have B1H := Hid.intro (B0.out.trans (B1.mono B0.out.size))
    have d1 := N1.out w1 B1H.out
    clear FWH B1 B0 g0
    go_wp2_with (at_make; refine wpList_make_full _ rfl _ _ 36 rfl 0 42 iR (.slice none 0 0) 1 Tryz.underlying36 hiR hzR0 hzR1 _ _ _ _ n rfl rfl (by omega) (by omega) (by rw [hzR2]; omega) (by unfold maxLen; omega) (Nat.zero_le _) ?_)
    intro w2 hown hgrow
    have B2 : Below w1.heap.size w1 w2 := (Below.refl _ w1).grown hgrow (Nat.le_refl _) (fun k hk => by cases hk)
    have g2 := Hid.intro ((B2.block _ (lt_of_heap g1.out)).trans g1.out)
    have O2 : w2.ownsRow 0 42 1 (.slice (some ⟨w1.heap.size, 0, none⟩) n n) n ((List.range 0).map (baseV x A C) ++ List.replicate (n - 0) (.slice none 0 0)) := by
      rw [toList_madeCells_one] at hown
      exact hown
    have NB := Hid.intro (show w.heap.size < w1.heap.size from lt_of_heap g1.out)
    have OH := Hid.intro O2
    have BH := Hid.intro (B1H.out.trans (B2.mono B1H.out.size))
    generalize w1.heap.size = mb at OH NB ⊢
    clear hown hgrow B2 O2 d1 g1 B1H
    go_wp2_with fail
    go_loopw [23] (fun i ws => ∃ t : Nat, t ≤ n ∧ i = .int .i64 t ∧ ws.ownsRow 0 42 1 (.slice (some ⟨mb, 0, none⟩) n n) n ((List.range t).map (baseV x A C) ++ List.replicate (n - t) (.slice none 0 0)) ∧ Below w.heap.size w ws ∧ ws.heap[w.heap.size]? = some (.cells ZP 66 (0, 0))) (fun i _ => n - (intOf i).toNat)
    case atStart => exact ⟨0, by omega, rfl, OH.out, BH.out, g2.out⟩
    case round =>
      clear OH BH g2
      obtain ⟨t, ht, rfl, hO, hB, hg⟩ := hrel
      by_cases hlt : t < n
      · have t1 : (t : Int) < (n : Int) := by omega
        have t0 : (0 : Int) ≤ (t : Int) := by omega
        have c4 := (HH.out.below hB).cells.2.2.2.2.1
        have LK := (HH.out.below hB).look1 (okS_of (isI_of (base_open HH.out.ok).2.2) (show 0 ≤ (t : Int) ∧ (t : Int) ≤ 100 by omega))
        rw [← HXB.out] at LK
        obtain ⟨va, vl, vc, hV⟩ : ∃ va vl vc, Value.slice va vl vc = baseV x A C t := by
          obtain ⟨a, l, c, e⟩ := baseV_slice x A C t
          exact ⟨a, l, c, e.symm⟩
        have hV2 : (thF x A C ((xb : Int), (t : Int))).getD (.slice none 0 0) = .slice va vl vc := by rw [hV, HXB.out]; rfl
        rw [hV2] at LK
        have hST := (hO.stored t (.slice va vl vc)).1
        rw [hV, fill_set (baseV x A C) (.slice none 0 0) hlt, ← hV] at hST
        obtain ⟨u, cu⟩ : ∃ u, wr.cell? ⟨mb, t, none⟩ = some u := by
          rw [hO.cellAt t (by omega)]
          exact ⟨_, List.getElem?_eq_getElem (by simp; omega)⟩
        have fu : wr.frozen? ⟨mb, t, none⟩ = false := hO.frozenAt t
        have STH := Hid.intro hST
        have B3H := Hid.intro hB
        have G3 := Hid.intro hg
        clear hST hO hB hg hV hV2
        go_wp2
        go_roundw
        case rel => exact ⟨t + 1, by omega, by go_num, STH.out, B3H.out.setCell (p := ⟨mb, t, none⟩) (Nat.le_of_lt NB.out) _, by rw [heap_setCell_other _ _ _ _ (by have := NB.out; simp; omega)]; exact G3.out⟩
        case measure => simp [intOf]; omega
      · have hte : n = t := by omega
        subst hte
        have t1 : ¬ (n : Int) < (n : Int) := by omega
        rw [Nat.sub_self, List.replicate_zero, List.append_nil] at hO
        have cs := (HH.out.below hB).cells
        have c0 := cs.1
        have c1 := cs.2.1
        have c2 := cs.2.2.1
        rw [← HN.out] at c1
        have RL := (HH.out.below hB).readsL (mb := mb) (by rw [← HN.out]; exact hO)
        have hlen := HH.out.ok.len 0 (by omega)
        rw [← HN.out] at hlen
        have DC := rdecode_any (x.K : Int) (x.N : Int) (x.S : Int) (some ⟨mb, 0, none⟩) n (x.g 0) (HH.out.ok.byt 0 (by omega)) (by omega) (fun r => by
          by_cases hr : r < x.N
          · have := HH.out.ok.size 0 (by omega) r hr
            omega
          · rw [List.getD_eq_getElem?_getD, List.getElem?_eq_none (by rw [hlen, HN.out]; omega)]; simp) wr RL
        rw [HP.out.1, hlen, ← HN.out] at DC
        have DCH := Hid.intro DC
        have B3H := Hid.intro hB
        have G3 := Hid.intro hg
        clear DC RL hO hB hg cs hlen ht hlt
        generalize x.K = K at c0 DCH hbd
        generalize x.S = SZ at c2 DCH hbd
        generalize decE (K : Int) n SZ (x.g 0) = de at DCH
        go_wp2_with fail
        refine DCH.out.mono ?_
        rintro e w4 ⟨v, rfl, ⟨da, dc, rfl, r4, m4, n4⟩, B4⟩
        have g4 := Hid.intro ((B4.block _ (lt_of_heap G3.out)).trans G3.out)
        have B4H := Hid.intro (B3H.out.trans (B4.mono B3H.out.size))
        have R4 := Hid.intro r4
        have M4 := Hid.intro m4
        have N4 := Hid.intro (fun ad (e : da = some ad) => Nat.le_trans B3H.out.size (n4 ad e))
        have hne : Hid (∀ ad, da = some ad → ad.block ≠ w.heap.size) := fun ad e q => by
          have := n4 ad e
          have h2 := lt_of_heap G3.out
          omega
        clear DCH G3 B3H B4 r4 m4 n4 c0 c1 c2
        obtain ⟨dl, hdl⟩ : ∃ dl, dl = (partOf x).data.length := ⟨_, rfl⟩
        have HDL := Hid.intro hdl
        rw [← hdl]
        clear hdl
        go_wp2_with (refine wpList_store_row rfl 66 (.tmp 4) (.tmp 49) rfl w.heap.size #[.int .i64 (xb : Int), .bool false, .slice da dl dc] rfl rfl 66 ZP g4.out (by kernel_rfl) rfl (by kernel_rfl) ?_)
        (try simp only [Exit.inBlock, Exit.then])
        refine bodyPost_ret (results_cell_row rfl _ _ w.heap.size 66 #[.int .i64 (xb : Int), .bool false, .slice da dl dc] (0, 0) _ rfl (setRow_heap _ w.heap.size ZP _ 66 _ g4.out) Tryz.underlying66 rfl (by kernel_rfl)) rfl ?_
        refine ⟨_, rfl, ⟨da, dc, ?_, R4.out.kept (chg_setRowC w4 w.heap.size _) (fun ad e => hne.out ad e), M4.out, N4.out, fun q => absurd q (by rw [HPL.out]; exact Nat.ne_of_gt hkz)⟩, below_setRowC B4H.out _ (Nat.le_refl _) _⟩
        rw [HP.out.2.1, HP.out.2.2, HXB.out, HDL.out]
  · rw [decide_eq_false hK] at FW
    have HP : Hid (partOf x = ⟨x.base, true, []⟩) := by unfold partOf; rw [if_neg hK]; rfl
    have FWH := Hid.intro FW
    clear h FW
    go_enter Tryz.func68, Tryz.ntmps68
    go_wp2_with fail
    refine (FWH.out _ B0.out).mono ?_
    rintro e w1 ⟨rfl, B1⟩
    have g1 := Hid.intro ((B1.block _ (lt_of_heap g0.out)).trans g0.out)
    have B1H := Hid.intro (B0.out.trans (B1.mono B0.out.size))
    clear FWH B1 B0 g0
    generalize x.base = xb at HP ⊢
    go_wp2_with (refine wpList_store_row rfl 66 (.tmp 4) (.tmp 14) rfl w.heap.size #[.int .i64 (xb : Int), .bool true, .slice none 0 0] rfl rfl 66 ZP g1.out (by kernel_rfl) rfl (by kernel_rfl) ?_)
    (try simp only [Exit.inBlock, Exit.then])
    refine bodyPost_ret (results_cell_row rfl _ _ w.heap.size 66 #[.int .i64 (xb : Int), .bool true, .slice none 0 0] (0, 0) _ rfl (setRow_heap _ w.heap.size ZP _ 66 _ g1.out) Tryz.underlying66 rfl (by kernel_rfl)) rfl ?_
    rw [HP.out]
    exact ⟨_, rfl, ⟨none, 0, rfl, fun h0 => absurd h0 (by simp), ⟨fun _ => rfl, Nat.le_refl _⟩, (fun ad e => by cases e), fun _ => rfl⟩, below_setRowC B1H.out _ (Nat.le_refl _) _⟩

end Go.Proofs.YthhggjakenalpaaGreatDoor

/- Package collect: goOn. -/
namespace Go.Proofs.YthhggjakenalpaaGreatDoor
set_option maxRecDepth 100000
open Go.RowKit
open Bt

variable {S : Nat → Prop} {w w' : World} {b tb : Nat} {A : Int → Int → Option Addr} {C : Int → Int → Nat} {x : Col}

/-- What goOn leaves: the blocks stay the same. -/
def OnC (S : Nat → Prop) (w w' : World) (b tb : Nat) (A : Int → Int → Option Addr) (C : Int → Int → Nat) (x : Col) : Prop := CA S w' b tb A C x ∧ Chg (fun k => k = b ∨ k = tb) w w'

/-- The map, so many of the base's shards deleted. -/
def delF (x : Col) (A : Int → Int → Option Addr) (C : Int → Int → Nat) (t : Nat) (k : Int × Int) : Option Value := if k.1 = x.base ∧ 0 ≤ k.2 ∧ k.2 < t then none else thF x A C k

theorem delF_step (x : Col) (A : Int → Int → Option Addr) (C : Int → Int → Nat) (t : Nat) (k : Int × Int) : (if k = ((x.base : Int), (t : Int)) then none else delF x A C t k) = delF x A C (t + 1) k := by
  obtain ⟨k1, k2⟩ := k
  unfold delF
  show (if (k1, k2) = ((x.base : Int), (t : Int)) then none else if k1 = x.base ∧ 0 ≤ k2 ∧ k2 < t then none else _) = if k1 = x.base ∧ 0 ≤ k2 ∧ k2 < ((t + 1 : Nat) : Int) then none else _
  by_cases e : (k1, k2) = ((x.base : Int), (t : Int))
  · rw [if_pos e]
    cases e
    rw [if_pos ⟨rfl, by omega, by omega⟩]
  · rw [if_neg e]
    have hn : ¬ (k1 = x.base ∧ k2 = t) := fun q => e (by rw [q.1, q.2])
    by_cases q : k1 = x.base ∧ 0 ≤ k2 ∧ k2 < t
    · rw [if_pos q, if_pos ⟨q.1, q.2.1, by omega⟩]
    · rw [if_neg q, if_neg (fun r => q ⟨r.1, r.2.1, by
        have : k2 ≠ t := fun e => hn ⟨r.1, e⟩
        omega⟩)]

theorem CA.onward (h : CA S w b tb A C x) {wr w6 : World} (hC : Chg (fun k => k = tb) w wr) (hM : MapAt spotV okS wr tb (delF x A C x.N)) (v5 : Int) (hv5 : v5 = ((gonN x / 2 : Nat) : Int))
    (B6 : Below (wr.setCell ⟨b, 5, none⟩ (.int .i64 v5)).heap.size (wr.setCell ⟨b, 5, none⟩ (.int .i64 v5)) w6) (v3 : Int) (hv3 : v3 = (((x.base + 1) % 256 : Nat) : Int)) :
    (w6.cell? ⟨b, 3, none⟩ = some (.int .i64 (x.base : Int)) ∧ w6.frozen? ⟨b, 3, none⟩ = false) ∧ OnC S w (w6.setCell ⟨b, 3, none⟩ (.int .i64 v3)) b tb A C (Bt.shift x) := by
  have hb := h.lt b h.inB.1
  have ht := h.lt tb h.inB.2
  have hd := (hC.block b hb h.ap).trans h.head
  have h5 := heap_setCell_same wr b 5 _ _ (.int .i64 v5) hd
  have C5 : Chg (fun k => k = b) wr (wr.setCell ⟨b, 5, none⟩ (.int .i64 v5)) := Chg.setCell (S := fun k => k = b) (Chg.refl _ wr) (fun _ => rfl) _
  have hs5 : (wr.setCell ⟨b, 5, none⟩ (.int .i64 v5)).heap.size = wr.heap.size := World.size_setCell _ _ _
  have h6 := (B6.block b (by have := hC.size; omega)).trans h5
  have C6 : Chg (fun k => k = b) wr w6 := C5.trans (below_chg B6) (fun _ q _ => q.elim)
  have h7 := heap_setCell_same w6 b 3 _ _ (.int .i64 v3) h6
  have C7 : Chg (fun k => k = b) wr (w6.setCell ⟨b, 3, none⟩ (.int .i64 v3)) := C6.setCell (p := ⟨b, 3, none⟩) (fun _ => rfl) _
  have CW : Chg (fun k => k = b ∨ k = tb) w (w6.setCell ⟨b, 3, none⟩ (.int .i64 v3)) := (hC.mono (fun _ q _ => .inr q)).trans C7 (fun _ q _ => .inl q)
  refine ⟨⟨by rw [cell_of_row _ _ 3 _ _ _ h6]; rfl, frozen_of_row w6 b 3 _ _ h6⟩, h.shift CW (by rw [h7, hv3, hv5]; rfl) ?_, CW⟩
  exact hM.kept (C7.block tb (by have := hC.size; omega) (fun q => h.ap q.symm))

set_option maxRecDepth 100000 in
set_option maxHeartbeats 1000000 in
theorem goOn_any (w : World) (h : CA S w b tb A C x) :
    Calls Tryz.prog 69 #[.pointer (some ⟨b, 0, none⟩)] w fun e w' => e = .returned (.tuple #[]) ∧ OnC S w w' b tb A C (shift x) := by
  have hbd := h.ok.bounds
  have HH := Hid.intro h
  have c1 := h.cells.2.1
  have hgo := base_isG h.ok
  obtain ⟨n, hn⟩ : ∃ n, n = x.N := ⟨_, rfl⟩
  have HN := Hid.intro hn
  obtain ⟨xb, hxb⟩ : ∃ xb, xb = x.base := ⟨_, rfl⟩
  have HXB := Hid.intro hxb
  rw [← hn] at c1 hbd
  clear h hn hxb
  go_enter Tryz.func69, Tryz.ntmps69
  go_wp2_with fail
  clear c1
  go_loopw [8] (fun i ws => ∃ t : Nat, t ≤ n ∧ i = .int .i64 t ∧ MapAt spotV okS ws tb (delF x A C t) ∧ Chg (fun k => k = tb) w ws) (fun i _ => n - (intOf i).toNat)
  case atStart => exact ⟨0, by omega, rfl, HH.out.thr.congr (fun k => by unfold delF; rw [if_neg (by omega)]), Chg.refl _ _⟩
  case round =>
    obtain ⟨t, ht, rfl, hM, hC⟩ := hrel
    have bl : wr.heap[b]? = w.heap[b]? := hC.block b (HH.out.lt b HH.out.inB.1) HH.out.ap
    have hd := bl.trans HH.out.head
    by_cases hlt : t < n
    · have t1 : (t : Int) < (n : Int) := by omega
      have t0 : (0 : Int) ≤ (t : Int) := by omega
      have c3 : wr.cell? ⟨b, 3, none⟩ = some (.int .i64 (xb : Int)) := by rw [cell_of_row _ _ 3 _ _ _ hd, HXB.out]; rfl
      have c4 : wr.cell? ⟨b, 4, none⟩ = some (.map (some tb)) := by rw [cell_of_row _ _ 4 _ _ _ hd]; rfl
      obtain ⟨w5, hrun, m5, C5, s5⟩ := (hM.kept (w' := wr.drew) rfl).drop spot_by Tryz.underlying95 (key := ((xb : Int), (t : Int))) (okS_of (isI_of (by rw [HXB.out]; exact hgo)) (show 0 ≤ (t : Int) ∧ (t : Int) ≤ 100 by omega)) 0
      have hrun : (Builtin.delete_ #[95, 99] 0 #[.map (some tb), .agg #[.int .i64 (xb : Int), .int .i64 (t : Int)]]).run Tryz.prog wr.drew = .ok (.tuple #[]) w5 := hrun
      have k3 : w5.cell? ⟨b, 3, none⟩ = _ := cell_chg C5 (show wr.drew.cell? ⟨b, 3, none⟩ = some (.int .i64 (xb : Int)) from c3) HH.out.ap
      have k4 : w5.cell? ⟨b, 4, none⟩ = _ := cell_chg C5 (show wr.drew.cell? ⟨b, 4, none⟩ = some (.map (some tb)) from c4) HH.out.ap
      have M5 : Hid (MapAt spotV okS w5 tb (delF x A C (t + 1))) := m5.congr (fun k => by rw [HXB.out]; exact delF_step x A C t k)
      have C5H : Hid (Chg (fun k => k = tb) w w5) := hC.trans (((Chg.refl _ wr).drew).trans C5 (fun _ q _ => q)) (fun _ q _ => q)
      clear m5 C5 hM hC bl hd s5
      go_wp2_with fail
      go_region_held3 (fun w' => w'.cell? ⟨b, 3, none⟩ = some (.int .i64 (xb : Int)) ∧ w'.cell? ⟨b, 4, none⟩ = some (.map (some tb)))
        (first | exact ⟨k3, k4⟩ | go_keep)
        (fail)
      all_goals
        clear hrun k3 k4 c3 c4
        go_wp2
        go_roundw
        case rel => exact ⟨t + 1, by omega, by go_num, M5.out, C5H.out⟩
        case measure => simp [intOf]; omega
    · have hte : n = t := by omega
      subst hte
      have t1 : ¬ (n : Int) < (n : Int) := by omega
      have c5 : wr.cell? ⟨b, 5, none⟩ = some (.int .i64 (gonN x : Int)) := by rw [cell_of_row _ _ 5 _ _ _ hd]; rfl
      have f5 := frozen_of_row wr b 5 _ _ hd
      have HM := Hid.intro hM
      have HC := Hid.intro hC
      have HD := Hid.intro hd
      obtain ⟨gn, hgn⟩ : ∃ gn, gn = gonN x := ⟨_, rfl⟩
      have HGN := Hid.intro hgn
      rw [← hgn] at c5
      have h5 := heap_setCell_same wr b 5 _ _ (.int .i64 ((gn : Int) / 2)) hd
      have c3 : (wr.setCell ⟨b, 5, none⟩ (.int .i64 ((gn : Int) / 2))).cell? ⟨b, 3, none⟩ = some (.int .i64 (xb : Int)) := by rw [cell_of_row _ _ 3 _ _ _ h5, HXB.out]; rfl
      have FN := snext_any (xb : Int) 1 ⟨by omega, by omega⟩ (wr.setCell ⟨b, 5, none⟩ (.int .i64 ((gn : Int) / 2)))
      rw [show nextA (xb : Int) 1 = (((xb + 1) % 256 : Nat) : Int) from by rw [HXB.out]; exact (next_group HH.out.ok (t := 1) (by omega)).1] at FN
      have FNH := Hid.intro FN
      have H5 := Hid.intro h5
      clear hM hC hd bl hgn ht hlt h5 FN
      obtain ⟨nb, hnb⟩ : ∃ nb : Int, nb = (((xb + 1) % 256 : Nat) : Int) := ⟨_, rfl⟩
      have HNB := Hid.intro hnb
      rw [← hnb] at FNH
      clear hnb
      go_wp2_with fail
      refine FNH.out.mono ?_
      rintro e w6 ⟨rfl, B6⟩
      obtain ⟨⟨k3, k4⟩, fin⟩ := HH.out.onward HC.out (by rw [← HN.out]; exact HM.out) ((gn : Int) / 2) (by rw [HGN.out]; omega) B6 nb (by rw [HNB.out, HXB.out])
      have FIN := Hid.intro fin
      clear fin B6 FNH c3 c5 f5 H5
      go_wp2
      go_end0
      exact ⟨rfl, FIN.out⟩

end Go.Proofs.YthhggjakenalpaaGreatDoor

/- Package collect: Due. -/
namespace Go.Proofs.YthhggjakenalpaaGreatDoor
set_option maxRecDepth 100000
open Go.RowKit
open Bt

variable {S : Nat → Prop} {w wr w' : World} {b tb : Nat} {A : Int → Int → Option Addr} {C : Int → Int → Nat} {x y : Col} {P : Nat → Prt} {v : Value} {t : Nat} {ad : Nat → Option Addr} {cp : Nat → Nat}

theorem info_partC : (Tryz.prog.info? 66).map (fun i => (i.zero, i.size, i.bytes)) = some (some (.agg #[.int .i64 0, .bool false, .slice none 0 0]), 3, 40) := by kernel_rfl

def lenC : Value → Nat
  | .slice _ n _ => n
  | _ => 0

/-- Parts so far, and the collector beside them. -/
structure DuA (S : Nat → Prop) (w wr : World) (b tb : Nat) (A : Int → Int → Option Addr) (C : Int → Int → Nat) (P : Nat → Prt) (v : Value) (t : Nat) (y : Col) (ad : Nat → Option Addr) (cp : Nat → Nat) : Prop where
  pts : PtsAt w.heap.size wr v P ad cp t
  ca : CA S wr b tb A C y
  lt : ∀ k, S k → k < w.heap.size
  lta : ∀ i, i < t → ∀ a, ad i = some a → a.block < wr.heap.size
  chg : Chg S w wr

theorem DuA.below (h : DuA S w wr b tb A C P v t y ad cp) (hb : Below wr.heap.size wr w') : DuA S w w' b tb A C P v t y ad cp :=
  ⟨h.pts.below hb, h.ca.below hb, h.lt, fun i hi a ha => Nat.lt_of_lt_of_le (h.lta i hi a ha) hb.size, h.chg.trans (below_chg hb) (fun _ q _ => q.elim)⟩

theorem DuA.on (h : DuA S w wr b tb A C P v t y ad cp) (ho : OnC S wr w' b tb A C x) : DuA S w w' b tb A C P v t x ad cp :=
  ⟨h.pts.kept ho.2 (fun k hk q => by
      have h1 := h.lt b h.ca.inB.1
      have h2 := h.lt tb h.ca.inB.2
      rcases q with q | q <;> omega), ho.1, h.lt, fun i hi a ha => Nat.lt_of_lt_of_le (h.lta i hi a ha) ho.2.size, h.chg.trans ho.2 (fun k q _ => by
      rcases q with q | q
      · rw [q]; exact h.ca.inB.1
      · rw [q]; exact h.ca.inB.2)⟩

/-- One part more. -/
theorem DuA.part (h : DuA S w wr b tb A C P v t y ad cp) {PT : Obj} {w7 : World} {g7 c7 c : Nat} {a : Option Addr}
    (hr : Reads wr a (P t).data) (hm : Room a c (P t).data.length) (ha : ∀ z, a = some z → w.heap.size ≤ z.block ∧ z.block < wr.heap.size ∧ v.ownBlock ≠ some z.block)
    (hown : w7.ownsRow 0 66 3 (.slice (some ⟨g7, 0, none⟩) (t + 1) c7) (t + 1) (pcells P ad cp t ++ [.int .i64 ((P t).group : Int), .bool (P t).gap, .slice a (P t).data.length c]))
    (hgrow : (wr.alloc PT).grownBy w7 v.ownBlock) (hat : v.ownBlock = some g7 ∨ g7 = wr.heap.size + 1) :
    DuA S w w7 b tb A C P (.slice (some ⟨g7, 0, none⟩) (t + 1) c7) (t + 1) y (fun i => if i = t then a else ad i) (fun i => if i = t then c else cp i) := by
  have hW : Below wr.heap.size wr (wr.alloc PT) := (Below.refl _ wr).alloc (Nat.le_refl _) _
  have C7 : Chg (fun q => v.ownBlock = some q) wr w7 := ((below_chg hW).mono (fun _ q _ => q.elim)).grown hgrow (fun q hq _ => hq)
  have hs : wr.heap.size ≤ w7.heap.size := C7.size
  refine ⟨h.pts.more hW hown hgrow ?_ h.chg.size hr hm ha (fun i hi z hz => h.lta i hi z hz), h.ca.kept C7 (fun k hk q => by have := h.pts.ap k q; have := h.lt k hk; omega), h.lt, fun i hi z hz => ?_, h.chg.trans C7 (fun k hk hlt => ?_)⟩
  · rcases hat with q | q
    · exact .inl q
    · exact .inr (by rw [q]; simp)
  · by_cases e : i = t
    · simp only [if_pos e] at hz
      exact Nat.lt_of_lt_of_le (ha z hz).2.1 hs
    · simp only [if_neg e] at hz
      exact Nat.lt_of_lt_of_le (h.lta i (by omega) z hz) hs
  · have := h.pts.ap k hk; omega

theorem part_groupC (y : Col) : (partOf y).group = y.base := by unfold partOf; split <;> rfl

set_option maxRecDepth 100000 in
set_option maxHeartbeats 4000000 in
theorem cdue_in (b : Nat) (F : Nat → Prop) (x : Col) (w : World) (hc : Coll F w b x) :
    Calls Tryz.prog 30 #[.pointer (some ⟨b, 0, none⟩)] w fun e w' => ∃ v, e = .returned v ∧ PartsAt w.heap.size w' v (dueP x) ∧ Coll F w' b (dueC x) ∧ Chg F w w' := by
  obtain ⟨tb, A, C, h0⟩ := hc
  have HK1 := Hid.intro h0.ok.bounds.1
  have D0 : Hid (DuA F w w b tb A C (fun i => partOf (shiftN i x)) (.slice none 0 0) 0 (shiftN 0 x) (fun _ => none) (fun _ => 0)) :=
    ⟨PtsAt.start, h0, h0.lt, fun i hi => by omega, Chg.refl _ _⟩
  obtain ⟨iP, hiP, hzP0, hzP1, hzP2⟩ := info_parts info_partC
  clear h0
  go_enter Tryz.func30, Tryz.ntmps30
  go_wp2_with fail
  go_loopw [3] (fun v wr => ∃ (t : Nat) (ad : Nat → Option Addr) (cp : Nat → Nat), t ≤ dueM 4 x ∧ DuA F w wr b tb A C (fun i => partOf (shiftN i x)) v t (shiftN t x) ad cp) (fun v _ => 5 - lenC v)
  case atStart => exact ⟨0, fun _ => none, fun _ => 0, Nat.zero_le _, D0.out⟩
  case round =>
    clear D0
    obtain ⟨t, ad, cp, ht, hD⟩ := hrel
    have hm4 := dueM_le 4 x
    obtain ⟨ao, cv, rfl, _⟩ := ownsRow_form hD.pts.own
    obtain ⟨y, hy⟩ : ∃ y, y = shiftN t x := ⟨_, rfl⟩
    have HY := Hid.intro hy
    rw [← hy] at hD
    have HD := Hid.intro hD
    obtain ⟨o1, o2, o3⟩ := base_open hD.ca.ok
    have c3 := hD.ca.cells.2.2.2.1
    have FR := ready1_any (y.base : Int) o3 wr hD.ca
    rw [rdyG_open o1, o2] at FR
    have FRH := Hid.intro FR
    clear FR o1 o2 o3
    rcases hr : rdy y 0 with _ | _
    · have hte : t = dueM 4 x := by
        rcases Nat.lt_or_ge t (dueM 4 x) with q | q
        · have := dueM_rdy 4 x t q
          rw [← hy, hr] at this
          cases this
        · omega
      have HTE := Hid.intro hte
      rw [hr] at FRH
      clear hte hr hy hD ht
      go_wp2_with fail
      refine FRH.out.mono ?_
      rintro e w1 ⟨rfl, B1⟩
      have D1 := Hid.intro (HD.out.below B1)
      clear FRH HD B1 c3
      go_wp2
      go_ret
      refine ⟨_, rfl, ?_, ?_, D1.out.chg⟩
      · have := D1.out.pts.parts
        rw [HTE.out] at this
        rw [HTE.out]
        exact this
      · unfold dueC
        rw [← HTE.out, ← HY.out]
        exact ⟨_, _, _, D1.out.ca⟩
    · have hlt : t < dueM 4 x := by
        rcases Nat.lt_or_ge t (dueM 4 x) with q | q
        · exact q
        · have e1 : t = dueM 4 x := by omega
          have := dueC_base (x := x) HK1.out
          unfold dueC at this
          rw [← e1, ← hy, hr] at this
          cases this
      rw [hr] at FRH
      clear hr hy hD
      go_wp2_with fail
      refine FRH.out.mono ?_
      rintro e w1 ⟨rfl, B1⟩
      have D1 := HD.out.below B1
      have D1H := Hid.intro D1
      have d3 := D1.ca.cells.2.2.2.1
      have FP := Hid.intro (part_any w1 D1.ca)
      have D1S := Hid.intro (show w.heap.size ≤ w1.heap.size ∧ ∀ k, (Value.slice ao t cv).ownBlock = some k → k < w1.heap.size from ⟨D1.chg.size, fun k hk => (World.ownsRow.lt D1.pts.own k hk).2⟩)
      clear FRH HD B1 c3 D1
      go_wp2_with fail
      refine FP.out.mono ?_
      rintro e w2 ⟨v2, rfl, ⟨a2, q2, rfl, r2, m2, n2, l2⟩, B2⟩
      have D2 := D1H.out.below B2
      have HPT : Hid (partOf (shiftN t x) = partOf y) := by rw [HY.out]; rfl
      have D2H := Hid.intro D2
      have hgr := part_groupC y
      obtain ⟨pt, hpt⟩ : ∃ pt, pt = partOf y := ⟨_, rfl⟩
      rw [← hpt] at hgr r2 m2 l2 HPT ⊢
      clear hpt D1H FP d3 D2
      obtain ⟨pg, hpg⟩ : ∃ pg, pg = pt.group := ⟨_, rfl⟩
      obtain ⟨gp, hgp⟩ : ∃ gp, gp = pt.gap := ⟨_, rfl⟩
      obtain ⟨dl, hdl⟩ : ∃ dl, dl = pt.data.length := ⟨_, rfl⟩
      have HPG := Hid.intro hpg
      have HGP := Hid.intro hgp
      have HDL := Hid.intro hdl
      rw [← hpg, ← hgp, ← hdl]
      have R4 : Hid ((w2.alloc (.cells #[.int .i64 (pg : Int), .bool gp, .slice a2 dl q2] 66)).ownsRow 0 66 3 (.slice ao t cv) t (pcells (fun i => partOf (shiftN i x)) ad cp t)) := ownsRow_keep D2H.out.pts.own fun k hk => ((Below.refl _ w2).alloc (Nat.le_refl _) _).block k (World.ownsRow.lt D2H.out.pts.own k hk).2
      have NW4 : Hid (∀ j u, ([.int .i64 (pg : Int), .bool gp, .slice a2 dl q2] : List Value)[j]? = some u → (w2.alloc (.cells #[.int .i64 (pg : Int), .bool gp, .slice a2 dl q2] 66)).cell? ((⟨w2.heap.size, 0, none⟩ : Addr).add j) = some u) :=
        World.news_of_block (cs := #[.int .i64 (pg : Int), .bool gp, .slice a2 dl q2]) (t := 66) (fr := (0, 0)) (heap_alloc_new w2 _)
      have ONE4 : Hid (∀ u ∈ ([.int .i64 (pg : Int), .bool gp, .slice a2 dl q2] : List Value), u.oneCell' = true) := by simp [Hid, Value.oneCell']
      have hn2 : ∀ z, a2 = some z → w1.heap.size ≤ z.block := n2
      have hs1 := D1S.out
      have FIN4 : Hid (∀ (g7 c7 : Nat) (w7 : World), w7.ownsRow 0 66 3 (.slice (some ⟨g7, 0, none⟩) (t + 1) c7) (t + 1) (pcells (fun i => partOf (shiftN i x)) ad cp t ++ [.int .i64 (pg : Int), .bool gp, .slice a2 dl q2]) →
          (w2.alloc (.cells #[.int .i64 (pg : Int), .bool gp, .slice a2 dl q2] 66)).grownBy w7 (Value.slice ao t cv).ownBlock → ((Value.slice ao t cv).ownBlock = some g7 ∨ g7 = w2.heap.size + 1) →
          DuA F w w7 b tb A C (fun i => partOf (shiftN i x)) (.slice (some ⟨g7, 0, none⟩) (t + 1) c7) (t + 1) y (fun i => if i = t then a2 else ad i) (fun i => if i = t then q2 else cp i)) := fun g7 c7 w7 hown hgrow hat => by
        refine D2H.out.part (by rw [HPT.out]; exact r2) (by rw [HPT.out]; exact m2) (fun z hz => ?_) (by rw [HPT.out, ← HPG.out, ← HGP.out, ← HDL.out]; exact hown) hgrow hat
        have q1 := hn2 z hz
        refine ⟨by omega, ?_, fun q => by have := hs1.2 _ q; omega⟩
        by_cases h0 : 0 < pt.data.length
        · exact reads_lt (by rw [← hz]; exact r2) h0
        · rw [l2 (by omega)] at hz; cases hz
      clear hpg hgp hdl hgr r2 m2 n2 l2 hn2 hs1 B2
      go_wp2_with (refine wpList_append_lies _ (by rfl) _ _ _ (by rfl) 0 66 iP (.agg #[.int .i64 0, .bool false, .slice none 0 0]) 3 40 Tryz.underlying61 hiP hzP0 hzP1 hzP2 (by rfl) (by decide) (.slice ao t cv) t _ (by rfl) R4.out ⟨w2.heap.size, 0, none⟩ 1 1 [.int .i64 (pg : Int), .bool gp, .slice a2 dl q2] (by rfl) (by rfl) NW4.out ONE4.out (by decide) (by unfold maxLen; omega) (by omega) (Nat.zero_le _) (w2.heap.size + 1) (by simp) ?_; intro g7 c7 w7 hown hgrow hat hlt7; have D7 := Hid.intro (FIN4.out g7 c7 w7 hown hgrow hat); clear hown hgrow hat hlt7)
      refine (goOn_any w7 D7.out.ca).mono ?_
      rintro e w8 ⟨rfl, O8⟩
      have D8 := Hid.intro (D7.out.on O8)
      clear O8 D7 FIN4 R4 NW4 ONE4 D2H
      go_wp2
      go_roundw
      case rel => exact ⟨t + 1, _, _, by omega, by show DuA F w w8 b tb A C _ _ (t + 1) (Bt.shift (shiftN t x)) _ _; rw [← HY.out]; exact D8.out⟩
      case measure => simp [lenC]; omega

theorem cdue_any (b : Nat) (F : Nat → Prop) (x : Col) (w : World) (hc : Coll F w b x) :
    Calls Tryz.prog 30 #[.pointer (some ⟨b, 0, none⟩)] w fun e w' => ∃ v, e = .returned v ∧ PartsAt w.heap.size w' v (dueP x) ∧ ∃ F', Coll F' w' b (dueC x) ∧ Chg F w w' ∧ ∀ k, F' k → F k ∨ w.heap.size ≤ k :=
  (cdue_in b F x w hc).mono fun _ _ ⟨v, h1, h2, h3, h4⟩ => ⟨v, h1, h2, F, h3, h4, fun _ q => .inl q⟩

theorem cdue_nil (w : World) :
    Calls Tryz.prog 30 #[.pointer none] w fun e w' => ∃ ao cap, e = .returned (.slice ao 0 cap) ∧ Below w.heap.size w w' := by
  go_enter Tryz.func30, Tryz.ntmps30
  go_wp2
  go_ret
  exact ⟨_, _, rfl, Below.refl _ _⟩

end Go.Proofs.YthhggjakenalpaaGreatDoor

/- Package collect's calls, by the names that the laws' texts lean on: Coll, Left, cnew, cshard, cskip, cdue, cbase, cready, chave. -/
namespace Go.Proofs.YthhggjakenalpaaGreatDoor
set_option maxRecDepth 100000
open Go.RowKit
open Bt

theorem chave_nil (g : Int) (w : World) :
    Calls Tryz.prog 144 #[.pointer none, .int .i64 g] w fun e w' => e = .returned (.int .i64 0) ∧ Below w.heap.size w w' := by
  go_enter Tryz.func144, Tryz.ntmps144
  go_wp2
  go_ret
  exact ⟨rfl, Below.refl _ _⟩

theorem isI_nat {n : Nat} (h : n < 256) : isI (n : Int) := by unfold isI; omega

end Go.Proofs.YthhggjakenalpaaGreatDoor
