/- What every text leans on: numbers, blocks that stay, rows of bytes and of numbers; no function of the program is named here. -/
import Derived.Test.YthhggjakenalpaaGreatDoorRows
import Derived.Test.YthhggjakenalpaaGreatDoorMPlain
import Derived.WalkKit
import Derived.WalkSpells
import Derived.WalkLawsBesides
import Derived.Deep.QuietTactic
import Derived.BigQuiet
import Derived.Deep.AppendLies
import Derived.StillTailTactics
import Derived.Laws.CopyOwn
namespace Go.Proofs.YthhggjakenalpaaGreatDoor
set_option maxRecDepth 100000
open Go.RowKit
open Bt

theorem Hid.intro {p : Prop} (h : p) : Hid p := h

def isW (w : Int) : Bool := decide (1 ≤ w) && decide (w ≤ 32)

def isF (n w : Int) : Bool := isW w && (decide (0 ≤ n) && decide (n < 2 ^ w.toNat))

theorem isW_true {w : Int} (h : isW w = true) : 1 ≤ w ∧ w ≤ 32 := by simpa [isW] using h

theorem isW_false {w : Int} (h : isW w = false) : w < 1 ∨ 32 < w := by
  simp [isW] at h; omega

theorem ofInt_i64 (a : Nat) (ha : a < 2 ^ 63) : (BitVec.ofInt 64 (a : Int)).toNat = a := by
  rw [BitVec.ofInt_natCast, BitVec.toNat_ofNat]; exact Nat.mod_eq_of_lt (by omega)

theorem i64_and_nat (a b : Nat) (ha : a < 2 ^ 63) (hb : b < 2 ^ 63) : bits .and .i64 (a : Int) (b : Int) = ((a &&& b : Nat) : Int) := by
  have hx : a &&& b < 2 ^ 63 := Nat.and_lt_two_pow _ hb
  show IntKind.i64.wrap ((BitVec.ofInt 64 (a : Int) &&& BitVec.ofInt 64 (b : Int)).toNat : Int) = _
  rw [BitVec.toNat_and, ofInt_i64 a ha, ofInt_i64 b hb]
  exact IntWalk.i64_in _ (by omega)

theorem i64_or_nat (a b : Nat) (ha : a < 2 ^ 63) (hb : b < 2 ^ 63) : bits .or .i64 (a : Int) (b : Int) = ((a ||| b : Nat) : Int) := by
  have hx : a ||| b < 2 ^ 63 := Nat.or_lt_two_pow ha hb
  show IntKind.i64.wrap ((BitVec.ofInt 64 (a : Int) ||| BitVec.ofInt 64 (b : Int)).toNat : Int) = _
  rw [BitVec.toNat_or, ofInt_i64 a ha, ofInt_i64 b hb]
  exact IntWalk.i64_in _ (by omega)

/-- A shifted number's last bit. -/
theorem and_bit (n j : Nat) (hn : n < 2 ^ 63) : bits .and .i64 ((n : Int) / 2 ^ j) 1 = ((n / 2 ^ j % 2 : Nat) : Int) := by
  have e : ((n : Int) / 2 ^ j) = ((n / 2 ^ j : Nat) : Int) := by simp
  have hlt : n / 2 ^ j < 2 ^ 63 := Nat.lt_of_le_of_lt (Nat.div_le_self _ _) hn
  have h := i64_and_nat (n / 2 ^ j) 1 hlt (by decide)
  rw [Nat.and_one_is_mod] at h
  rw [e]; exact h

/-- A bit more behind a number. -/
theorem or_bit (n b : Nat) (hn : n < 2 ^ 62) (hb : b < 2) : bits .or .i64 (((2 * n : Nat) : Int)) (b : Int) = ((2 * n + b : Nat) : Int) := by
  rw [i64_or_nat _ _ (by omega) (by omega)]
  have := Nat.two_pow_add_eq_or_of_lt (i := 1) (b := b) (by omega) n
  simp at this
  rw [← this]

theorem ret_int {k : IntKind} {a b : Int} (h : a = b) : Ending.returned (.int k a) = .returned (.int k b) := by rw [h]

theorem ret_bool {a b : Bool} (h : a = b) : Ending.returned (.bool a) = .returned (.bool b) := by rw [h]

theorem isF_eq {n m : Int} (h : isW m = true) (h0 : 0 ≤ n) : isF n m = (n / 2 ^ m.toNat == 0) := by
  have hp : (0 : Int) < 2 ^ m.toNat := Int.pow_pos (by decide)
  rw [Bool.eq_iff_iff]
  simp only [isF, h, Bool.true_and, Bool.and_eq_true, decide_eq_true_eq, beq_iff_eq]
  constructor
  · rintro ⟨_, h2⟩; exact Int.ediv_eq_zero_of_lt h0 h2
  · intro e
    refine ⟨h0, ?_⟩
    have := Int.lt_mul_of_ediv_lt hp (a := n) (b := 1) (by rw [e]; decide)
    simpa using this

/-- But for the blocks in S, and new ones, w' is as w was. -/
structure Chg (S : Nat → Prop) (w w' : World) : Prop where
  os : w'.os = w.os
  tape : w'.tape = w.tape
  output : w'.output = w.output
  size : w.heap.size ≤ w'.heap.size
  block : ∀ k, k < w.heap.size → ¬ S k → w'.heap[k]? = w.heap[k]?

theorem Chg.refl (S : Nat → Prop) (w : World) : Chg S w w := ⟨rfl, rfl, rfl, Nat.le_refl _, fun _ _ _ => rfl⟩

theorem Chg.trans {S T : Nat → Prop} {a b c : World} (h : Chg S a b) (k : Chg T b c) (hS : ∀ i, T i → i < a.heap.size → S i) : Chg S a c :=
  ⟨k.os.trans h.os, k.tape.trans h.tape, k.output.trans h.output, Nat.le_trans h.size k.size,
    fun i hi hn => (k.block i (Nat.lt_of_lt_of_le hi h.size) (fun t => hn (hS i t hi))).trans (h.block i hi hn)⟩

theorem Chg.mono {S T : Nat → Prop} {a b : World} (h : Chg S a b) (hS : ∀ i, S i → i < a.heap.size → T i) : Chg T a b :=
  (Chg.refl T a).trans h hS

theorem Chg.drew {S : Nat → Prop} {a w : World} (h : Chg S a w) : Chg S a w.drew := ⟨h.os, h.tape, h.output, h.size, h.block⟩

theorem Chg.drewN {S : Nat → Prop} {a w : World} (h : Chg S a w) (n : Nat) : Chg S a (w.drewN n) := ⟨h.os, h.tape, h.output, h.size, h.block⟩

theorem Chg.alloc {S : Nat → Prop} {a w : World} (h : Chg S a w) (o : Obj) : Chg S a (w.alloc o) :=
  h.trans (T := fun _ => False) ⟨rfl, rfl, rfl, by simp, fun k hk _ => Below.heap_alloc _ _ _ hk⟩ (fun _ f _ => f.elim)

theorem Chg.setCell {S : Nat → Prop} {a w : World} (h : Chg S a w) {p : Addr} (hp : p.block < a.heap.size → S p.block) (u : Value) : Chg S a (w.setCell p u) :=
  h.trans (T := fun k => k = p.block) ⟨rfl, rfl, rfl, by simp, fun k _ hk => Below.heap_setCell _ _ _ _ hk⟩ (fun i e hi => by subst e; exact hp hi)

theorem Chg.grown {S : Nat → Prop} {a w w' : World} {row : Option Nat} (h : Chg S a w) (hg : w.grownBy w' row) (hr : ∀ k, row = some k → k < a.heap.size → S k) : Chg S a w' :=
  h.trans (T := fun k => row = some k) ⟨hg.os, hg.tape, hg.output, hg.size, fun k hk hn => hg.block k hk (fun e => hn e.symm)⟩ hr

theorem Chg.below {S : Nat → Prop} {B : Nat} {w w' : World} (h : Chg S w w') (hB : B ≤ w.heap.size) (hS : ∀ k, S k → B ≤ k) : Below B w w' :=
  ⟨h.os, h.tape, h.output, h.size, fun k hk => h.block k (by omega) (fun s => by have := hS k s; omega)⟩

theorem lt_of_heap {w : World} {k : Nat} {o : Obj} (h : w.heap[k]? = some o) : k < w.heap.size := by
  rcases Nat.lt_or_ge k w.heap.size with hlt | hge
  · exact hlt
  · rw [Array.getElem?_eq_none hge] at h; cases h

/-- A row of cells that stays. -/
theorem ownsRow_of_block {w w' : World} {e : TypeId} {v : Value} {n : Nat} {xs : List Value} (h : w.ownsRow 0 e 1 v n xs)
    (hk : ∀ k, v.ownBlock = some k → w'.heap[k]? = w.heap[k]?) : w'.ownsRow 0 e 1 v n xs := by
  obtain ⟨h1, h2⟩ := h
  refine ⟨h1, ?_⟩
  rcases h2 with h2 | ⟨g, cap, cur, hv, hg, hh, r⟩
  · exact .inl h2
  · exact .inr ⟨g, cap, cur, hv, hg, by rw [hk g (by rw [hv]; rfl)]; exact hh, r⟩

theorem ownsRow_lt {w : World} {e : TypeId} {v : Value} {n : Nat} {xs : List Value} (h : w.ownsRow 0 e 1 v n xs) {k : Nat} (hk : v.ownBlock = some k) : k < w.heap.size :=
  (World.ownsRow.lt h k hk).2

/-- A byte as a value. -/
abbrev U (b : Nat) : Value := .int .u8 (b : Int)

theorem info_u8 : (Tryz.prog.info? 5).map (fun i => (i.zero, i.size, i.bytes)) = some (some (.int .u8 0), 1, 1) := by kernel_rfl

/-- The bits that Put writes. -/
def putB (n m : Int) : List Nat := if isF n m = true then fld m.toNat n.toNat else []

theorem isF_bounds {n m : Int} (h : isF n m = true) : 1 ≤ m ∧ m ≤ 32 ∧ 0 ≤ n ∧ n < 2 ^ m.toNat := by
  simp only [isF, Bool.and_eq_true, decide_eq_true_eq] at h
  obtain ⟨h1, h2, h3⟩ := h
  have := isW_true h1
  exact ⟨this.1, this.2, h2, h3⟩

theorem isF_nat {N M : Nat} (h1 : 1 ≤ M) (h2 : M ≤ 32) (h : N < 2 ^ M) : isF (N : Int) (M : Int) = true := by
  have h3 : (N : Int) < 2 ^ M := by exact_mod_cast h
  have h0 : 0 ≤ (N : Int) := Int.natCast_nonneg _
  have a1 : (1 : Int) ≤ M := by omega
  have a2 : (M : Int) ≤ 32 := by omega
  simp only [isF, isW, Int.toNat_natCast, h3, h0, a1, a2, decide_true, Bool.and_true]

theorem putB_length (n m : Int) : (putB n m).length ≤ 32 := by
  unfold putB
  split
  · rename_i h; have := isF_bounds h; rw [fld_length]; omega
  · simp

/-- A slice that begins at ao reads as the bytes bs. -/
def Reads (w : World) (ao : Option Addr) (bs : List Nat) : Prop :=
  0 < bs.length → ∃ ad, ao = some ad ∧ ∀ j u, (bs.map U)[j]? = some u → w.cell? (ad.add j) = some u

/-- A block that is a row of bytes, and nothing else. -/
def RowIs (w : World) (g : Nat) (bs : List Nat) : Prop := w.heap[g]? = some (.cells (bs.map U).toArray 5 (0, 0))

theorem cell_lt {w : World} {a : Addr} {v : Value} (h : w.cell? a = some v) : a.block < w.heap.size := World.block_lt_of_cell? w a h

theorem cell_chg {S : Nat → Prop} {w w' : World} (h : Chg S w w') {a : Addr} {v : Value} (hc : w.cell? a = some v) (hn : ¬ S a.block) : w'.cell? a = some v :=
  (World.cell?_of_block (h.block a.block (cell_lt hc) hn)).trans hc

theorem add_block (a : Addr) (j : Nat) : (a.add j).block = a.block := by unfold Addr.add; split <;> rfl

/-- What reads so still does where its block has stayed. -/
theorem Reads.kept {S : Nat → Prop} {w w' : World} {ao : Option Addr} {bs : List Nat} (h : Reads w ao bs) (hc : Chg S w w') (hS : ∀ ad, ao = some ad → ¬ S ad.block) : Reads w' ao bs := by
  intro h0
  obtain ⟨ad, ha, hr⟩ := h h0
  exact ⟨ad, ha, fun j u hu => cell_chg hc (hr j u hu) (by rw [add_block]; exact hS ad ha)⟩

theorem Reads.below {w w' : World} {ao : Option Addr} {bs : List Nat} (h : Reads w ao bs) (hb : Below w.heap.size w w') : Reads w' ao bs := by
  intro h0
  obtain ⟨ad, ha, hr⟩ := h h0
  exact ⟨ad, ha, fun j u hu => (hb.cell (cell_lt (hr j u hu))).trans (hr j u hu)⟩

theorem RowIs.reads {w : World} {g : Nat} {bs : List Nat} (h : RowIs w g bs) : Reads w (some ⟨g, 0, none⟩) bs := fun _ =>
  ⟨_, rfl, World.news_of_block (cs := (bs.map U).toArray) h⟩

theorem RowIs.kept {S : Nat → Prop} {w w' : World} {g : Nat} {bs : List Nat} (h : RowIs w g bs) (hc : Chg S w w') (hS : ¬ S g) : RowIs w' g bs := by
  unfold RowIs; rw [hc.block g (lt_of_heap h) hS]; exact h

theorem RowIs.lt {w : World} {g : Nat} {bs : List Nat} (h : RowIs w g bs) : g < w.heap.size := lt_of_heap h

theorem row_of_owns {w : World} {v : Value} {bs : List Nat} (h : w.ownsRow 0 5 1 v bs.length (bs.map U)) : ∃ ao cap, v = .slice ao bs.length cap ∧ Reads w ao bs ∧ ∀ ad, ao = some ad → v.ownBlock = some ad.block := by
  rcases h.2 with ⟨hv, h0⟩ | ⟨g, cap, cur, hv, _, _⟩
  · exact ⟨none, 0, by rw [h0]; exact hv, fun hp => by omega, fun ad e => by cases e⟩
  · refine ⟨some ⟨g, 0, none⟩, cap, hv, fun _ => ⟨_, rfl, fun j u hu => ?_⟩, fun ad e => by cases e; rw [hv]; rfl⟩
    have hj : j < bs.length := by
      have := (List.getElem?_eq_some_iff.1 hu).1; simpa using this
    have hadd : (⟨g, 0, none⟩ : Addr).add j = ⟨g, j, none⟩ := by unfold Addr.add; split <;> simp_all
    rw [hadd]
    rw [hv] at h
    rw [h.cellAt j (by omega)]; exact hu

theorem below_chg {w w' : World} (h : Below w.heap.size w w') : Chg (fun _ => False) w w' := ⟨h.os, h.tape, h.output, h.size, fun k hk _ => h.block k hk⟩

theorem splice_all {α : Type} (L cs : List α) (h : L.length = cs.length) : splice L 0 cs = cs := by
  simp [splice, h ▸ List.drop_length]

theorem reads_at {w : World} {ao : Option Addr} {bs : List Nat} (h : Reads w ao bs) (h0 : 0 < bs.length) :
    ∃ b off, ao = some ⟨b, off, none⟩ ∧ ∀ j, (hj : j < bs.length) → w.cell? ⟨b, off + j, none⟩ = some (U bs[j]) := by
  obtain ⟨⟨b, off, spot⟩, ha, hc⟩ := h h0
  have h1 := hc 0 (U bs[0]) (by simp [h0])
  have hs : spot = none := by simpa [Addr.add] using World.cell?_spot h1
  subst hs
  refine ⟨b, off, ha, fun j hj => ?_⟩
  have h2 := hc j (U bs[j]) (by simp [hj])
  by_cases e : j = 0
  · subst e; simpa [Addr.add] using h2
  · simpa [Addr.add, e] using h2

theorem take_snoc {α : Type} (L : List α) (k : Nat) (h : k < L.length) : L.take (k + 1) = L.take k ++ [L[k]] := List.take_succ_eq_append_getElem h

/-- Rows of different kinds are different blocks. -/
theorem rows_apart {w : World} {e1 e2 : TypeId} {s1 s2 : Nat} {v1 v2 : Value} {n1 n2 : Nat} {x1 x2 : List Value} (h1 : w.ownsRow 0 e1 s1 v1 n1 x1) (h2 : w.ownsRow 0 e2 s2 v2 n2 x2) (hne : e1 ≠ e2) (k : Nat) (a : v1.ownBlock = some k) (b : v2.ownBlock = some k) : False := by
  rcases h1.2 with ⟨hv, _⟩ | ⟨g1, _, _, hv1, _, hh1, _⟩
  · rw [hv] at a; cases a
  · rcases h2.2 with ⟨hv, _⟩ | ⟨g2, _, _, hv2, _, hh2, _⟩
    · rw [hv] at b; cases b
    · rw [hv1] at a
      rw [hv2] at b
      have a' : g1 = k := by simpa [Value.ownBlock] using a
      have b' : g2 = k := by simpa [Value.ownBlock] using b
      subst a'
      subst b'
      rw [hh1] at hh2
      simp only [Option.some.injEq, Obj.cells.injEq] at hh2
      exact hne hh2.2.1

theorem row_not_block {w : World} {e t : TypeId} {s : Nat} {v : Value} {n : Nat} {x : List Value} {pb : Nat} {c : Array Value} (h1 : w.ownsRow 0 e s v n x) (h2 : w.heap[pb]? = some (.cells c t (0, 0))) (hne : e ≠ t) : v.ownBlock ≠ some pb := by
  intro a
  rcases h1.2 with ⟨hv, _⟩ | ⟨g1, _, _, hv1, _, hh1, _⟩
  · rw [hv] at a; cases a
  · rw [hv1] at a
    have a' : g1 = pb := by simpa [Value.ownBlock] using a
    subst a'
    rw [hh1] at h2
    simp only [Option.some.injEq, Obj.cells.injEq] at h2
    exact hne h2.2.1

theorem ownsRow_keep {w w' : World} {e : TypeId} {s : Nat} {v : Value} {n : Nat} {xs : List Value} (h : w.ownsRow 0 e s v n xs)
    (hk : ∀ k, v.ownBlock = some k → w'.heap[k]? = w.heap[k]?) : w'.ownsRow 0 e s v n xs := by
  obtain ⟨h1, h2⟩ := h
  refine ⟨h1, ?_⟩
  rcases h2 with h2 | ⟨g, cap, cur, hv, hg, hh, r⟩
  · exact .inl h2
  · exact .inr ⟨g, cap, cur, hv, hg, by rw [hk g (by rw [hv]; rfl)]; exact hh, r⟩

/-- What a slice looks like that owns its row. -/
theorem ownsRow_form {w : World} {e : TypeId} {s : Nat} {v : Value} {n : Nat} {xs : List Value} (h : w.ownsRow 0 e s v n xs) : ∃ ao cap, v = .slice ao n cap ∧ (n = 0 ∨ ∃ g, ao = some ⟨g, 0, none⟩) := by
  rcases h.2 with ⟨hv, h0⟩ | ⟨g, cap, _, hv, _⟩
  · exact ⟨none, 0, by rw [h0]; exact hv, .inl h0⟩
  · exact ⟨some ⟨g, 0, none⟩, cap, hv, .inr ⟨g, rfl⟩⟩

theorem info_int : (Tryz.prog.info? 3).map (fun i => (i.zero, i.size, i.bytes)) = some (some (.int .i64 0), 1, 8) := by kernel_rfl

/-- A bit as a number of the list. -/
abbrev I (b : Nat) : Value := .int .i64 (b : Int)

theorem nil_own (B : Nat) : ∀ j, (Value.slice none 0 0).ownBlock = some j → B ≤ j := fun _ h => by cases h

end Go.Proofs.YthhggjakenalpaaGreatDoor
