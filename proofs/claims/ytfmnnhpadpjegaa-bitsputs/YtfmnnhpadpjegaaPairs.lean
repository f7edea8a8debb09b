/- Pairs of numbers that came in, and plain lemmas on the fields that they are. -/
import Derived.Test.YtfmnnhpadpjegaaArgs
import Derived.Test.YtfmnnhpadpjegaaOrder0
import Derived.Deep.SlicePairs
namespace Go.Proofs.Ytfmnnhpadpjegaa
open Go.ChangeShapes Go.WideShapes Go.ChangeAt Go.RowKit
open Bt

/-- A slice of pairs that came in. -/
def PairsIn (w : World) (ao : Option Addr) (prs : List (Int × Int)) : Prop :=
  0 < prs.length → ∃ b off, ao = some ⟨b, off, none⟩ ∧ ∀ i, (hi : i < prs.length) → w.cell? ⟨b, off + i * 2, none⟩ = some (.int .i64 prs[i].1) ∧ w.cell? ⟨b, off + i * 2 + 1, none⟩ = some (.int .i64 prs[i].2)

theorem pairs_in {H : Type} {enc : TypeId × Value → H} {W : World} {base : Nat} {spare : Nat → Bool} {held : Bool} {fuel : Nat} {ao : Option Addr} {len cap : Nat} {x : DataW H × List MemPlace}
    (h : DataW.trod enc Try.prog W base spare held fuel 22 [.slice ao len cap] = some x) :
    len ≤ maxLen ∧ ∃ prs : List (Int × Int), prs.length = len ∧ PairsIn W ao prs := by
  rcases Deep.open_slice_pairs (e := 35) Try.underlying22 Try.underlying35 (by kernel_rfl) rfl rfl (by kernel_rfl) (by kernel_rfl) h with ⟨h0, _⟩ | ⟨a, l, c, m, n, V0, V1, D0, D1, P0, P1, h0, _, hl, hm, hmm, _, hx⟩
  · simp only [List.cons.injEq, Value.slice.injEq, and_true] at h0
    obtain ⟨rfl, rfl, rfl⟩ := h0
    exact ⟨Nat.zero_le _, [], rfl, fun h => absurd h (by simp)⟩
  · simp only [List.cons.injEq, Value.slice.injEq, and_true] at h0
    obtain ⟨rfl, rfl, rfl⟩ := h0
    have hlm : len ≤ m := by rw [hmm]; split <;> omega
    have v0 : ∀ i, i < m → V0 i = .int .i64 (intOf (V0 i)) := by
      intro i hi
      obtain ⟨z, e, _⟩ := DataW.trod_int Try.underlying3 (hx i hi).2.2.1
      simp only [List.cons.injEq, and_true] at e
      rw [e]; rfl
    have v1 : ∀ i, i < m → V1 i = .int .i64 (intOf (V1 i)) := by
      intro i hi
      obtain ⟨z, e, _⟩ := DataW.trod_int Try.underlying3 (hx i hi).2.2.2
      simp only [List.cons.injEq, and_true] at e
      rw [e]; rfl
    refine ⟨by omega, (List.range len).map (fun i => (intOf (V0 i), intOf (V1 i))), by simp, ?_⟩
    intro h0
    simp only [List.length_map, List.length_range] at h0
    obtain ⟨b, off, spot⟩ := a
    have c0 := (hx 0 (by omega)).1
    have hs : spot = none := by simpa [Addr.add] using World.cell?_spot c0
    subst hs
    refine ⟨b, off, rfl, fun i hi => ?_⟩
    simp only [List.length_map, List.length_range] at hi
    have c1 := (hx i (by omega)).1
    have c2 := (hx i (by omega)).2.1
    rw [v0 i (by omega)] at c1
    rw [v1 i (by omega)] at c2
    rw [WideShapes.add_plain] at c1 c2
    simp only [List.getElem_map, List.getElem_range]
    exact ⟨c1, by rw [Nat.add_assoc]; exact c2⟩

/-- The pairs that are fields. -/
def hadP (L : List (Int × Int)) : List (Int × Int) := L.filter fun p => isF p.1 p.2
/-- Their bits. -/
def bitsP (L : List (Int × Int)) : List Nat := L.flatMap fun p => putB p.1 p.2
/-- Their cells. -/
def cellsP (L : List (Int × Int)) : List Value := L.flatMap fun p => [.int .i64 p.1, .int .i64 p.2]

theorem bitsP_snoc (L : List (Int × Int)) (p : Int × Int) : bitsP (L ++ [p]) = bitsP L ++ putB p.1 p.2 := by simp [bitsP]
theorem hadP_yes (L : List (Int × Int)) (p : Int × Int) (h : isF p.1 p.2 = true) : hadP (L ++ [p]) = hadP L ++ [p] := by simp [hadP, h]
theorem hadP_no (L : List (Int × Int)) (p : Int × Int) (h : isF p.1 p.2 = false) : hadP (L ++ [p]) = hadP L := by simp [hadP, h]
theorem cellsP_snoc (L : List (Int × Int)) (p : Int × Int) : cellsP (L ++ [p]) = cellsP L ++ [.int .i64 p.1, .int .i64 p.2] := by simp [cellsP]
theorem cellsP_length (L : List (Int × Int)) : (cellsP L).length = L.length * 2 := by
  induction L with
  | nil => rfl
  | cons x xs ih => simp only [cellsP, List.flatMap_cons, List.length_append, List.length_cons, List.length_nil] at *; omega

theorem bitsP_had (L : List (Int × Int)) : bitsP L = bitsP (hadP L) := by
  induction L with
  | nil => rfl
  | cons p L ih =>
    cases h : isF p.1 p.2 with
    | true => simp only [bitsP, hadP, List.flatMap_cons, List.filter_cons, h, if_true] at *; rw [ih]
    | false =>
      have : putB p.1 p.2 = [] := by simp [putB, h]
      simp only [bitsP, hadP, List.flatMap_cons, List.filter_cons, h, this, List.nil_append] at *
      rw [ih]; rfl

theorem hadP_length (L : List (Int × Int)) : (hadP L).length ≤ L.length := List.length_filter_le _ _
theorem hadP_all (L : List (Int × Int)) : ∀ p ∈ hadP L, isF p.1 p.2 = true := fun _ h => (List.mem_filter.1 h).2

theorem bitsP_length (L : List (Int × Int)) : (bitsP L).length ≤ 32 * L.length := by
  induction L with
  | nil => simp [bitsP]
  | cons p L ih =>
    have := putB_length p.1 p.2
    simp only [bitsP, List.flatMap_cons, List.length_append, List.length_cons] at *
    omega

theorem cellsP_get (L : List (Int × Int)) (i : Nat) (h : i < L.length) : (cellsP L)[i * 2]? = some (.int .i64 L[i].1) ∧ (cellsP L)[i * 2 + 1]? = some (.int .i64 L[i].2) := by
  induction L generalizing i with
  | nil => simp at h
  | cons p L ih =>
    match i with
    | 0 => simp [cellsP]
    | i + 1 =>
      have := ih i (by simpa using h)
      have e1 : (i + 1) * 2 = i * 2 + 1 + 1 := by omega
      simp only [cellsP, List.flatMap_cons] at this ⊢
      rw [e1]
      simpa using this

theorem take_snoc {α : Type} (L : List α) (k : Nat) (h : k < L.length) : L.take (k + 1) = L.take k ++ [L[k]] := List.take_succ_eq_append_getElem h

/-- What was put is read again. -/
theorem read_back (H : List (Int × Int)) (hall : ∀ p ∈ H, isF p.1 p.2 = true) (hb : Bits (bitsP H)) (i : Nat) (hi : i < H.length) :
    getOk (pack (bitsP H)) (bitsP (H.take i)).length H[i].2 = true ∧ ((getN (pack (bitsP H)) (bitsP (H.take i)).length H[i].2 : Nat) : Int) = H[i].1 ∧
      getP (pack (bitsP H)) (bitsP (H.take i)).length H[i].2 = (bitsP (H.take (i + 1))).length := by
  have hF := hall H[i] (List.getElem_mem hi)
  obtain ⟨h1, h2, h3, h4⟩ := isF_bounds hF
  have e : bitsP H = bitsP (H.take i) ++ (putB H[i].1 H[i].2 ++ bitsP (H.drop (i + 1))) := by
    have e0 : ∀ a b, bitsP (a ++ b) = bitsP a ++ bitsP b := fun a b => by simp [bitsP]
    have e1 : ∀ p b, bitsP (p :: b) = putB p.1 p.2 ++ bitsP b := fun p b => by simp [bitsP]
    rw [← e1, ← e0]; simp
  have hp : putB H[i].1 H[i].2 = fld H[i].2.toNat H[i].1.toNat := by simp [putB, hF]
  have hpl := pack_length (bitsP H)
  have hlen : (bitsP H).length = (bitsP (H.take i)).length + (H[i].2.toNat + (bitsP (H.drop (i + 1))).length) := by
    conv => lhs; rw [e]
    simp [hp, fld_length]
  have ok : getOk (pack (bitsP H)) (bitsP (H.take i)).length H[i].2 = true := by
    simp only [getOk, isW, h1, h2, decide_true, Bool.true_and, decide_eq_true_eq]
    omega
  refine ⟨ok, ?_, ?_⟩
  · simp only [getN, ok, if_true]
    have e2 : ((unpack (pack (bitsP H))).drop (bitsP (H.take i)).length).take H[i].2.toNat = fld H[i].2.toNat H[i].1.toNat := by
      rw [unpack_pack _ hb]
      conv => lhs; rw [e]
      rw [List.append_assoc, List.drop_append_of_le_length (Nat.le_refl _), List.drop_length, List.nil_append, hp, List.append_assoc, List.take_append_of_le_length (by rw [fld_length]; exact Nat.le_refl _)]
      exact List.take_of_length_le (by rw [fld_length]; exact Nat.le_refl _)
    rw [e2, num_fld]
    have h5 : H[i].1.toNat < 2 ^ H[i].2.toNat := by
      have : ((H[i].1.toNat : Nat) : Int) < ((2 ^ H[i].2.toNat : Nat) : Int) := by rw [Int.toNat_of_nonneg h3]; simpa using h4
      exact_mod_cast this
    rw [Nat.mod_eq_of_lt h5, Int.toNat_of_nonneg h3]
  · simp only [getP, ok, if_true]
    rw [take_snoc H i hi, bitsP_snoc, hp]
    simp [fld_length]

/-- Rows of different kinds are different blocks. -/
theorem rows_apart {w : World} {e1 e2 : TypeId} {s1 s2 : Nat} {v1 v2 : Value} {n1 n2 : Nat} {x1 x2 : List Value} (h1 : w.ownsRow 0 e1 s1 v1 n1 x1) (h2 : w.ownsRow 0 e2 s2 v2 n2 x2) (hne : e1 ≠ e2) (k : Nat) (a : v1.ownBlock = some k) (b : v2.ownBlock = some k) : False := by
  rcases h1.2 with ⟨hv, _⟩ | ⟨g1, _, _, hv1, _, hh1, _⟩
  · rw [hv] at a; cases a
  · rcases h2.2 with ⟨hv, _⟩ | ⟨g2, _, _, hv2, _, hh2, _⟩
    · rw [hv] at b; cases b
    · rw [hv1] at a
      rw [hv2] at b
      have a' : g1 = k := by simpa [Value.ownBlock] using a
      have b' : g2 = k := by simpa [Value.ownBlock] using b
      subst a'
      subst b'
      rw [hh1] at hh2
      simp only [Option.some.injEq, Obj.cells.injEq] at hh2
      exact hne hh2.2.1

theorem row_not_block {w : World} {e t : TypeId} {s : Nat} {v : Value} {n : Nat} {x : List Value} {pb : Nat} {c : Array Value} (h1 : w.ownsRow 0 e s v n x) (h2 : w.heap[pb]? = some (.cells c t (0, 0))) (hne : e ≠ t) : v.ownBlock ≠ some pb := by
  intro a
  rcases h1.2 with ⟨hv, _⟩ | ⟨g1, _, _, hv1, _, hh1, _⟩
  · rw [hv] at a; cases a
  · rw [hv1] at a
    have a' : g1 = pb := by simpa [Value.ownBlock] using a
    subst a'
    rw [hh1] at h2
    simp only [Option.some.injEq, Obj.cells.injEq] at h2
    exact hne h2.2.1

theorem ownsRow_keep {w w' : World} {e : TypeId} {s : Nat} {v : Value} {n : Nat} {xs : List Value} (h : w.ownsRow 0 e s v n xs)
    (hk : ∀ k, v.ownBlock = some k → w'.heap[k]? = w.heap[k]?) : w'.ownsRow 0 e s v n xs := by
  obtain ⟨h1, h2⟩ := h
  refine ⟨h1, ?_⟩
  rcases h2 with h2 | ⟨g, cap, cur, hv, hg, hh, r⟩
  · exact .inl h2
  · exact .inr ⟨g, cap, cur, hv, hg, by rw [hk g (by rw [hv]; rfl)]; exact hh, r⟩

/-- A pen and an eye have no block in common that Get writes. -/
theorem eye_pen {w : World} {eb g : Nat} {bs : List Nat} {pos pb : Nat} {v : Value} {l : List Nat} (E : EyeAt w eb g bs pos) (P : PenAt w pb v l) : ∀ k, penFoot pb v k → ¬ k = eb := by
  intro k hk e
  rcases hk with hk | hk
  · have h1 := P.here
    rw [← hk, e, E.here] at h1
    simp at h1
  · exact row_not_block P.row E.here (by decide) (by rw [hk, e])

/-- What a slice looks like that owns its row. -/
theorem ownsRow_form {w : World} {e : TypeId} {s : Nat} {v : Value} {n : Nat} {xs : List Value} (h : w.ownsRow 0 e s v n xs) : ∃ ao cap, v = .slice ao n cap ∧ (n = 0 ∨ ∃ g, ao = some ⟨g, 0, none⟩) := by
  rcases h.2 with ⟨hv, h0⟩ | ⟨g, cap, _, hv, _⟩
  · exact ⟨none, 0, by rw [h0]; exact hv, .inl h0⟩
  · exact ⟨some ⟨g, 0, none⟩, cap, hv, .inr ⟨g, rfl⟩⟩

end Go.Proofs.Ytfmnnhpadpjegaa
