/- Bytes appended to a row of bytes of one's own: whatever bytes, none too. -/
import Derived.Test.YthhggjakenalpaaGreatDoorBase
import Derived.Laws.AppendOwnNone
namespace Go.Proofs.YthhggjakenalpaaGreatDoor
set_option maxRecDepth 100000
open Go.RowKit

theorem news_reads {w : World} {ad : Addr} {ms : List Nat} (h : Reads w (some ad) ms) : ∀ j u, (ms.map U)[j]? = some u → w.cell? (ad.add j) = some u := by
  intro j u hu
  have hj : 0 < ms.length := by
    have := (List.getElem?_eq_some_iff.1 hu).1
    simp at this
    omega
  obtain ⟨ad', e, hc⟩ := h hj
  cases e
  exact hc j u hu

theorem bytes_one (ms : List Nat) : ∀ u ∈ ms.map U, u.oneCell' = true := by
  intro u hu
  obtain ⟨q, _, rfl⟩ := List.mem_map.1 hu
  rfl

theorem append_bytes {w : World} {ops : Array Oper} {rest : List Oper} {o : Oper} {a : Act} {Q : Exit → Act → World → Prop} (hgd : o.guard = none) (s x : Operand)
    (ho : o.op = .call { callee := .builtin .append, args := #[s, x], argTypes := #[42, 42] })
    (v : Value) (bs : List Nat) (hs : a.eval s = v) (hown : w.ownsRow 0 5 1 v bs.length (bs.map U))
    (ao : Option Addr) (m c : Nat) (ms : List Nat) (hm : m = ms.length) (hx : a.eval x = .slice ao m c) (hr : Reads w ao ms) (hn : ao = none → c = 0)
    (hb : bs.length + ms.length ≤ 1000000)
    (h : ∀ v' w', w'.ownsRow 0 5 1 v' (bs ++ ms).length ((bs ++ ms).map U) → w.grownBy w' v.ownBlock → (v'.ownBlock = v.ownBlock ∨ v'.ownBlock = some w.heap.size) → wpList Tryz.prog ops Q rest (a.put o.dst v') w') :
    wpList Tryz.prog ops Q (o :: rest) a w := by
  obtain ⟨i, hi, hz0, hz1, hz2⟩ := info_parts info_u8
  subst hm
  match ao, hx, hr, hn with
  | none, hx, hr, hn =>
    have h0 : ms.length = 0 := by
      rcases Nat.eq_zero_or_pos ms.length with h | h
      · exact h
      · obtain ⟨ad, e, _⟩ := hr h
        cases e
    obtain rfl : ms = [] := List.eq_nil_of_length_eq_zero h0
    rw [hn rfl] at hx
    refine wpList_append_own_none hgd s x 42 ho 0 5 i 1 Tryz.underlying42 hi v bs.length (bs.map U) hs hown hx ?_
    refine h v w (by simpa using hown) ⟨rfl, rfl, rfl, Nat.le_refl _, fun _ _ _ => rfl⟩ (.inl rfl)
  | some ad, hx, hr, _ =>
    refine wpList_append_own_at w hgd s x 42 ho 0 5 i (.int .u8 0) 1 1 Tryz.underlying42 hi hz0 hz1 hz2 rfl (by decide) v bs.length (bs.map U) hs hown ad ms.length c (ms.map U) hx (by simp) (news_reads hr) (bytes_one ms) (by unfold maxLen; omega) (by omega) (Nat.zero_le _) ?_
    intro v' w' h1 h2 _ h4
    exact h v' w' (by rw [List.length_append, List.map_append]; exact h1) h2 h4

theorem ofInt_u8 (a : Nat) (ha : a < 256) : (BitVec.ofInt 8 (a : Int)).toNat = a := by
  rw [BitVec.ofInt_natCast, BitVec.toNat_ofNat]; exact Nat.mod_eq_of_lt (by omega)

theorem u8_or_nat (a b : Nat) (ha : a < 256) (hb : b < 256) : bits .or .u8 (a : Int) (b : Int) = ((a ||| b : Nat) : Int) := by
  have hx : a ||| b < 2 ^ 8 := Nat.or_lt_two_pow ha hb
  show IntKind.u8.wrap ((BitVec.ofInt 8 (a : Int) ||| BitVec.ofInt 8 (b : Int)).toNat : Int) = _
  rw [BitVec.toNat_or, ofInt_u8 a ha, ofInt_u8 b hb]
  exact IntWalk.u8_in _ (by omega)

theorem u8_xor_nat (a b : Nat) (ha : a < 256) (hb : b < 256) : bits .xor .u8 (a : Int) (b : Int) = ((a ^^^ b : Nat) : Int) := by
  have hx : a ^^^ b < 2 ^ 8 := Nat.xor_lt_two_pow ha hb
  show IntKind.u8.wrap ((BitVec.ofInt 8 (a : Int) ^^^ BitVec.ofInt 8 (b : Int)).toNat : Int) = _
  rw [BitVec.toNat_xor, ofInt_u8 a ha, ofInt_u8 b hb]
  exact IntWalk.u8_in _ (by omega)

/-- The row of '[]byte{}'. -/
theorem empty_row (w : World) : (w.alloc (.cells #[] 5)).ownsRow 0 5 1 (.slice (some ⟨w.heap.size, 0, none⟩) 0 0) ([] : List Nat).length (([] : List Nat).map U) :=
  ⟨rfl, .inr ⟨w.heap.size, 0, #[], rfl, Nat.zero_le _, heap_alloc_new _ _, Nat.le_refl _, Nat.zero_le _, rfl, rfl⟩⟩

end Go.Proofs.YthhggjakenalpaaGreatDoor
