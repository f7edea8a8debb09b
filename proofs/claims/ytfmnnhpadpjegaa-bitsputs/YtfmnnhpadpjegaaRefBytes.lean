/- The contract of the document's own Bytes: bits as bytes. -/
import Derived.Test.YtfmnnhpadpjegaaRef
namespace Go.Proofs.Ytfmnnhpadpjegaa
open Go.RowKit
open Bt

/-- The number of so many bits of a byte. -/
def part (l : List Nat) (j : Nat) : Nat → Nat
  | 0 => 0
  | t + 1 => 2 * part l j t + l.getD (8 * j + t) 0

theorem part_all (l : List Nat) (j : Nat) : part l j 8 = packAt l j := by
  simp only [part, packAt, Nat.add_zero]; omega

theorem part_lt (l : List Nat) (h : Bits l) (j t : Nat) : part l j t < 2 ^ t := by
  induction t with
  | zero => simp [part]
  | succ t ih =>
    have := getD_bit l h (8 * j + t)
    simp only [part, Nat.pow_succ]; omega

theorem part_le (l : List Nat) (h : Bits l) (j t : Nat) (ht : t ≤ 8) : part l j t < 256 :=
  Nat.lt_of_lt_of_le (part_lt l h j t) (Nat.pow_le_pow_right (n := 2) (by decide) ht)

theorem pack_take_succ (l : List Nat) (j : Nat) (h : j < (pack l).length) : (pack l).take (j + 1) = (pack l).take j ++ [packAt l j] := by
  rw [take_snoc _ _ h]
  congr 2
  simp [pack]

set_option maxRecDepth 100000 in
set_option maxHeartbeats 1000000 in
theorem refBytes_pos (g cap : Nat) (l : List Nat) (h1 : 0 < l.length) (h2 : l.length ≤ 3200) (hb : Bits l) (w : World) (hc : ∀ j, (hj : j < l.length) → w.cell? ⟨g, j, none⟩ = some (I l[j])) :
    Calls Try.prog 15 #[.slice (some ⟨g, 0, none⟩) l.length cap] w fun e w' => ∃ v, e = .returned v ∧ w'.ownsRow 0 5 1 v (pack l).length ((pack l).map U) ∧ (∀ j, v.ownBlock = some j → w.heap.size ≤ j) ∧ Below w.heap.size w w' := by
  obtain ⟨i, hi, hz0, hz1, hz2⟩ := info_parts info_u8
  have hpl := pack_length l
  have HC := Hid.intro hc
  have HB := Hid.intro hb
  have HPL := Hid.intro hpl
  clear hc hb hpl
  go_enter Try.func15, Try.ntmps15
  go_wp2
  go_loopw [3, 4] (fun v i wr => ∃ j : Nat, j ≤ (pack l).length ∧ i = .int .i64 ((8 * j : Nat) : Int) ∧ wr.ownsRow 0 5 1 v j (((pack l).take j).map U) ∧ (∀ j, v.ownBlock = some j → w.heap.size ≤ j) ∧ Below w.heap.size w wr)
    (fun _ i _ => l.length + 8 - (intOf i).toNat)
  case atStart => exact ⟨0, by omega, rfl, World.ownsRow_nil _ _ _ _, nil_own _, Below.refl _ _⟩
  case round =>
    obtain ⟨j, hj, rfl, RK, NK, BK⟩ := hrel
    have NKH := Hid.intro NK
    have RKH := Hid.intro RK
    clear NK RK
    by_cases hlt : 8 * j < l.length
    · have hjl : j < (pack l).length := by have := HPL.out; omega
      have TS := Hid.intro (pack_take_succ l j hjl)
      have hj4 : j ≤ 400 := by omega
      have hltI : (8 : Int) * (j : Int) < (l.length : Int) := by omega
      go_wp2_with fail
      go_loop [5, 6] (fun n q => ∃ t : Nat, t ≤ 8 ∧ q = .int .i64 ((8 * j + t : Nat) : Int) ∧ n = .int .i64 ((part l j t : Nat) : Int)) (fun _ q => 8 * j + 8 - (intOf q).toNat)
      case atStart => exact ⟨0, by omega, by go_num, rfl⟩
      case round =>
        obtain ⟨t, ht, rfl, rfl⟩ := hrel
        have hpt := part_le l HB.out j t ht
        by_cases ht8 : t < 8
        · have hps : part l j (t + 1) = 2 * part l j t + l.getD (8 * j + t) 0 := rfl
          have hbit := getD_bit l HB.out (8 * j + t)
          by_cases hin : 8 * j + t < l.length
          · have c := HC.out (8 * j + t) hin
            have c1 : wr.cell? ⟨g, 8 * j + t, none⟩ = some (I (l.getD (8 * j + t) 0)) := by
              rw [List.getD_eq_getElem?_getD, List.getElem?_eq_getElem hin]
              exact (BK.cell (cell_lt c)).trans c
            generalize l.getD (8 * j + t) 0 = q at hps hbit c1
            generalize part l j t = P at hps hpt ⊢
            have HPS := Hid.intro hps
            clear hps c
            go_wp2
            go_round
            case rel => exact ⟨t + 1, by omega, by go_num, by rw [HPS.out]; go_num⟩
            case measure => simp [intOf]; omega
          · have hz : l.getD (8 * j + t) 0 = 0 := getD_far l _ (by omega)
            rw [hz] at hps
            generalize part l j t = P at hps hpt ⊢
            have HPS := Hid.intro hps
            clear hps hz hbit
            go_wp2
            go_round
            case rel => exact ⟨t + 1, by omega, by go_num, by rw [HPS.out]; go_num⟩
            case measure => simp [intOf]; omega
        · have ht8' : t = 8 := by omega
          subst ht8'
          rw [part_all] at hpt ⊢
          generalize packAt l j = P at hpt TS ⊢
          have hu8 : (P : Int) % 256 = (P : Int) := by omega
          have R6H := Hid.intro (RKH.out.alloc (.cells #[U P] 5))
          go_wp2_with (at_builtin; refine wpList_append_lies _ rfl _ _ 24 rfl 0 5 i (.int .u8 0) 1 1 Try.underlying24 hi hz0 hz1 hz2 rfl (by decide) u3 _ _ rfl R6H.out ⟨wr.heap.size, 0, none⟩ 1 1 [U P] rfl rfl (World.news_of_block (cs := #[U P]) (t := 5) (fr := (0, 0)) (heap_alloc_new wr _)) (by simp [Value.oneCell', U]) (by decide) (by unfold maxLen; omega) (by omega) (Nat.zero_le _) (wr.heap.size + 1) (by simp) ?_)
          intro g7 cp w7 hown hgrow hat hgl
          have C7 : Chg (fun j => u3.ownBlock = some j) wr w7 := ((Chg.refl _ _).alloc _).grown hgrow (fun j hj _ => hj)
          have B7 := BK.trans (C7.below BK.size (fun j hj => NKH.out j hj))
          have N7 : ∀ q, (Value.slice (some ⟨g7, 0, none⟩) (j + 1) cp).ownBlock = some q → w.heap.size ≤ q := by
            intro q hq
            have e : g7 = q := by simpa [Value.ownBlock] using hq
            subst e
            rcases hat with hat | hat
            · exact NKH.out g7 hat
            · have := BK.size; omega
          have R7 : w7.ownsRow 0 5 1 (.slice (some ⟨g7, 0, none⟩) (j + 1) cp) (j + 1) (((pack l).take (j + 1)).map U) := by
            rw [TS.out, List.map_append, List.map_take]; exact hown
          have R7H := Hid.intro R7
          have N7H := Hid.intro N7
          clear hown hgrow hat R7 N7 C7 BK R6H NKH RKH
          go_wp2
          go_roundw
          case rel => exact ⟨j + 1, by omega, by go_num, R7H.out, N7H.out, B7⟩
          case measure => simp [intOf]; omega
    · have hje : j = (pack l).length := by have := HPL.out; omega
      have RL : wr.ownsRow 0 5 1 u3 (pack l).length ((pack l).map U) := by
        have := RKH.out
        rw [hje, List.take_length] at this
        exact this
      have hltI : ¬ (8 : Int) * (j : Int) < (l.length : Int) := by omega
      clear hje
      go_wp2
      go_ret
      exact ⟨_, rfl, RL, NKH.out, BK⟩

theorem refBytes_zero (a : Option Addr) (cap : Nat) (w : World) :
    Calls Try.prog 15 #[.slice a 0 cap] w fun e w' => e = .returned (.slice none 0 0) ∧ w = w' := by
  go_enter Try.func15, Try.ntmps15
  go_wp2
  refine wp_loop_rounds 1 ?_
  rw [rounds_succ]
  go_wp2
  go_ret
  exact ⟨rfl, rfl⟩

/-- The bytes of a list that the call owns. -/
theorem refBytes_any (v : Value) (l : List Nat) (h2 : l.length ≤ 3200) (hb : Bits l) (w : World) (h : w.ownsRow 0 3 1 v l.length (l.map I)) :
    Calls Try.prog 15 #[v] w fun e w' => ∃ ao ca, e = .returned (.slice ao (pack l).length ca) ∧ Reads w' ao (pack l) ∧ Below w.heap.size w w' := by
  by_cases h0 : l.length = 0
  · obtain ⟨ao, ca, hv, _⟩ := ownsRow_form h
    obtain rfl : l = [] := List.eq_nil_of_length_eq_zero h0
    rw [hv]
    refine (refBytes_zero ao ca w).mono ?_
    rintro e w' ⟨rfl, rfl⟩
    exact ⟨none, 0, rfl, fun h => absurd h (by simp [pack_nil]), Below.refl _ _⟩
  · obtain ⟨g, ca, rfl, _, _⟩ := h.form (by omega)
    refine (refBytes_pos g ca l (by omega) h2 hb w (fun j hj => by rw [h.cellAt j (by omega)]; simp [hj])).mono ?_
    rintro e w' ⟨v', rfl, R, _, B⟩
    obtain ⟨ao, c', rfl, hr, _⟩ := row_of_owns R
    exact ⟨ao, c', rfl, hr, B⟩

end Go.Proofs.Ytfmnnhpadpjegaa
