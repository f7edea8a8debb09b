/- Package load's library: slices.Grow of nil, slices.Concat of two lists of beds. -/
import Derived.Test.YthofgajchejdfaaLdK3
import Derived.Test.YthofgajchejdfaaLdSm
import Derived.Test.YthofgajchejdfaaLdApp
import Derived.Lib.AppendZerosOnto
namespace Go.Proofs.Ythofgajchejdfaa
open Go.RowKit
open Bt

theorem zeroBed_size (n : Nat) (z : Array Value) (h : z.size = 6) : (Builtin.zeroCells z n).size = n * 6 := by
  unfold Builtin.zeroCells
  rw [Array.size_map, Array.size_range, h]

set_option maxRecDepth 100000 in
set_option maxHeartbeats 2000000 in
theorem lgrow_any (n : Nat) (hn : n ≤ 1000) (w : World) :
    Calls Try.prog 40 #[.slice none 0 0, .int .i64 (n : Int)] w fun e w' => ∃ v, e = .returned v ∧ w'.ownsRow 0 27 6 v 0 (bcells []) ∧ (∀ k, v.ownBlock = some k → w.heap.size ≤ k) ∧ Below w.heap.size w w' := by
  by_cases h0 : n = 0
  · subst h0
    go_enter Try.func40, Try.ntmps40
    go_wp2
    go_ret
    exact ⟨_, rfl, World.ownsRow_nil _ _ _ _, (fun q hq => by simp [Value.ownBlock] at hq), Below.refl _ _⟩
  · obtain ⟨i, hi, hz0, hz1, hz2⟩ := info_parts info_bed
    have e1 : (Builtin.firstCells i.size 0 (.slice none 0 0)).run Try.prog w.drew = .ok ([] : List Value).toArray w.drew := run_firstCells_none w.drew i.size 0 0 0
    have GR := fun ty => Lib.run_append_grow_zeros w 22 3 ty 27 i (.agg #[.int .i64 0, .int .i64 0, .int .i64 0, .int .i64 0, .int .i64 0, .int .i64 0]) .i64 .i64 Try.underlying22 Try.underlying3 hi hz0 none 0 0 [] e1 n (by omega) (by rw [hz1]; decide) (by omega) (by omega) (by rw [hz2]; omega) (growslice_fits (by omega) (by rw [hz2]; omega))
    rw [Nat.zero_add] at GR
    have hGn : n ≤ grownCap w n 0 27 := grownCap_ge w _ _ _
    have hGm : grownCap w n 0 27 ≤ maxLen := grownCap_le_maxLen w n 0 27 (by unfold maxLen; omega)
    generalize grownCap w n 0 27 = G at *
    obtain ⟨cs, hcs⟩ : ∃ cs, cs = ([] : List Value).toArray ++ Builtin.zeroCells (Value.agg #[.int .i64 0, .int .i64 0, .int .i64 0, .int .i64 0, .int .i64 0, .int .i64 0]).cells n ++ Builtin.zeroCells (Value.agg #[.int .i64 0, .int .i64 0, .int .i64 0, .int .i64 0, .int .i64 0, .int .i64 0]).cells (G - n) := ⟨_, rfl⟩
    have hsz : cs.size = G * 6 := by
      have z6 : (Value.agg #[.int .i64 0, .int .i64 0, .int .i64 0, .int .i64 0, .int .i64 0, .int .i64 0]).cells.size = 6 := by kernel_rfl
      rw [hcs, Array.size_append, Array.size_append, zeroBed_size _ _ z6, zeroBed_size _ _ z6, show ([] : List Value).toArray.size = 0 from rfl]
      omega
    rw [← hcs] at GR
    have BA : Below w.heap.size w (w.drew.alloc (.cells cs 27)) := by
      have q : Below w.heap.size w w.drew := ⟨rfl, rfl, rfl, Nat.le_refl _, fun _ _ => rfl⟩
      exact q.alloc (Nat.le_refl _) _
    have OW : (w.drew.alloc (.cells cs 27)).ownsRow 0 27 6 (.slice (some ⟨w.heap.size, 0, none⟩) 0 G) 0 (bcells []) :=
      ⟨rfl, .inr ⟨w.heap.size, G, cs, rfl, Nat.zero_le _, heap_alloc_new w.drew _, Nat.zero_le _, hGm, hsz, by simp [bcells]⟩⟩
    have BAH := Hid.intro BA
    have OWH := Hid.intro OW
    have G63 : G ≤ 9223372036854775807 := by unfold maxLen at hGm; omega
    have n1 : (0 : Int) < (n : Int) := by omega
    clear BA OW hcs hsz e1 hi hz0 hz1 hz2
    go_enter Try.func40, Try.ntmps40
    go_wp2_with (at_builtin; refine Lib.wpList_append_run _ rfl _ _ _ _ rfl _ _ rfl rfl _ _ (GR _) ?_)
    all_goals
      go_ret
      exact ⟨_, rfl, OWH.out, (fun q hq => by
        have e : w.heap.size = q := by simpa [Value.ownBlock] using hq
        omega), BAH.out⟩

/-- The first k of two lists. -/
def catB (l1 l2 : List Bdd) (k : Nat) : List Bdd := if k = 0 then [] else if k = 1 then l1 else l1 ++ l2

/-- What Concat leaves. -/
def CatA (w : World) (L : List Bdd) (e : Ending) (w' : World) : Prop := ∃ a d, e = .returned (.slice a L.length d) ∧ BdsAt (fun k => w.heap.size ≤ k) w' (.slice a L.length d) L ∧ (L.length ≤ d ∧ (a = none → d = 0)) ∧ Below w.heap.size w w'

set_option maxRecDepth 100000 in
set_option maxHeartbeats 2000000 in
theorem lconcat_any (R1 R2 : Nat → Prop) (a1 a2 : Option Addr) (c1 c2 : Nat) (l1 l2 : List Bdd) (hl1 : l1.length ≤ 100) (hl2 : l2.length ≤ 100) (n1 : a1 = none → c1 = 0) (n2 : a2 = none → c2 = 0) (g : Nat) (w : World)
    (k1 : w.cell? ⟨g, 0, none⟩ = some (.slice a1 l1.length c1)) (k2 : w.cell? ⟨g, 1, none⟩ = some (.slice a2 l2.length c2)) (h1 : BdsAt R1 w (.slice a1 l1.length c1) l1) (h2 : BdsAt R2 w (.slice a2 l2.length c2) l2) :
    Calls Try.prog 36 #[.slice (some ⟨g, 0, none⟩) 2 2] w (CatA w (l1 ++ l2)) := by
  have H1 := Hid.intro h1
  have H2 := Hid.intro h2
  have HL1 : Hid (l1.length = l1.length) := rfl
  obtain ⟨L1, hL1⟩ : ∃ L1, L1 = l1.length := ⟨_, rfl⟩
  obtain ⟨L2, hL2⟩ : ∃ L2, L2 = l2.length := ⟨_, rfl⟩
  rw [← hL1] at hl1 k1 H1
  rw [← hL2] at hl2 k2 H2
  have E1 := Hid.intro hL1
  have E2 := Hid.intro hL2
  have GR := Hid.intro (lgrow_any (L1 + L2) (by omega) w)
  clear h1 h2 hL1 hL2 HL1
  go_enter Try.func36, Try.ntmps36
  go_wp2_with fail
  go_loop [3, 11] (fun nv iv => ∃ (k N : Nat), k ≤ 2 ∧ iv = .int .i64 k ∧ nv = .int .i64 N ∧ N ≤ 200 ∧ ((k = 0 ∧ N = 0) ∨ (k = 1 ∧ N = L1) ∨ (k = 2 ∧ N = L1 + L2))) (fun _ iv => 2 - (intOf iv).toNat)
  case atStart => exact ⟨0, 0, by omega, rfl, rfl, by omega, .inl ⟨rfl, rfl⟩⟩
  case round =>
    obtain ⟨k, N, hk, rfl, rfl, hN, hc⟩ := hrel
    rcases hc with ⟨rfl, rfl⟩ | ⟨rfl, rfl⟩ | ⟨rfl, rfl⟩
    · go_wp2
      go_round
      case rel => exact ⟨1, L1, by omega, by go_num, by go_num, by omega, .inr (.inl ⟨rfl, rfl⟩)⟩
      case measure => simp [intOf]
    · go_wp2
      go_round
      case rel => exact ⟨2, N + L2, by omega, by go_num, by go_num, by omega, .inr (.inr ⟨rfl, rfl⟩)⟩
      case measure => simp [intOf]
    · go_wp2_with fail
      refine GR.out.mono ?_
      rintro e w1 ⟨v, rfl, O1, N1, B1⟩
      have O1H := Hid.intro O1
      have N1H := Hid.intro N1
      have B1H := Hid.intro B1
      clear O1 N1 B1 GR
      go_wp2_with fail
      go_loopw [6, 27] (fun ov iv ws => ∃ (k m : Nat), k ≤ 2 ∧ m = (catB l1 l2 k).length ∧ iv = .int .i64 k ∧ ws.ownsRow 0 27 6 ov m (bcells (catB l1 l2 k)) ∧ (∀ q, ov.ownBlock = some q → w.heap.size ≤ q) ∧ Below w.heap.size w ws) (fun _ iv _ => 2 - (intOf iv).toNat)
      case atStart => exact ⟨0, 0, by omega, rfl, rfl, O1H.out, N1H.out, B1H.out⟩
      case round =>
        obtain ⟨k, m, hk, hm, rfl, hO, hN', hB⟩ := hrel
        have HM := Hid.intro hm
        have OH := Hid.intro hO
        have NH := Hid.intro hN'
        have BH := Hid.intro hB
        have x1 := cellU hB k1
        have x2 := cellU hB k2
        clear hm hO hN' hB
        obtain ⟨oa, oc, hov, _⟩ := ownsRow_form OH.out
        subst hov
        obtain rfl | rfl | rfl : k = 0 ∨ k = 1 ∨ k = 2 := by omega
        · have FIN : Hid (∀ (v' : Value) (wb : World), wb.ownsRow 0 27 6 v' (m + L1) (bcells (catB l1 l2 0 ++ l1)) → wr.grownBy wb (Value.slice oa m oc).ownBlock → (v'.ownBlock = (Value.slice oa m oc).ownBlock ∨ v'.ownBlock = some wr.heap.size) →
              m + L1 = (catB l1 l2 1).length ∧ wb.ownsRow 0 27 6 v' (m + L1) (bcells (catB l1 l2 1)) ∧ (∀ q, v'.ownBlock = some q → w.heap.size ≤ q) ∧ Below w.heap.size w wb) := fun v' wb hown hgrow hat => by
            obtain ⟨g1, g2⟩ := grownL hgrow hat BH.out (Nat.le_refl _) NH.out
            have em : m = 0 := HM.out
            exact ⟨by rw [em, E1.out, Nat.zero_add]; rfl, hown, g2, g1⟩
          have ONH := Hid.intro OH.out
          have GRH := Hid.intro (H1.out.below BH.out)
          have mb : m + L1 ≤ 100000 := by
            have em : m = 0 := HM.out
            omega
          go_wp2_with (refine append_beds (by rfl) _ _ (by rfl) (.slice oa m oc) m (catB l1 l2 0) HM.out (by rfl) ONH.out R1 a1 L1 c1 l1 E1.out (by rfl) GRH.out n1 mb ?_; intro v' wb hown hgrow hat; have FN := Hid.intro (FIN.out v' wb hown hgrow hat); clear hown hgrow hat)
          exact ⟨⟨1, m + L1, by omega, FN.out.1, by go_num, FN.out.2⟩, by simp [intOf]⟩
        · have FIN : Hid (∀ (v' : Value) (wb : World), wb.ownsRow 0 27 6 v' (m + L2) (bcells (catB l1 l2 1 ++ l2)) → wr.grownBy wb (Value.slice oa m oc).ownBlock → (v'.ownBlock = (Value.slice oa m oc).ownBlock ∨ v'.ownBlock = some wr.heap.size) →
              m + L2 = (catB l1 l2 2).length ∧ wb.ownsRow 0 27 6 v' (m + L2) (bcells (catB l1 l2 2)) ∧ (∀ q, v'.ownBlock = some q → w.heap.size ≤ q) ∧ Below w.heap.size w wb) := fun v' wb hown hgrow hat => by
            obtain ⟨g1, g2⟩ := grownL hgrow hat BH.out (Nat.le_refl _) NH.out
            have em : m = l1.length := HM.out
            exact ⟨by rw [em, E2.out, ← List.length_append]; rfl, hown, g2, g1⟩
          have ONH := Hid.intro OH.out
          have GRH := Hid.intro (H2.out.below BH.out)
          have mb : m + L2 ≤ 100000 := by
            have em : m = l1.length := HM.out
            have := E1.out
            omega
          go_wp2_with (refine append_beds (by rfl) _ _ (by rfl) (.slice oa m oc) m (catB l1 l2 1) HM.out (by rfl) ONH.out R2 a2 L2 c2 l2 E2.out (by rfl) GRH.out n2 mb ?_; intro v' wb hown hgrow hat; have FN := Hid.intro (FIN.out v' wb hown hgrow hat); clear hown hgrow hat)
          exact ⟨⟨2, m + L2, by omega, FN.out.1, by go_num, FN.out.2⟩, by simp [intOf]⟩
        · have TL : Hid ((l1 ++ l2).length = m) := by rw [Hid, HM.out]; rfl
          have RM := Hid.intro (ownsRow_roomL OH.out)
          have SM : Hid (BdsAt (fun k => w.heap.size ≤ k) wr (.slice oa m oc) (l1 ++ l2)) := by
            have O4 := OH.out
            have q := bds_of_owns (R := fun k => w.heap.size ≤ k) (l := catB l1 l2 2) (v := .slice oa m oc) (by rw [← HM.out]; exact O4) (fun r hr => NH.out r hr)
            exact q
          clear x1 x2
          go_wp2
          go_ret
          exact ⟨oa, oc, by rw [TL.out]; rfl, by rw [TL.out]; exact SM.out, by rw [TL.out]; exact RM.out, BH.out⟩

end Go.Proofs.Ythofgajchejdfaa
