/- Package limit: On, Beyond, See. -/
import Derived.Test.YtcloneccfbcclaaLmK2
namespace Go.Proofs.Ytcloneccfbcclaa
open Go.RowKit
open Bt

theorem getD_on (L : List Kp) (bed kind : Int) : (findK L bed kind = none ∧ onK L bed kind = false ∧ beyK L bed kind = 0) ∨ ∃ x, findK L bed kind = some x ∧ onK L bed kind = alarmK x ∧ beyK L bed kind = x.n := by
  unfold onK beyK
  cases h : findK L bed kind with
  | none => exact .inl ⟨rfl, rfl, rfl⟩
  | some x => exact .inr ⟨x, rfl, rfl, rfl⟩

theorem lon_nil (bed kind : Int) (w : World) :
    Calls Try.prog 12 #[.pointer none, .int .i64 bed, .int .i64 kind] w fun e w' => e = .returned (.bool false) ∧ Below w.heap.size w w' := by
  have FI := Hid.intro (lfind_nil bed kind w)
  go_enter Try.func12, Try.ntmps12
  go_wp2_with fail
  refine FI.out.mono ?_
  rintro e w1 ⟨rfl, B1⟩
  have BH := Hid.intro (B1.alloc B1.size (.cells #[.int .i64 0, .int .i64 0, .int .i64 0, .int .i64 0, .int .i64 0, .int .i64 0] 53))
  unfold kz
  clear FI B1
  go_wp2
  go_ret
  exact ⟨rfl, BH.out⟩

theorem lbey_nil (bed kind : Int) (w : World) :
    Calls Try.prog 13 #[.pointer none, .int .i64 bed, .int .i64 kind] w fun e w' => e = .returned (.int .i64 0) ∧ Below w.heap.size w w' := by
  have FI := Hid.intro (lfind_nil bed kind w)
  go_enter Try.func13, Try.ntmps13
  go_wp2_with fail
  refine FI.out.mono ?_
  rintro e w1 ⟨rfl, B1⟩
  have BH := Hid.intro (B1.alloc B1.size (.cells #[.int .i64 0, .int .i64 0, .int .i64 0, .int .i64 0, .int .i64 0, .int .i64 0] 53))
  unfold kz
  clear FI B1
  go_wp2
  go_ret
  exact ⟨rfl, BH.out⟩

theorem lsee_nil (bed kind v : Int) (w : World) :
    Calls Try.prog 10 #[.pointer none, .int .i64 bed, .int .i64 kind, .int .i64 v] w fun e w' => e = .returned (.tuple #[.bool false, .bool false]) ∧ Below w.heap.size w w' := by
  have FI := Hid.intro (lfind_nil bed kind w)
  go_enter Try.func10, Try.ntmps10
  go_wp2_with fail
  refine FI.out.mono ?_
  rintro e w1 ⟨rfl, B1⟩
  have BH := Hid.intro (B1.alloc B1.size (.cells #[.int .i64 0, .int .i64 0, .int .i64 0, .int .i64 0, .int .i64 0, .int .i64 0] 53))
  unfold kz
  clear FI B1
  go_wp2
  go_ret2
  exact ⟨rfl, BH.out⟩

set_option maxRecDepth 100000 in
theorem lbey_any (b : Nat) (bed kind : Int) (ho : okO (bed, kind)) (S : Nat → Prop) (L : List Kp) (n : Nat) (w : World) (h : Tab S w b L n) :
    Calls Try.prog 13 #[.pointer (some ⟨b, 0, none⟩), .int .i64 bed, .int .i64 kind] w fun e w' => e = .returned (.int .i64 (beyK L bed kind : Int)) ∧ Below w.heap.size w w' := by
  have FI := Hid.intro (lfind_any b bed kind ho S L n w h)
  have e : beyK L bed kind = ((findK L bed kind).getD kz).n := by
    rcases getD_on L bed kind with ⟨e1, _, e2⟩ | ⟨x, e1, _, e2⟩ <;> rw [e1, e2] <;> rfl
  rw [e]
  clear e h
  generalize (findK L bed kind).isSome = R at *
  generalize (findK L bed kind).getD kz = x at *
  obtain ⟨⟨x0, x1, x2, x3, x4⟩, xn⟩ := x
  simp only
  go_enter Try.func13, Try.ntmps13
  go_wp2_with fail
  refine FI.out.mono ?_
  rintro e w1 ⟨rfl, B1⟩
  have BH := Hid.intro (B1.alloc B1.size (.cells #[.int .i64 x0, .int .i64 x1, .int .i64 x2, .int .i64 x3, .int .i64 x4, .int .i64 (xn : Int)] 53))
  clear FI B1
  go_wp2
  go_ret
  exact ⟨rfl, BH.out⟩

set_option maxRecDepth 100000 in
theorem lon_any (b : Nat) (bed kind : Int) (ho : okO (bed, kind)) (S : Nat → Prop) (L : List Kp) (n : Nat) (w : World) (h : Tab S w b L n) :
    Calls Try.prog 12 #[.pointer (some ⟨b, 0, none⟩), .int .i64 bed, .int .i64 kind] w fun e w' => e = .returned (.bool (onK L bed kind)) ∧ Below w.heap.size w w' := by
  have FI := Hid.intro (lfind_any b bed kind ho S L n w h)
  clear h
  rcases getD_on L bed kind with ⟨e1, e2, _⟩ | ⟨x, e1, e2, _⟩
  · rw [e2]
    rw [e1] at FI
    clear e1 e2
    go_enter Try.func12, Try.ntmps12
    go_wp2_with fail
    refine FI.out.mono ?_
    rintro e w1 ⟨rfl, B1⟩
    have BH := Hid.intro (B1.alloc B1.size (.cells #[.int .i64 0, .int .i64 0, .int .i64 0, .int .i64 0, .int .i64 0, .int .i64 0] 53))
    simp only [Option.getD_none, Option.isSome_none]
    unfold kz
    clear FI B1
    go_wp2
    go_ret
    exact ⟨rfl, BH.out⟩
  · rw [e2]
    rw [e1] at FI
    have AL := Hid.intro (lalarm_any x)
    clear e1 e2
    generalize alarmK x = A at *
    obtain ⟨⟨x0, x1, x2, x3, x4⟩, xn⟩ := x
    go_enter Try.func12, Try.ntmps12
    go_wp2_with fail
    refine FI.out.mono ?_
    rintro e w1 ⟨rfl, B1⟩
    have BH := Hid.intro (B1.alloc B1.size (.cells #[.int .i64 x0, .int .i64 x1, .int .i64 x2, .int .i64 x3, .int .i64 x4, .int .i64 (xn : Int)] 53))
    simp only [Option.getD_some, Option.isSome_some]
    clear FI B1
    go_wp2_with fail
    refine (AL.out _).mono ?_
    rintro e w2 ⟨rfl, B2⟩
    have BH2 := Hid.intro (BH.out.trans (B2.mono BH.out.size))
    clear B2 AL
    cases A
    all_goals
      go_wp2
      go_ret
      exact ⟨rfl, BH2.out⟩

theorem kpC {w : World} {x0 x1 x2 x3 x4 xn : Int} {g : Nat} (h : w.heap[g]? = some (.cells #[.int .i64 x0, .int .i64 x1, .int .i64 x2, .int .i64 x3, .int .i64 x4, .int .i64 xn] 53 (0, 0))) :
    w.cell? ⟨g, 0, none⟩ = some (.int .i64 x0) ∧ w.cell? ⟨g, 1, none⟩ = some (.int .i64 x1) ∧ w.cell? ⟨g, 2, none⟩ = some (.int .i64 x2) ∧ w.cell? ⟨g, 3, none⟩ = some (.int .i64 x3) ∧ w.cell? ⟨g, 4, none⟩ = some (.int .i64 x4) ∧ w.cell? ⟨g, 5, none⟩ = some (.int .i64 xn) ∧ w.frozen? ⟨g, 5, none⟩ = false :=
  ⟨by rw [cell_of_row _ _ 0 _ _ _ h]; rfl, by rw [cell_of_row _ _ 1 _ _ _ h]; rfl, by rw [cell_of_row _ _ 2 _ _ _ h]; rfl, by rw [cell_of_row _ _ 3 _ _ _ h]; rfl, by rw [cell_of_row _ _ 4 _ _ _ h]; rfl, by rw [cell_of_row _ _ 5 _ _ _ h]; rfl, frozen_of_row w g 5 _ _ h⟩

theorem fM_see (L : List Kp) (bed kind v : Int) {x : Kp} (hf : findK L bed kind = some x) : ∀ k, (if k = (bed, kind) then some (Kv (stepK x v)) else fM L k) = fM (seeT L bed kind v) k := fun k => by
  unfold fM
  rw [seeT_find]
  by_cases h : k = (bed, kind)
  · subst h
    rw [if_pos rfl, if_pos rfl, hf]
    rfl
  · rw [if_neg h, if_neg (fun q => h q)]

theorem LeftT.below {S : Nat → Prop} {w w1 w2 : World} {b : Nat} {L : List Kp} {n : Nat} (h : LeftT S w w1 b L n) (hb : Below w1.heap.size w1 w2) : LeftT S w w2 b L n := by
  obtain ⟨S', h1, h2, h3⟩ := h
  exact ⟨S', h1.below hb, h2.trans (below_chg hb) (fun _ f _ => f.elim), h3⟩

set_option maxRecDepth 100000 in
set_option maxHeartbeats 2000000 in
theorem lsee_any (b : Nat) (bed kind v : Int) (ho : okO (bed, kind)) (S : Nat → Prop) (L : List Kp) (n : Nat) (hn : n ≤ 1000000) (w : World) (h : Tab S w b L n) :
    Calls Try.prog 10 #[.pointer (some ⟨b, 0, none⟩), .int .i64 bed, .int .i64 kind, .int .i64 v] w fun e w' => e = .returned (.tuple #[.bool (onK L bed kind), .bool (onK (seeT L bed kind v) bed kind)]) ∧ LeftT S w w' b (seeT L bed kind v) (n + 1) := by
  have FI := Hid.intro (lfind_any b bed kind ho S L n w h)
  have mixed : Try.prog.follows Departure.mixedOrders = true := by kernel_rfl
  rcases getD_on L bed kind with ⟨e1, e2, _⟩ | ⟨x, e1, e2, _⟩
  · rw [seeT_none v e1, e2]
    rw [e1] at FI
    have HT := Hid.intro (h.more (Nat.le_succ n))
    clear e1 e2 h
    go_enter Try.func10, Try.ntmps10
    go_wp2_with fail
    refine FI.out.mono ?_
    rintro e w1 ⟨rfl, B1⟩
    have BH := Hid.intro (B1.alloc B1.size (.cells #[.int .i64 0, .int .i64 0, .int .i64 0, .int .i64 0, .int .i64 0, .int .i64 0] 53))
    simp only [Option.getD_none, Option.isSome_none]
    unfold kz
    clear FI B1
    go_wp2
    go_ret2
    exact ⟨rfl, LeftT.same HT.out BH.out⟩
  · have e3 : onK (seeT L bed kind v) bed kind = alarmK (stepK x v) := by
      unfold onK
      rw [seeT_find, if_pos rfl, e1]
      rfl
    rw [e2, e3]
    rw [e1] at FI
    have xb : x.n ≤ n := h.ok.bnd x (findK_mem e1).1
    have OK := Hid.intro (seeT_ok h.ok bed kind v)
    have FM := Hid.intro (fM_see L bed kind v e1)
    have AL := Hid.intro (lalarm_any x)
    have AL2 := Hid.intro (lalarm_any (stepK x v))
    have BY := Hid.intro (lbeyond_any x v)
    obtain ⟨m, vv, h⟩ := h
    have HH := Hid.intro h
    have hST : stepK x v = ⟨x.lm, if outK x.lm v = true then x.n + 1 else 0⟩ := rfl
    rw [hST] at FM AL2 ⊢
    generalize alarmK x = A at *
    generalize alarmK ⟨x.lm, if outK x.lm v = true then x.n + 1 else 0⟩ = A2 at *
    have bl := h.lt b h.inB
    clear e1 e2 e3 h hST
    generalize outK x.lm v = O at *
    obtain ⟨⟨x0, x1, x2, x3, x4⟩, xn⟩ := x
    simp only at xb
    have x1b : (xn : Int) + 1 ≤ 1000001 := by omega
    go_enter Try.func10, Try.ntmps10
    go_wp2_with fail
    refine FI.out.mono ?_
    rintro e w1 ⟨rfl, B1⟩
    have BN := B1.alloc B1.size (.cells #[.int .i64 x0, .int .i64 x1, .int .i64 x2, .int .i64 x3, .int .i64 x4, .int .i64 (xn : Int)] 53)
    have BH := Hid.intro BN
    have NB := Hid.intro (heap_alloc_new w1 (.cells #[.int .i64 x0, .int .i64 x1, .int .i64 x2, .int .i64 x3, .int .i64 x4, .int .i64 (xn : Int)] 53))
    have KB := Hid.intro B1.size
    simp only [Option.getD_some, Option.isSome_some]
    clear FI B1 BN
    go_wp2_with fail
    refine (AL.out _).mono ?_
    rintro e w2 ⟨rfl, B2⟩
    have n2 := (B2.block _ (lt_of_heap NB.out)).trans NB.out
    have BH2 := Hid.intro (BH.out.trans (B2.mono BH.out.size))
    have N2 := Hid.intro n2
    obtain ⟨c0, c1, c2, c3, c4, c5, _⟩ := kpC n2
    generalize w1.heap.size = kb at *
    clear B2 AL n2 BH NB
    go_wp2_with fail
    refine (BY.out _).mono ?_
    rintro e w3 ⟨rfl, B3⟩
    have n3 := (B3.block _ (lt_of_heap N2.out)).trans N2.out
    have BH3 := Hid.intro (BH2.out.trans (B3.mono BH2.out.size))
    have N3 := Hid.intro n3
    clear B3 BY N2 BH2 c0 c1 c2 c3 c4 c5
    obtain ⟨c0, c1, c2, c3, c4, c5, f5⟩ := kpC n3
    clear n3
    have hm := HH.out.lt m HH.out.inM
    cases O
    · have W4 := Hid.intro (BH3.out.setCell (p := ⟨kb, 5, none⟩) KB.out (.int .i64 0))
      have n4 := Hid.intro (show (w3.setCell ⟨kb, 5, none⟩ (.int .i64 0)).heap[kb]? = some (.cells #[.int .i64 x0, .int .i64 x1, .int .i64 x2, .int .i64 x3, .int .i64 x4, .int .i64 0] 53 (0, 0)) from heap_setCell_same w3 kb 5 _ _ (.int .i64 0) N3.out)
      have h4 := HH.out.below W4.out
      have k0 := h4.cells.1
      have M4 := Hid.intro h4.map
      have FMH : Hid (∀ k, (if k = (bed, kind) then some (Value.agg #[.int .i64 x0, .int .i64 x1, .int .i64 x2, .int .i64 x3, .int .i64 x4, .int .i64 0]) else fM L k) = fM (seeT L bed kind v) k) := FM.out
      have AH : Hid (∀ w, Calls Try.prog 26 #[.agg #[.int .i64 x0, .int .i64 x1, .int .i64 x2, .int .i64 x3, .int .i64 x4, .int .i64 0]] w fun e w' => e = .returned (.bool A2) ∧ Below w.heap.size w w') := AL2.out
      clear h4 FM AL2
      go_wp2_with fail
      obtain ⟨d0, d1, d2, d3, d4, d5, _⟩ := kpC n4.out
      clear N3 c0 c1 c2 c3 c4 c5 f5
      generalize w3.setCell ⟨kb, 5, none⟩ (.int .i64 0) = w4 at *
      go_still_tail 8, mixed
      refine wpList_store_at rfl _ _ _ 57 rfl 53 own_by Try.underlying57 m (fM L) rfl (M4.out.kept rfl) (bed, kind) (.agg #[.int .i64 x0, .int .i64 x1, .int .i64 x2, .int .i64 x3, .int .i64 x4, .int .i64 0]) rfl rfl ho ?_
      intro w5 m5 C5 s5
      have M5 := m5.congr FMH.out
      have LT := Hid.intro (HH.out.turned (W := w4.drew) W4.out.drew M5 C5 (seeT_keys L bed kind v) OK.out)
      have n5 := (C5.block kb (lt_of_heap n4.out) (fun q => by have := KB.out; omega)).trans n4.out
      obtain ⟨c0, c1, c2, c3, c4, c5, _⟩ := kpC n5
      clear m5 C5 s5 M5 n5 n4 d0 d1 d2 d3 d4 d5 M4 W4 k0 FMH
      go_wp2_with fail
      refine (AH.out _).mono ?_
      rintro e w6 ⟨rfl, B6⟩
      have FIN := Hid.intro (LT.out.below B6)
      clear LT B6 AH
      go_wp2
      go_ret2
      exact ⟨rfl, FIN.out⟩
    · have W4 := Hid.intro (BH3.out.setCell (p := ⟨kb, 5, none⟩) KB.out (.int .i64 ((xn : Int) + 1)))
      have n4 := Hid.intro (show (w3.setCell ⟨kb, 5, none⟩ (.int .i64 ((xn : Int) + 1))).heap[kb]? = some (.cells #[.int .i64 x0, .int .i64 x1, .int .i64 x2, .int .i64 x3, .int .i64 x4, .int .i64 ((xn : Int) + 1)] 53 (0, 0)) from heap_setCell_same w3 kb 5 _ _ (.int .i64 ((xn : Int) + 1)) N3.out)
      have h4 := HH.out.below W4.out
      have k0 := h4.cells.1
      have M4 := Hid.intro h4.map
      have FMH : Hid (∀ k, (if k = (bed, kind) then some (Value.agg #[.int .i64 x0, .int .i64 x1, .int .i64 x2, .int .i64 x3, .int .i64 x4, .int .i64 ((xn : Int) + 1)]) else fM L k) = fM (seeT L bed kind v) k) := FM.out
      have AH : Hid (∀ w, Calls Try.prog 26 #[.agg #[.int .i64 x0, .int .i64 x1, .int .i64 x2, .int .i64 x3, .int .i64 x4, .int .i64 ((xn : Int) + 1)]] w fun e w' => e = .returned (.bool A2) ∧ Below w.heap.size w w') := AL2.out
      clear h4 FM AL2
      go_wp2_with fail
      obtain ⟨d0, d1, d2, d3, d4, d5, _⟩ := kpC n4.out
      clear N3 c0 c1 c2 c3 c4 c5 f5
      generalize w3.setCell ⟨kb, 5, none⟩ (.int .i64 ((xn : Int) + 1)) = w4 at *
      go_still_tail 8, mixed
      refine wpList_store_at rfl _ _ _ 57 rfl 53 own_by Try.underlying57 m (fM L) rfl (M4.out.kept rfl) (bed, kind) (.agg #[.int .i64 x0, .int .i64 x1, .int .i64 x2, .int .i64 x3, .int .i64 x4, .int .i64 ((xn : Int) + 1)]) rfl rfl ho ?_
      intro w5 m5 C5 s5
      have M5 := m5.congr FMH.out
      have LT := Hid.intro (HH.out.turned (W := w4.drew) W4.out.drew M5 C5 (seeT_keys L bed kind v) OK.out)
      have n5 := (C5.block kb (lt_of_heap n4.out) (fun q => by have := KB.out; omega)).trans n4.out
      obtain ⟨c0, c1, c2, c3, c4, c5, _⟩ := kpC n5
      clear m5 C5 s5 M5 n5 n4 d0 d1 d2 d3 d4 d5 M4 W4 k0 FMH
      go_wp2_with fail
      refine (AH.out _).mono ?_
      rintro e w6 ⟨rfl, B6⟩
      have FIN := Hid.intro (LT.out.below B6)
      clear LT B6 AH
      go_wp2
      go_ret2
      exact ⟨rfl, FIN.out⟩

end Go.Proofs.Ytcloneccfbcclaa
