/- The statement RecordPacks: whether every sample is right, or numeric, and the text of all, or the error, are the document's. -/
import Derived.Test.YthbfdfkkacmbhaaDoorRcAlive
import Derived.Test.YthbfdfkkacmbhaaDoorRcLaid
import Derived.Test.YthbfdfkkacmbhaaDoorRcArg
import Derived.Test.YthbfdfkkacmbhaaDoorCodeArg
import Derived.Test.YthbfdfkkacmbhaaDoorRcRefP
import Derived.Test.YthbfdfkkacmbhaaDoorRcRefS
import Derived.Test.YthbfdfkkacmbhaaDoorRefSame
import Derived.Deep.RegionHeldLaw
namespace Go.Proofs.YthbfdfkkacmbhaaDoor
open Go.ChangeShapes Go.WideShapes Go.ChangeAt Go.RowKit Go.Joins
open Bt

namespace LRecordPacks

theorem cellsM {w : World} {R : Nat → Prop} {ao : Option Addr} {n c : Nat} {l : List Smp} (h : SmsAt R w (.slice ao n c) l) (h0 : 0 < l.length) : ∃ pb off, ao = some ⟨pb, off, none⟩ ∧ ∀ t, (ht : t < l.length) →
    w.cell? ⟨pb, off + t * 3, none⟩ = some (.int .i64 l[t].kind) ∧ w.cell? ⟨pb, off + t * 3 + 1, none⟩ = some (.int .i64 l[t].tick) ∧ w.cell? ⟨pb, off + t * 3 + 2, none⟩ = some (.int .i64 l[t].value) := by
  obtain ⟨_, _, e, hp⟩ := h
  simp only [Value.slice.injEq] at e
  obtain ⟨rfl, _, _⟩ := e
  obtain ⟨pb, off, ha, _, hq⟩ := hp h0
  exact ⟨pb, off, ha, hq⟩

set_option maxRecDepth 100000 in
set_option maxHeartbeats 2000000 in
theorem walk_main (k n s : Int) (ao : Option Addr) (cap : Nat) (l : List Smp) (hcap : cap ≤ maxLen) (hlc : l.length ≤ cap) (bo : Option Addr) (bcap : Nat) (hbcap : bcap ≤ maxLen) (m : List Smp) (hmc : m.length ≤ bcap) (w : World) (hwd : WidR w) (h : SmsAt (fun _ => True) w (.slice ao l.length cap) l) (h2 : SmsAt (fun _ => True) w (.slice bo m.length bcap) m) :
    Calls Tryd.prog 3 #[Cd k n s, .slice ao l.length cap, .slice bo m.length bcap] w fun e w' => e = .returned (.bool true) ∧ Below w.heap.size w w' := by
  have BA := (Below.refl _ w).alloc (Nat.le_refl _) (.cells #[.int .i64 k, .int .i64 n, .int .i64 s] 23)
  have nA := heap_alloc_new w (.cells #[.int .i64 k, .int .i64 n, .int .i64 s] 23)
  have AL := Hid.intro (alive10_any (w.alloc (.cells #[.int .i64 k, .int .i64 n, .int .i64 s] 23)) (hwd.below BA))
  have HWD := Hid.intro hwd
  clear hwd
  have BAH := Hid.intro BA
  have NAH := Hid.intro nA
  have HS := Hid.intro h
  obtain ⟨L, hL⟩ : ∃ L, L = l.length := ⟨_, rfl⟩
  have HL := Hid.intro hL
  rw [← hL] at hlc ⊢
  obtain ⟨M, hM⟩ : ∃ M, M = m.length := ⟨_, rfl⟩
  have HM2 := Hid.intro hM
  have HS2 := Hid.intro h2
  rw [← hM] at hmc ⊢
  have hml2 : M ≤ maxLen := Nat.le_trans hmc hbcap
  have hml : L ≤ maxLen := Nat.le_trans hlc hcap
  clear BA nA h hL h2 hM
  go_enter Tryd.func3, Tryd.ntmps3
  go_wp2_with fail
  refine AL.out.mono ?_
  rintro e w1 ⟨rfl, B1⟩
  have N1 := Hid.intro ((B1.block _ (lt_of_heap NAH.out)).trans NAH.out)
  have B1H := Hid.intro (BAH.out.trans (B1.mono BAH.out.size))
  clear AL B1 NAH BAH
  by_cases hbig : 80 < L
  · have hbig' : (80 : Int) < (L : Int) := by omega
    go_wp2
    go_ret
    exact ⟨rfl, B1H.out⟩
  have hbig' : ¬ (80 : Int) < (L : Int) := by omega
  have h80 : L ≤ 80 := by omega
  by_cases hbig2 : 80 < M
  · have hbig2' : (80 : Int) < (M : Int) := by omega
    go_wp2
    go_ret
    exact ⟨rfl, B1H.out⟩
  have hbig2' : ¬ (80 : Int) < (M : Int) := by omega
  have h80m : M ≤ 80 := by omega
  clear hbig hbig2
  go_wp2_with fail
  go_loopw [7] (fun i ws => ∃ t : Nat, t ≤ L ∧ i = .int .i64 t ∧ Below w1.heap.size w1 ws) (fun i _ => L - (intOf i).toNat)
  case atStart => exact ⟨0, by omega, rfl, Below.refl _ _⟩
  case round =>
    obtain ⟨t, ht, rfl, hB⟩ := hrel
    have BH := Hid.intro hB
    by_cases hlt : t < L
    · have t0 : (0 : Int) ≤ (t : Int) := by omega
      have t1 : (t : Int) < (L : Int) := by omega
      have htl : t < l.length := by rw [← HL.out]; exact hlt
      obtain ⟨pb, off, rfl, hp⟩ := cellsM HS.out (by omega)
      obtain ⟨q0, q1, q2⟩ := hp t htl
      have s0 := cellM hB (cellM B1H.out q0)
      have s1 := cellM hB (cellM B1H.out q1)
      have s2 := cellM hB (cellM B1H.out q2)
      generalize l[t] = x at s0 s1 s2
      clear hp q0 q1 q2 hB
      obtain ⟨x0, x1, x2⟩ := x
      have KEEP : Hid (∀ W, Below wr.heap.size wr W → W.cell? ⟨pb, off + t * 3, none⟩ = some (.int .i64 x0) ∧ W.cell? ⟨pb, off + t * 3 + 1, none⟩ = some (.int .i64 x1) ∧ W.cell? ⟨pb, off + t * 3 + 2, none⟩ = some (.int .i64 x2)) := fun W hb => ⟨cellM hb s0, cellM hb s1, cellM hb s2⟩
      have CR : Hid (∀ W, Calls Tryd.prog 10 #[.agg #[.int .i64 x0, .int .i64 x1, .int .i64 x2]] W fun e w' => e = .returned (.bool (rightM ⟨x0, x1, x2⟩)) ∧ Below W.heap.size W w') := fun W => cright_any ⟨x0, x1, x2⟩ W
      have RR : Hid (∀ W, Calls Tryd.prog 11 #[.agg #[.int .i64 x0, .int .i64 x1, .int .i64 x2]] W fun e w' => e = .returned (.bool (rightM ⟨x0, x1, x2⟩)) ∧ Below W.heap.size W w') := fun W => refRight_any ⟨x0, x1, x2⟩ W
      have CN : Hid (∀ W, Calls Tryd.prog 12 #[.agg #[.int .i64 x0, .int .i64 x1, .int .i64 x2]] W fun e w' => e = .returned (.bool (numericM ⟨x0, x1, x2⟩)) ∧ Below W.heap.size W w') := fun W => cnumeric_any ⟨x0, x1, x2⟩ W
      cases hx : rightM ⟨x0, x1, x2⟩ with
      | true =>
        have hn : numericM ⟨x0, x1, x2⟩ = decide (x0 ≠ 5) := by unfold numericM; rw [hx]; rfl
        rw [hx] at CR RR
        rw [hn] at CN
        clear hn hx
        by_cases h5 : x0 = 5
        · subst h5
          rw [show decide ((5 : Int) ≠ 5) = false from rfl] at CN
          go_wp2_with fail
          go_region_held3 (fun W => W.cell? ⟨pb, off + t * 3, none⟩ = some (.int .i64 5) ∧ W.cell? ⟨pb, off + t * 3 + 1, none⟩ = some (.int .i64 x1) ∧ W.cell? ⟨pb, off + t * 3 + 2, none⟩ = some (.int .i64 x2))
            (first | exact KEEP.out _ E5 | exact KEEP.out _ E4 | exact KEEP.out _ E3 | exact KEEP.out _ E2 | go_keep)
            (first
              | (go_at_call 10; refine (CR.out _).mono ?_; rintro e w2 ⟨rfl, B2⟩; have E2 : Below wr.heap.size wr w2 := undrewM B2; clear B2)
              | (have _ := E4; go_at_call 11; refine (RR.out _).mono ?_; rintro e w5 ⟨rfl, B5⟩; have E5 := E4.trans (B5.mono E4.size); clear B5)
              | (go_at_call 11; refine (RR.out _).mono ?_; rintro e w3 ⟨rfl, B3⟩; have E3 := E2.trans (B3.mono E2.size); clear B3)
              | (go_at_call 12; refine (CN.out _).mono ?_; rintro e w4 ⟨rfl, B4⟩; have E4 := E3.trans (B4.mono E3.size); clear B4))
          all_goals
            have BZ := Hid.intro (BH.out.trans (E5.mono BH.out.size))
            clear E2 E3 E4 E5 CR RR CN KEEP s0 s1 s2
            go_wp2
            go_roundw
            case rel => exact ⟨t + 1, by omega, by go_num, BZ.out⟩
            case measure => simp [intOf]; omega
        · rw [show decide (x0 ≠ 5) = true from decide_eq_true h5] at CN
          have h5' : (x0 != 5) = true := by rw [bne_iff_ne]; exact h5
          go_wp2_with fail
          go_region_held3 (fun W => W.cell? ⟨pb, off + t * 3, none⟩ = some (.int .i64 x0) ∧ W.cell? ⟨pb, off + t * 3 + 1, none⟩ = some (.int .i64 x1) ∧ W.cell? ⟨pb, off + t * 3 + 2, none⟩ = some (.int .i64 x2))
            (first | exact KEEP.out _ E5 | exact KEEP.out _ E4 | exact KEEP.out _ E3 | exact KEEP.out _ E2 | go_keep)
            (first
              | (go_at_call 10; refine (CR.out _).mono ?_; rintro e w2 ⟨rfl, B2⟩; have E2 : Below wr.heap.size wr w2 := undrewM B2; clear B2)
              | (have _ := E4; go_at_call 11; refine (RR.out _).mono ?_; rintro e w5 ⟨rfl, B5⟩; have E5 := E4.trans (B5.mono E4.size); clear B5)
              | (go_at_call 11; refine (RR.out _).mono ?_; rintro e w3 ⟨rfl, B3⟩; have E3 := E2.trans (B3.mono E2.size); clear B3)
              | (go_at_call 12; refine (CN.out _).mono ?_; rintro e w4 ⟨rfl, B4⟩; have E4 := E3.trans (B4.mono E3.size); clear B4))
          all_goals
            have BZ := Hid.intro (BH.out.trans (E5.mono BH.out.size))
            clear E2 E3 E4 E5 CR RR CN KEEP s0 s1 s2
            go_wp2
            go_roundw
            case rel => exact ⟨t + 1, by omega, by go_num, BZ.out⟩
            case measure => simp [intOf]; omega
      | false =>
        have hn : numericM ⟨x0, x1, x2⟩ = false := by unfold numericM; rw [hx]; rfl
        rw [hx] at CR RR
        rw [hn] at CN
        clear hn hx
        go_wp2_with fail
        refine wp_region_held_drew (S := (fun W => W.cell? ⟨pb, off + t * 3, none⟩ = some (.int .i64 x0) ∧ W.cell? ⟨pb, off + t * 3 + 1, none⟩ = some (.int .i64 x1) ∧ W.cell? ⟨pb, off + t * 3 + 2, none⟩ = some (.int .i64 x2))) (by kernel_rfl) ⟨s0, s1, s2⟩ (fun hHeld => ?_)
        refine wpAnyH_take (i := 0) (oi := { dst := some 29, op := Op.move (Operand.tmp 1), type := 24, pos := "law.go:32", after := #[], guard := none }) (v := ?v0) rfl (by kernel_rfl) (by kernel_rfl) (by kernel_rfl) (fun _ _ _ h => h) (Or.inl ⟨by rfl, ?hy0⟩) (by assumption) ?rest0
        case hy0 => (intro w hSw; (try dsimp only at hSw); go_simp; try (with_reducible rfl))
        simp only [Act.put, List.setIfInBounds_toArray, List.set_cons_zero, List.set_cons_succ]
        refine wpAnyH_take (i := 1) (oi := { dst := some 30, op := Op.move (Operand.tmp 7), type := 3, pos := "law.go:32", after := #[], guard := none }) (v := ?v1) rfl (by kernel_rfl) (by kernel_rfl) (by kernel_rfl) (fun _ _ _ h => h) (Or.inl ⟨by rfl, ?hy1⟩) (by assumption) ?rest1
        case hy1 => (intro w hSw; (try dsimp only at hSw); go_simp; try (with_reducible rfl))
        simp only [Act.put, List.setIfInBounds_toArray, List.set_cons_zero, List.set_cons_succ]
        refine wpAnyH_take (i := 2) (oi := { dst := some 31, op := Op.indexAddr 24 (Operand.tmp 29) (Operand.tmp 30), type := 0, pos := "law.go:32", after := #[{ on := 0, ground := Ground.data }, { on := 1, ground := Ground.data }], guard := none }) (v := ?v2) rfl (by kernel_rfl) (by kernel_rfl) (by kernel_rfl) (fun _ _ _ h => h) (Or.inl ⟨by rfl, ?hy2⟩) (by assumption) ?rest2
        case hy2 => (intro w hSw; (try dsimp only at hSw); go_simp; try (with_reducible rfl))
        simp only [Act.put, List.setIfInBounds_toArray, List.set_cons_zero, List.set_cons_succ]
        refine wpAnyH_take (i := 3) (oi := { dst := some 32, op := Op.load 28 (Operand.tmp 31), type := 28, pos := "law.go:32", after := #[{ on := 2, ground := Ground.data }], guard := none }) (v := ?v3) rfl (by kernel_rfl) (by kernel_rfl) (by kernel_rfl) (fun _ _ _ h => h) (Or.inl ⟨by rfl, ?hy3⟩) (by assumption) ?rest3
        case hy3 => (intro w hSw; (try dsimp only at hSw); go_simp; try (with_reducible rfl))
        simp only [Act.put, List.setIfInBounds_toArray, List.set_cons_zero, List.set_cons_succ]
        refine wpAnyH_take (i := 5) (oi := { dst := some 34, op := Op.move (Operand.tmp 1), type := 24, pos := "law.go:32", after := #[], guard := none }) (v := ?v5) rfl (by kernel_rfl) (by kernel_rfl) (by kernel_rfl) (fun _ _ _ h => h) (Or.inl ⟨by rfl, ?hy5⟩) (by assumption) ?rest5
        case hy5 => (intro w hSw; (try dsimp only at hSw); go_simp; try (with_reducible rfl))
        simp only [Act.put, List.setIfInBounds_toArray, List.set_cons_zero, List.set_cons_succ]
        refine wpAnyH_take (i := 6) (oi := { dst := some 35, op := Op.move (Operand.tmp 7), type := 3, pos := "law.go:32", after := #[], guard := none }) (v := ?v6) rfl (by kernel_rfl) (by kernel_rfl) (by kernel_rfl) (fun _ _ _ h => h) (Or.inl ⟨by rfl, ?hy6⟩) (by assumption) ?rest6
        case hy6 => (intro w hSw; (try dsimp only at hSw); go_simp; try (with_reducible rfl))
        simp only [Act.put, List.setIfInBounds_toArray, List.set_cons_zero, List.set_cons_succ]
        refine wpAnyH_take (i := 7) (oi := { dst := some 36, op := Op.indexAddr 24 (Operand.tmp 34) (Operand.tmp 35), type := 0, pos := "law.go:32", after := #[{ on := 5, ground := Ground.data }, { on := 6, ground := Ground.data }], guard := none }) (v := ?v7) rfl (by kernel_rfl) (by kernel_rfl) (by kernel_rfl) (fun _ _ _ h => h) (Or.inl ⟨by rfl, ?hy7⟩) (by assumption) ?rest7
        case hy7 => (intro w hSw; (try dsimp only at hSw); go_simp; try (with_reducible rfl))
        simp only [Act.put, List.setIfInBounds_toArray, List.set_cons_zero, List.set_cons_succ]
        refine wpAnyH_take (i := 8) (oi := { dst := some 37, op := Op.load 28 (Operand.tmp 36), type := 28, pos := "law.go:32", after := #[{ on := 7, ground := Ground.data }], guard := none }) (v := ?v8) rfl (by kernel_rfl) (by kernel_rfl) (by kernel_rfl) (fun _ _ _ h => h) (Or.inl ⟨by rfl, ?hy8⟩) (by assumption) ?rest8
        case hy8 => (intro w hSw; (try dsimp only at hSw); go_simp; try (with_reducible rfl))
        simp only [Act.put, List.setIfInBounds_toArray, List.set_cons_zero, List.set_cons_succ]
        refine wpAnyH_ready (rs := [4]) (by kernel_rfl) (by simp) ?_
        refine AllReadyH.cons (o := { dst := some 33, op := Op.call { callee := Callee.value (Operand.func 10), args := #[Operand.tmp 32], argTypes := #[28] }, type := 4, pos := "law.go:32", after := #[{ on := 3, ground := Ground.data }], guard := none }) rfl (fun K hK => ?_) AllReadyH.nil
        go_simp
        refine (CR.out _).mono ?_
        rintro e w2 ⟨rfl, B2⟩
        have E2 : Below wr.heap.size wr w2 := undrewM B2
        clear B2
        go_wp2_with fail
        refine hK.out _ _ (KEEP.out _ E2) (fun hHeld => ?_)
        clear hK K
        try simp only [Act.put, List.setIfInBounds_toArray, List.set_cons_zero, List.set_cons_succ]
        refine wpAnyH_ready (rs := [9]) (by kernel_rfl) (by simp) ?_
        refine AllReadyH.cons (o := { dst := some 38, op := Op.call { callee := Callee.value (Operand.func 11), args := #[Operand.tmp 37], argTypes := #[28] }, type := 4, pos := "law.go:32", after := #[{ on := 8, ground := Ground.data }, { on := 4, ground := Ground.chain }], guard := none }) rfl (fun K hK => ?_) AllReadyH.nil
        go_simp
        refine (RR.out _).mono ?_
        rintro e w3 ⟨rfl, B3⟩
        have E3 := E2.trans (B3.mono E2.size)
        clear B3
        go_wp2_with fail
        refine hK.out _ _ (KEEP.out _ E3) (fun hHeld => ?_)
        clear hK K
        try simp only [Act.put, List.setIfInBounds_toArray, List.set_cons_zero, List.set_cons_succ]
        refine wpAnyH_take (i := 10) (oi := { dst := some 39, op := Op.binOp BinOp.neq 4 (Operand.tmp 33) (Operand.tmp 38) 4, type := 4, pos := "law.go:32", after := #[{ on := 4, ground := Ground.data }, { on := 9, ground := Ground.data }], guard := none }) (v := ?v10) rfl (by kernel_rfl) (by kernel_rfl) (by kernel_rfl) (fun _ _ _ h => h) (Or.inl ⟨by rfl, ?hy10⟩) (by assumption) ?rest10
        case hy10 => (intro w hSw; (try dsimp only at hSw); go_simp; try (with_reducible rfl))
        simp only [Act.put, List.setIfInBounds_toArray, List.set_cons_zero, List.set_cons_succ]
        refine wpAnyH_take (i := 11) (oi := { dst := some 40, op := Op.move (Operand.tmp 39), type := 4, pos := "law.go:32", after := #[{ on := 10, ground := Ground.data }, { on := 9, ground := Ground.chain }], guard := none }) (v := ?v11) rfl (by kernel_rfl) (by kernel_rfl) (by kernel_rfl) (fun _ _ _ h => h) (Or.inl ⟨by rfl, ?hy11⟩) (by assumption) ?rest11
        case hy11 => (intro w hSw; (try dsimp only at hSw); go_simp; try (with_reducible rfl))
        simp only [Act.put, List.setIfInBounds_toArray, List.set_cons_zero, List.set_cons_succ]
        refine wpAnyH_take (i := 12) (oi := { dst := some 41, op := Op.move (Operand.tmp 1), type := 24, pos := "law.go:32", after := #[{ on := 11, ground := Ground.guard }], guard := some (11, false) }) (v := ?v12) rfl (by kernel_rfl) (by kernel_rfl) (by kernel_rfl) (fun _ _ _ h => h) (Or.inl ⟨by rfl, ?hy12⟩) (by assumption) ?rest12
        case hy12 => (intro w hSw; (try dsimp only at hSw); go_simp; try (with_reducible rfl))
        simp only [Act.put, List.setIfInBounds_toArray, List.set_cons_zero, List.set_cons_succ]
        refine wpAnyH_take (i := 13) (oi := { dst := some 42, op := Op.move (Operand.tmp 7), type := 3, pos := "law.go:32", after := #[{ on := 11, ground := Ground.guard }], guard := some (11, false) }) (v := ?v13) rfl (by kernel_rfl) (by kernel_rfl) (by kernel_rfl) (fun _ _ _ h => h) (Or.inl ⟨by rfl, ?hy13⟩) (by assumption) ?rest13
        case hy13 => (intro w hSw; (try dsimp only at hSw); go_simp; try (with_reducible rfl))
        simp only [Act.put, List.setIfInBounds_toArray, List.set_cons_zero, List.set_cons_succ]
        refine wpAnyH_take (i := 14) (oi := { dst := some 43, op := Op.indexAddr 24 (Operand.tmp 41) (Operand.tmp 42), type := 0, pos := "law.go:32", after := #[{ on := 12, ground := Ground.data }, { on := 13, ground := Ground.data }, { on := 11, ground := Ground.guard }], guard := some (11, false) }) (v := ?v14) rfl (by kernel_rfl) (by kernel_rfl) (by kernel_rfl) (fun _ _ _ h => h) (Or.inl ⟨by rfl, ?hy14⟩) (by assumption) ?rest14
        case hy14 => (intro w hSw; (try dsimp only at hSw); go_simp; try (with_reducible rfl))
        simp only [Act.put, List.setIfInBounds_toArray, List.set_cons_zero, List.set_cons_succ]
        refine wpAnyH_take (i := 15) (oi := { dst := some 44, op := Op.load 28 (Operand.tmp 43), type := 28, pos := "law.go:32", after := #[{ on := 14, ground := Ground.data }, { on := 11, ground := Ground.guard }], guard := some (11, false) }) (v := ?v15) rfl (by kernel_rfl) (by kernel_rfl) (by kernel_rfl) (fun _ _ _ h => h) (Or.inl ⟨by rfl, ?hy15⟩) (by assumption) ?rest15
        case hy15 => (intro w hSw; (try dsimp only at hSw); go_simp; try (with_reducible rfl))
        simp only [Act.put, List.setIfInBounds_toArray, List.set_cons_zero, List.set_cons_succ]
        refine wpAnyH_take (i := 17) (oi := { dst := some 46, op := Op.move (Operand.tmp 1), type := 24, pos := "law.go:32", after := #[{ on := 11, ground := Ground.guard }], guard := some (11, false) }) (v := ?v17) rfl (by kernel_rfl) (by kernel_rfl) (by kernel_rfl) (fun _ _ _ h => h) (Or.inl ⟨by rfl, ?hy17⟩) (by assumption) ?rest17
        case hy17 => (intro w hSw; (try dsimp only at hSw); go_simp; try (with_reducible rfl))
        simp only [Act.put, List.setIfInBounds_toArray, List.set_cons_zero, List.set_cons_succ]
        refine wpAnyH_take (i := 18) (oi := { dst := some 47, op := Op.move (Operand.tmp 7), type := 3, pos := "law.go:32", after := #[{ on := 11, ground := Ground.guard }], guard := some (11, false) }) (v := ?v18) rfl (by kernel_rfl) (by kernel_rfl) (by kernel_rfl) (fun _ _ _ h => h) (Or.inl ⟨by rfl, ?hy18⟩) (by assumption) ?rest18
        case hy18 => (intro w hSw; (try dsimp only at hSw); go_simp; try (with_reducible rfl))
        simp only [Act.put, List.setIfInBounds_toArray, List.set_cons_zero, List.set_cons_succ]
        refine wpAnyH_take (i := 19) (oi := { dst := some 48, op := Op.indexAddr 24 (Operand.tmp 46) (Operand.tmp 47), type := 0, pos := "law.go:32", after := #[{ on := 17, ground := Ground.data }, { on := 18, ground := Ground.data }, { on := 11, ground := Ground.guard }], guard := some (11, false) }) (v := ?v19) rfl (by kernel_rfl) (by kernel_rfl) (by kernel_rfl) (fun _ _ _ h => h) (Or.inl ⟨by rfl, ?hy19⟩) (by assumption) ?rest19
        case hy19 => (intro w hSw; (try dsimp only at hSw); go_simp; try (with_reducible rfl))
        simp only [Act.put, List.setIfInBounds_toArray, List.set_cons_zero, List.set_cons_succ]
        refine wpAnyH_take (i := 20) (oi := { dst := some 49, op := Op.load 28 (Operand.tmp 48), type := 28, pos := "law.go:32", after := #[{ on := 19, ground := Ground.data }, { on := 11, ground := Ground.guard }], guard := some (11, false) }) (v := ?v20) rfl (by kernel_rfl) (by kernel_rfl) (by kernel_rfl) (fun _ _ _ h => h) (Or.inl ⟨by rfl, ?hy20⟩) (by assumption) ?rest20
        case hy20 => (intro w hSw; (try dsimp only at hSw); go_simp; try (with_reducible rfl))
        simp only [Act.put, List.setIfInBounds_toArray, List.set_cons_zero, List.set_cons_succ]
        refine wpAnyH_ready (rs := [16]) (by kernel_rfl) (by simp) ?_
        refine AllReadyH.cons (o := { dst := some 45, op := Op.call { callee := Callee.value (Operand.func 12), args := #[Operand.tmp 44], argTypes := #[28] }, type := 4, pos := "law.go:32", after := #[{ on := 15, ground := Ground.data }, { on := 11, ground := Ground.chain }, { on := 11, ground := Ground.guard }], guard := some (11, false) }) rfl (fun K hK => ?_) AllReadyH.nil
        go_simp
        refine (CN.out _).mono ?_
        rintro e w4 ⟨rfl, B4⟩
        have E4 := E3.trans (B4.mono E3.size)
        clear B4
        go_wp2_with fail
        refine hK.out _ _ (KEEP.out _ E4) (fun hHeld => ?_)
        clear hK K
        try simp only [Act.put, List.setIfInBounds_toArray, List.set_cons_zero, List.set_cons_succ]
        refine wpAnyH_ready (rs := [21]) (by kernel_rfl) (by simp) ?_
        refine AllReadyH.cons (o := { dst := some 50, op := Op.call { callee := Callee.value (Operand.func 11), args := #[Operand.tmp 49], argTypes := #[28] }, type := 4, pos := "law.go:32", after := #[{ on := 20, ground := Ground.data }, { on := 16, ground := Ground.chain }, { on := 11, ground := Ground.guard }], guard := some (11, false) }) rfl (fun K hK => ?_) AllReadyH.nil
        go_simp
        refine (RR.out _).mono ?_
        rintro e w5 ⟨rfl, B5⟩
        have E5 := E4.trans (B5.mono E4.size)
        clear B5
        go_wp2_with fail
        refine hK.out _ _ (KEEP.out _ E5) (fun hHeld => ?_)
        clear hK K
        try simp only [Act.put, List.setIfInBounds_toArray, List.set_cons_zero, List.set_cons_succ]
        refine wpAnyH_take (i := 22) (oi := { dst := some 51, op := Op.move (Operand.tmp 50), type := 4, pos := "law.go:32", after := #[{ on := 21, ground := Ground.data }, { on := 21, ground := Ground.chain }, { on := 11, ground := Ground.guard }], guard := some (11, false) }) (v := ?v22) rfl (by kernel_rfl) (by kernel_rfl) (by kernel_rfl) (fun _ _ _ h => h) (Or.inl ⟨by rfl, ?hy22⟩) (by assumption) ?rest22
        case hy22 => (intro w hSw; (try dsimp only at hSw); go_simp; try (with_reducible rfl))
        simp only [Act.put, List.setIfInBounds_toArray, List.set_cons_zero, List.set_cons_succ]
        refine wpAnyH_take (i := 23) (oi := { dst := some 52, op := Op.move (Operand.tmp 1), type := 24, pos := "law.go:32", after := #[{ on := 22, ground := Ground.guard }], guard := some (22, true) }) (v := undef) rfl (by kernel_rfl) (by kernel_rfl) (by kernel_rfl) (fun _ _ _ h => h) (Or.inr ⟨by rfl, rfl⟩) (by assumption) ?_
        simp only [Act.put, List.setIfInBounds_toArray, List.set_cons_zero, List.set_cons_succ]
        refine wpAnyH_take (i := 24) (oi := { dst := some 53, op := Op.move (Operand.tmp 7), type := 3, pos := "law.go:32", after := #[{ on := 22, ground := Ground.guard }], guard := some (22, true) }) (v := undef) rfl (by kernel_rfl) (by kernel_rfl) (by kernel_rfl) (fun _ _ _ h => h) (Or.inr ⟨by rfl, rfl⟩) (by assumption) ?_
        simp only [Act.put, List.setIfInBounds_toArray, List.set_cons_zero, List.set_cons_succ]
        refine wpAnyH_take (i := 25) (oi := { dst := some 54, op := Op.indexAddr 24 (Operand.tmp 52) (Operand.tmp 53), type := 0, pos := "law.go:32", after := #[{ on := 23, ground := Ground.data }, { on := 24, ground := Ground.data }, { on := 22, ground := Ground.guard }], guard := some (22, true) }) (v := undef) rfl (by kernel_rfl) (by kernel_rfl) (by kernel_rfl) (fun _ _ _ h => h) (Or.inr ⟨by rfl, rfl⟩) (by assumption) ?_
        simp only [Act.put, List.setIfInBounds_toArray, List.set_cons_zero, List.set_cons_succ]
        refine wpAnyH_take (i := 26) (oi := { dst := some 55, op := Op.fieldAddr 28 (Operand.tmp 54) 0, type := 0, pos := "law.go:32", after := #[{ on := 25, ground := Ground.data }, { on := 22, ground := Ground.guard }], guard := some (22, true) }) (v := undef) rfl (by kernel_rfl) (by kernel_rfl) (by kernel_rfl) (fun _ _ _ h => h) (Or.inr ⟨by rfl, rfl⟩) (by assumption) ?_
        simp only [Act.put, List.setIfInBounds_toArray, List.set_cons_zero, List.set_cons_succ]
        refine wpAnyH_take (i := 27) (oi := { dst := some 56, op := Op.load 3 (Operand.tmp 55), type := 3, pos := "law.go:32", after := #[{ on := 26, ground := Ground.data }, { on := 22, ground := Ground.guard }], guard := some (22, true) }) (v := undef) rfl (by kernel_rfl) (by kernel_rfl) (by kernel_rfl) (fun _ _ _ h => h) (Or.inr ⟨by rfl, rfl⟩) (by assumption) ?_
        simp only [Act.put, List.setIfInBounds_toArray, List.set_cons_zero, List.set_cons_succ]
        refine wpAnyH_take (i := 28) (oi := { dst := some 57, op := Op.binOp BinOp.neq 3 (Operand.tmp 56) (Operand.const (Value.int IntKind.i64 5)) 3, type := 4, pos := "law.go:32", after := #[{ on := 27, ground := Ground.data }, { on := 22, ground := Ground.guard }], guard := some (22, true) }) (v := undef) rfl (by kernel_rfl) (by kernel_rfl) (by kernel_rfl) (fun _ _ _ h => h) (Or.inr ⟨by rfl, rfl⟩) (by assumption) ?_
        simp only [Act.put, List.setIfInBounds_toArray, List.set_cons_zero, List.set_cons_succ]
        refine wpAnyH_take (i := 29) (oi := { dst := some 58, op := Op.pick (Operand.tmp 51) (Operand.tmp 57) (Operand.const (Value.bool false)), type := 4, pos := "law.go:32", after := #[{ on := 22, ground := Ground.data }, { on := 28, ground := Ground.data }, { on := 11, ground := Ground.guard }], guard := some (11, false) }) (v := ?v29) rfl (by kernel_rfl) (by kernel_rfl) (by kernel_rfl) (fun _ _ _ h => h) (Or.inl ⟨by rfl, ?hy29⟩) (by assumption) ?rest29
        case hy29 => (intro w hSw; (try dsimp only at hSw); go_simp; try (with_reducible rfl))
        simp only [Act.put, List.setIfInBounds_toArray, List.set_cons_zero, List.set_cons_succ]
        refine wpAnyH_take (i := 30) (oi := { dst := some 59, op := Op.binOp BinOp.neq 4 (Operand.tmp 45) (Operand.tmp 58) 4, type := 4, pos := "law.go:32", after := #[{ on := 16, ground := Ground.data }, { on := 29, ground := Ground.data }, { on := 11, ground := Ground.guard }], guard := some (11, false) }) (v := ?v30) rfl (by kernel_rfl) (by kernel_rfl) (by kernel_rfl) (fun _ _ _ h => h) (Or.inl ⟨by rfl, ?hy30⟩) (by assumption) ?rest30
        case hy30 => (intro w hSw; (try dsimp only at hSw); go_simp; try (with_reducible rfl))
        simp only [Act.put, List.setIfInBounds_toArray, List.set_cons_zero, List.set_cons_succ]
        refine wpAnyH_take (i := 31) (oi := { dst := some 60, op := Op.pick (Operand.tmp 40) (Operand.const (Value.bool true)) (Operand.tmp 59), type := 4, pos := "law.go:32", after := #[{ on := 11, ground := Ground.data }, { on := 30, ground := Ground.data }], guard := none }) (v := ?v31) rfl (by kernel_rfl) (by kernel_rfl) (by kernel_rfl) (fun _ _ _ h => h) (Or.inl ⟨by rfl, ?hy31⟩) (by assumption) ?rest31
        case hy31 => (intro w hSw; (try dsimp only at hSw); go_simp; try (with_reducible rfl))
        simp only [Act.put, List.setIfInBounds_toArray, List.set_cons_zero, List.set_cons_succ]
        refine wpAnyH_done (by kernel_rfl) ?_ _
        have BZ := Hid.intro (BH.out.trans (E5.mono BH.out.size))
        clear E2 E3 E4 E5 CR RR CN KEEP s0 s1 s2
        go_wp2
        go_roundw
        case rel => exact ⟨t + 1, by omega, by go_num, BZ.out⟩
        case measure => simp [intOf]; omega
    · obtain rfl : t = L := by omega
      have tt : ¬ (t : Int) < (t : Int) := by omega
      have n3 := (hB.block _ (lt_of_heap N1.out)).trans N1.out
      have c0 : wr.cell? ⟨w.heap.size, 0, none⟩ = some (.int .i64 k) := by rw [cell_of_row _ _ 0 _ _ _ n3]; rfl
      have c1 : wr.cell? ⟨w.heap.size, 1, none⟩ = some (.int .i64 n) := by rw [cell_of_row _ _ 1 _ _ _ n3]; rfl
      have c2 : wr.cell? ⟨w.heap.size, 2, none⟩ = some (.int .i64 s) := by rw [cell_of_row _ _ 2 _ _ _ n3]; rfl
      have BW := Hid.intro (B1H.out.trans (hB.mono B1H.out.size))
      clear n3 hB
      have MA := Hid.intro (fun W => refMay_any k n s W)
      have FI := Hid.intro (fun W => cfits_any k n s W)
      go_wp2_with fail
      refine (MA.out _).mono ?_
      rintro e w2 ⟨rfl, B2⟩
      have d0 := cellM B2 c0
      have d1 := cellM B2 c1
      have d2 := cellM B2 c2
      have BW2 := Hid.intro (BW.out.trans (B2.mono BW.out.size))
      clear MA B2 c0 c1 c2 BW
      have CP : Hid (∀ W, Below w.heap.size w W → Calls Tryd.prog 14 #[Cd k n s, .slice ao t cap] W fun e w' => ∃ a c, e = .returned (.tuple #[.slice a (packT k n s l).length c, .int .i64 (packE k n s l)]) ∧ Reads w' a (packT k n s l) ∧ Room a c (packT k n s l).length ∧ (∀ ad, a = some ad → W.heap.size ≤ ad.block) ∧ Below W.heap.size W w') := fun W hW => by
        have q := cpack_any k n s _ ao cap l (by rw [← HL.out]; exact h80) W (HWD.out.below hW) (HS.out.below hW)
        rw [← HL.out] at q
        exact q
      have RP : Hid (∀ W, Below w.heap.size w W → Calls Tryd.prog 15 #[Cd k n s, .slice ao t cap] W fun e w' => ∃ a c, e = .returned (.tuple #[.slice a (packT k n s l).length c, .int .i64 (packE k n s l)]) ∧ Reads w' a (packT k n s l) ∧ Below W.heap.size W w') := fun W hW => by
        have q := refPack_any k n s _ ao cap l (by rw [← HL.out]; exact h80) W (HS.out.below hW)
        rw [← HL.out] at q
        exact q
      have PF := Hid.intro (packT_few (k := k) (n := n) (s := s) (l := l))
      obtain ⟨pe, hpe⟩ : ∃ pe, pe = packE k n s l := ⟨_, rfl⟩
      obtain ⟨T, hTT⟩ : ∃ T, T = packT k n s l := ⟨_, rfl⟩
      have HPE := Hid.intro hpe
      have HTT := Hid.intro hTT
      have HRW : Hid (packT k n s l = T ∧ packE k n s l = pe) := ⟨hTT.symm, hpe.symm⟩
      rw [← hTT] at PF
      clear hpe hTT HRW
      cases hm : mayC k n s with
      | false =>
        have hf : fitsM k n s = 0 := by unfold fitsM; rw [if_neg (by rw [hm]; decide)]
        rw [hf] at FI
        clear hf hm
        have P3 := CP.out _ BW2.out
        rw [← HPE.out, ← HTT.out] at P3
        obtain ⟨TN, hTN⟩ : ∃ TN, TN = T.length := ⟨_, rfl⟩
        have HTN := Hid.intro hTN
        rw [← hTN] at P3
        have P3H := Hid.intro P3
        clear P3 CP hTN
        go_wp2_with fail
        refine P3H.out.mono ?_
        rintro e w3 ⟨a3, c3, rfl, r3, _, _, B3⟩
        have e0 := cellM B3 d0
        have e1 := cellM B3 d1
        have e2 := cellM B3 d2
        have BW3 := Hid.intro (BW2.out.trans (B3.mono BW2.out.size))
        have R3 := Hid.intro r3
        have P4 := RP.out _ BW3.out
        rw [← HPE.out, ← HTT.out, ← HTN.out] at P4
        have P4H := Hid.intro P4
        clear P3H B3 d0 d1 d2 r3 P4 RP
        go_wp2_with fail
        refine P4H.out.mono ?_
        rintro e w4 ⟨a4, c4, rfl, r4, B4⟩
        have f0 := cellM B4 e0
        have f1 := cellM B4 e1
        have f2 := cellM B4 e2
        have BW4 := Hid.intro (BW3.out.trans (B4.mono BW3.out.size))
        have SB := same_true a3 a4 c3 c4 T (by have := PF.out; omega) w4 (R3.out.below B4) r4
        rw [← HTN.out] at SB
        have SBH := Hid.intro SB
        clear P4H B4 e0 e1 e2 r4 SB R3
        go_wp2_with fail
        refine SBH.out.mono ?_
        rintro e w5 ⟨rfl, q5, hq5⟩
        have B5 : Below w4.heap.size w4 w5 := by rw [hq5]; exact ⟨rfl, rfl, rfl, Nat.le_refl _, fun _ _ => rfl⟩
        have g0 := cellM B5 f0
        have g1 := cellM B5 f1
        have g2 := cellM B5 f2
        have BW5 := Hid.intro (BW4.out.trans (B5.mono BW4.out.size))
        clear SBH hq5 B5 f0 f1 f2
        go_wp2_with fail
        refine (FI.out _).mono ?_
        rintro e w6 ⟨rfl, B6⟩
        have BW6 := Hid.intro (BW5.out.trans (B6.mono BW5.out.size))
        have CS := csame_any _ _ (.slice ao l.length cap) (.slice bo m.length bcap) l m (by rw [← HL.out]; omega) (by rw [← HM2.out]; omega) w6 (HS.out.below BW6.out) (HS2.out.below BW6.out)
        rw [← HL.out, ← HM2.out] at CS
        have CSH := Hid.intro CS
        clear FI B6 CS g0 g1 g2
        have RS : Hid (∀ W, Below w.heap.size w W → Calls Tryd.prog 19 #[.slice ao t cap, .slice bo M bcap] W fun e w' => e = .returned (.bool (decide (l = m))) ∧ Below W.heap.size W w') := fun W hW => by
          have q := refSame10_any _ _ (.slice ao l.length cap) (.slice bo m.length bcap) l m (by rw [← HL.out]; omega) (by rw [← HM2.out]; omega) W (HS.out.below hW) (HS2.out.below hW)
          rw [← HL.out, ← HM2.out] at q
          exact q
        generalize decide (l = m) = lm at CSH RS
        go_wp2_with fail
        refine CSH.out.mono ?_
        rintro e w7 ⟨rfl, B7⟩
        have BW7 := Hid.intro (BW6.out.trans (B7.mono BW6.out.size))
        clear CSH B7
        go_wp2_with fail
        refine (RS.out _ BW7.out).mono ?_
        rintro e w8 ⟨rfl, B8⟩
        have BW8 := Hid.intro (BW7.out.trans (B8.mono BW7.out.size))
        clear RS B8
        cases lm <;>
        · go_wp2
          go_ret
          exact ⟨rfl, BW8.out⟩
      | true =>
        have hmm := mayC_true hm
        have hks : 1 ≤ k * s ∧ k * s ≤ 144 := by
          have a1 : k * s ≤ 6 * s := Int.mul_le_mul_of_nonneg_right hmm.2.1 (by omega)
          have a2 : 0 < k * s := Int.mul_pos (by omega) (by omega)
          omega
        have hf : fitsM k n s = (k * s - 1) / 3 := by unfold fitsM; rw [if_pos hm]
        obtain ⟨p, hp⟩ : ∃ p, p = k * s := ⟨_, rfl⟩
        have hwq : IntKind.i64.wrap (k * s) = p := by rw [hp]; exact IntWalk.i64_in _ (by omega)
        rw [← hp] at hf hks
        obtain ⟨fi, hfi⟩ : ∃ fi, fi = (p - 1) / 3 := ⟨_, rfl⟩
        have hw1 : IntKind.i64.wrap (p - 1) = p - 1 := IntWalk.i64_in _ (by omega)
        have hw2 : (p - 1) / 3 = fi := hfi.symm
        rw [hf, ← hfi] at FI
        clear hf hm hmm hp hfi
        have P3 := CP.out _ BW2.out
        rw [← HPE.out, ← HTT.out] at P3
        obtain ⟨TN, hTN⟩ : ∃ TN, TN = T.length := ⟨_, rfl⟩
        have HTN := Hid.intro hTN
        rw [← hTN] at P3
        have P3H := Hid.intro P3
        clear P3 CP hTN
        go_wp2_with fail
        refine P3H.out.mono ?_
        rintro e w3 ⟨a3, c3, rfl, r3, _, _, B3⟩
        have e0 := cellM B3 d0
        have e1 := cellM B3 d1
        have e2 := cellM B3 d2
        have BW3 := Hid.intro (BW2.out.trans (B3.mono BW2.out.size))
        have R3 := Hid.intro r3
        have P4 := RP.out _ BW3.out
        rw [← HPE.out, ← HTT.out, ← HTN.out] at P4
        have P4H := Hid.intro P4
        clear P3H B3 d0 d1 d2 r3 P4 RP
        go_wp2_with fail
        refine P4H.out.mono ?_
        rintro e w4 ⟨a4, c4, rfl, r4, B4⟩
        have f0 := cellM B4 e0
        have f1 := cellM B4 e1
        have f2 := cellM B4 e2
        have BW4 := Hid.intro (BW3.out.trans (B4.mono BW3.out.size))
        have SB := same_true a3 a4 c3 c4 T (by have := PF.out; omega) w4 (R3.out.below B4) r4
        rw [← HTN.out] at SB
        have SBH := Hid.intro SB
        clear P4H B4 e0 e1 e2 r4 SB R3
        go_wp2_with fail
        refine SBH.out.mono ?_
        rintro e w5 ⟨rfl, q5, hq5⟩
        have B5 : Below w4.heap.size w4 w5 := by rw [hq5]; exact ⟨rfl, rfl, rfl, Nat.le_refl _, fun _ _ => rfl⟩
        have g0 := cellM B5 f0
        have g1 := cellM B5 f1
        have g2 := cellM B5 f2
        have BW5 := Hid.intro (BW4.out.trans (B5.mono BW4.out.size))
        clear SBH hq5 B5 f0 f1 f2
        go_wp2_with fail
        refine (FI.out _).mono ?_
        rintro e w6 ⟨rfl, B6⟩
        have BW6 := Hid.intro (BW5.out.trans (B6.mono BW5.out.size))
        have CS := csame_any _ _ (.slice ao l.length cap) (.slice bo m.length bcap) l m (by rw [← HL.out]; omega) (by rw [← HM2.out]; omega) w6 (HS.out.below BW6.out) (HS2.out.below BW6.out)
        rw [← HL.out, ← HM2.out] at CS
        have CSH := Hid.intro CS
        clear FI B6 CS g0 g1 g2
        have RS : Hid (∀ W, Below w.heap.size w W → Calls Tryd.prog 19 #[.slice ao t cap, .slice bo M bcap] W fun e w' => e = .returned (.bool (decide (l = m))) ∧ Below W.heap.size W w') := fun W hW => by
          have q := refSame10_any _ _ (.slice ao l.length cap) (.slice bo m.length bcap) l m (by rw [← HL.out]; omega) (by rw [← HM2.out]; omega) W (HS.out.below hW) (HS2.out.below hW)
          rw [← HL.out, ← HM2.out] at q
          exact q
        generalize decide (l = m) = lm at CSH RS
        go_wp2_with fail
        refine CSH.out.mono ?_
        rintro e w7 ⟨rfl, B7⟩
        have BW7 := Hid.intro (BW6.out.trans (B7.mono BW6.out.size))
        clear CSH B7
        go_wp2_with fail
        refine (RS.out _ BW7.out).mono ?_
        rintro e w8 ⟨rfl, B8⟩
        have BW8 := Hid.intro (BW7.out.trans (B8.mono BW7.out.size))
        clear RS B8
        cases lm <;>
        · go_wp2
          go_ret
          exact ⟨rfl, BW8.out⟩

theorem walk (k n s : Int) (ao : Option Addr) (len cap : Nat) (l : List Smp) (bo : Option Addr) (bl bcap : Nat) (m : List Smp) (w : World) (_ : (Lit.int .i64 k).wf = true ∧ (Lit.int .i64 n).wf = true ∧ (Lit.int .i64 s).wf = true) (hz : l.length = len ∧ SmsAt (fun _ => True) w (.slice ao len cap) l ∧ len ≤ cap ∧ cap ≤ maxLen ∧ (ao = none → cap = 0)) (hy : m.length = bl ∧ SmsAt (fun _ => True) w (.slice bo bl bcap) m ∧ bl ≤ bcap ∧ bcap ≤ maxLen ∧ (bo = none → bcap = 0)) (hwd : WidR w) :
    Calls Tryd.prog 3 #[Cd k n s, .slice ao len cap, .slice bo bl bcap] w fun e w' => e = .returned (.bool true) ∧ Below w.heap.size w w' := by
  obtain ⟨hl, hr, hlc, hmx, _⟩ := hz
  obtain ⟨hl2, hr2, hlc2, hmx2, _⟩ := hy
  subst hl hl2
  exact walk_main k n s ao cap l hmx hlc bo bcap hmx2 m hlc2 w hwd hr hr2

set_option maxRecDepth 100000 in
theorem lifted (os : Os) (started : os.Started) (H : Type) (enc : TypeId × Value → H) :
    ReturnsInHanded {} Tryd.checked os 3 .any (fun w args => (Rows.recordPacksSpec.pre enc Tryd.prog Tryd.f3 [] false w args ∧ laidMetH Tryd.prog LW w) ∧ sizedMet enc Tryd.prog Tryd.f3 (OpenSpec.ofChange Rows.recordPacksSpec) false w args) (Rows.recordPacksSpec.post enc Tryd.prog Tryd.f3 false true false false) := by
  refine returnsInHanded_of_change_and (C := Tryd.checked) (X := fun w _ => laidMetH Tryd.prog LW w) (fun _ _ _ hh h => h.of_heap hh) own started (by kernel_rfl) Tryd.func3
    (ChangeSpec.witness_shaped (enc := enc) (C := Tryd.checked) (os := os) (X := fun w _ => laidMetH Tryd.prog LW w) false (World.doorLaid Tryd.prog 400 os) #[.agg #[.int .i64 0, .int .i64 0, .int .i64 0], .slice none 0 0, .slice none 0 0] 8 rfl (World.shaped_of_RefB (by kernel_rfl) (by kernel_rfl)) (by kernel_rfl) (by kernel_rfl) (by kernel_rfl) (door_met os _)) ?_
  intro W base args ds gs before hval0 hW _ _ hL _
  have hval : ∀ (j : Nat) t v, Tryd.f3.params[j]? = some t → args[j]? = some v → Value.okWide Tryd.prog W .any base t v := hval0
  have hW' := hW
  obtain ⟨p, q, hA0, hV, rfl, hfz, hnd⟩ := hW
  have hA : DataW.TrodAll enc Tryd.prog W 0 (fun _ => true) true Tryd.f3.params.toList args.toList ds p := hA0
  rw [Tryd.params3] at hA hval
  obtain ⟨v0, vs0, d0, ds0, p0, q0, hargs, rfl, rfl, h0, r0⟩ := trodAll_cons hA
  obtain ⟨v1, vs1, d1, ds1, p1, q1, rfl, rfl, rfl, h1, r1⟩ := trodAll_cons r0
  obtain ⟨v2, vs2, d2, ds2, p2, q2, rfl, rfl, rfl, h2, r2⟩ := trodAll_cons r1
  obtain ⟨rfl, rfl, rfl⟩ := trodAll_nil r2
  obtain rfl : args = #[v0, v1, v2] := by cases args; simp_all
  obtain ⟨rfl, rfl⟩ := trodVars_none hV
  have k0 := h0
  have lt0 : ∀ x ∈ p0, x.block < W.heap.size := by obtain ⟨m, hm⟩ := k0; exact DataW.trod_lt m _ _ _ hm
  obtain ⟨kc0, nc0, sc0, rfl, w0⟩ := open_code (hval 0 23 v0 rfl rfl) h0
  have k1 := h1
  have lt1 : ∀ x ∈ p1, x.block < W.heap.size := by obtain ⟨m, hm⟩ := k1; exact DataW.trod_lt m _ _ _ hm
  obtain ⟨a1, len1, cap1, rfl⟩ := okWide_slice Tryd.underlying24 (hval 1 24 v1 rfl rfl)
  obtain ⟨z1, w1⟩ := open_samples h1
  have k2 := h2
  have lt2 : ∀ x ∈ p2, x.block < W.heap.size := by obtain ⟨m, hm⟩ := k2; exact DataW.trod_lt m _ _ _ hm
  obtain ⟨a2, len2, cap2, rfl⟩ := okWide_slice Tryd.underlying24 (hval 2 24 v2 rfl rfl)
  obtain ⟨z2, w2⟩ := open_samples h2
  clear hA0 hval0
  refine (walk kc0 nc0 sc0 a1 len1 cap1 z1 a2 len2 cap2 z2 W w0 w1 w2 (laid_fact hL)).mono fun e W' ⟨he, bel⟩ => ?_
  subst he
  exact ⟨_, rfl, _, _, _, [], _, [], hW', trodAll_mk1 (shut_bool Tryd.underlying4 _), (trodAll_cons_mk (Below.trod laidOut (by kernel_rfl) (of_decide_eq_true (by kernel_rfl)) k0 bel lt0) (trodAll_cons_mk (Below.trod laidOut (by kernel_rfl) (of_decide_eq_true (by kernel_rfl)) k1 bel lt1) (trodAll_cons_mk (Below.trod laidOut (by kernel_rfl) (of_decide_eq_true (by kernel_rfl)) k2 bel lt2) trodAll_mk0))), rfl, bel.frame _, fun h => by cases h⟩

theorem over : Rows.recordPacksRow.holds Tryd.pinned (OpenSpec.ofChange Rows.recordPacksSpec) :=
  OpenClaim.holds_of_wide 3 Tryd.f3 rfl rfl rfl rfl rfl rfl rfl ⟨rfl, rfl, rfl, rfl, rfl⟩ rfl rfl rfl rfl rfl (by kernel_rfl) Tryd.func3 (by kernel_rfl)
    (of_decide_eq_true (by kernel_rfl)) (by unfold Func.isWrapper; first | (rw [if_pos (by decide +kernel)]; kernel_rfl) | (rw [if_neg (by decide +kernel)]; exact ⟨rfl, rfl⟩))
    (fun os started H enc _ => lifted os started H enc)

end Go.Proofs.YthbfdfkkacmbhaaDoor.LRecordPacks

namespace Go.Proofs.YthbfdfkkacmbhaaDoor
theorem recordPacks_holds : Rows.RecordPacksCardSaid :=
  Claim7.holds_tied_plain_at .later [] [.data] true (true, "48083bb0b2812a16015da9da29e02053fb694e0cc01e6d6a71d1c29f219818cd") false
    LRecordPacks.over (fun _ h => by cases h) (by kernel_rfl) (fun _ h => by cases h) recordPacks_row_tie rfl ⟨rfl, rfl⟩ (by kernel_rfl) rfl
    (fun f fn hf hfn => by
      obtain rfl : f = 3 := Option.some.inj ((show Tryd.prog.funcNamed "gurney/gurneylaw10.RecordPacks" = some 3 by kernel_rfl).symm.trans hf) |>.symm
      obtain rfl : fn = Tryd.f3 := (Option.some.inj (Tryd.func3.symm.trans hfn)).symm
      exact ⟨by kernel_rfl, fun j t ht => by
        rw [Tryd.params3] at ht
        have hm : t ∈ [23, 24, 24] := by simpa using Array.mem_of_getElem? ht
        have hall : ([23, 24, 24].all fun u => !Tryd.prog.wantsStandIn u) = true := by kernel_rfl
        exact (show Tryd.prog.wantsStandIn t = false by simpa using List.all_eq_true.1 hall t hm)⟩)
    (by kernel_rfl)
#print axioms recordPacks_holds
end Go.Proofs.YthbfdfkkacmbhaaDoor
