/- Package panel: what comes ahead: cmp.Compare, byAck, byKind, bySince, byBed, compare. -/
import Derived.Test.YtbeeigfcchjdlaaPnVal
import Derived.Test.YtbeeigfcchjdlaaPnLay
import Derived.Laws.EntriesVeiled
namespace Go.Proofs.Ytbeeigfcchjdlaa
open Go.RowKit Go.Sort
open Pn

/-- Draws, and blocks behind. -/
def Grw (w w' : World) : Prop := ∃ q os', w' = grow (w.drewN q) os'

theorem Grw.refl (w : World) : Grw w w := ⟨0, #[], by cases w; simp [grow, World.drewN]⟩

theorem grow_drewN (w : World) (os : Array Obj) (n : Nat) : (grow w os).drewN n = grow (w.drewN n) os := rfl

theorem drewN_drewN (w : World) (n m : Nat) : (w.drewN n).drewN m = w.drewN (n + m) := by
  simp [World.drewN, Nat.add_assoc]

theorem Grw.trans {a b c : World} (h : Grw a b) (k : Grw b c) : Grw a c := by
  obtain ⟨q, os, rfl⟩ := h
  obtain ⟨q2, os2, rfl⟩ := k
  exact ⟨q + q2, os ++ os2, by rw [grow_drewN, drewN_drewN, grow_grow]⟩

theorem Grw.alloc {a b : World} (h : Grw a b) (o : Obj) : Grw a (b.alloc o) := h.trans ⟨0, #[o], by rw [alloc_eq_grow]; rfl⟩

theorem Grw.below {w w' : World} (h : Grw w w') : Below w.heap.size w w' := by
  obtain ⟨q, os, rfl⟩ := h
  refine ⟨rfl, rfl, rfl, by simp [grow], fun k hk => ?_⟩
  show (w.heap ++ os)[k]? = w.heap[k]?
  rw [Array.getElem?_append_left hk]

theorem pnan_any (x : Int) (w : World) :
    Calls Try.prog 63 #[.int .i64 x] w fun e w' => e = .returned (.bool false) ∧ w = w' := by
  go_enter Try.func63, Try.ntmps63
  go_wp2
  go_ret
  exact ⟨by simp, rfl⟩

theorem pcmp_any (x y : Int) (w : World) :
    Calls Try.prog 57 #[.int .i64 x, .int .i64 y] w fun e w' => e = .returned (.int .i64 (cmpI x y)) ∧ w = w' := by
  have N1 := Hid.intro (pnan_any x)
  have N2 := Hid.intro (pnan_any y)
  obtain ⟨r, hr⟩ : ∃ r, r = cmpI x y := ⟨_, rfl⟩
  rw [← hr]
  by_cases h1 : x < y
  · have e : r = -1 := by rw [hr]; unfold cmpI; rw [if_pos h1]
    subst e
    clear hr
    go_enter Try.func57, Try.ntmps57
    go_wp2_with fail
    refine (N1.out _).mono ?_
    rintro e w2 ⟨rfl, rfl⟩
    go_wp2_with fail
    refine (N2.out _).mono ?_
    rintro e w2 ⟨rfl, rfl⟩
    go_wp2
    go_ret
    exact ⟨rfl, rfl⟩
  · by_cases h2 : y < x
    · have e : r = 1 := by rw [hr]; unfold cmpI; rw [if_neg h1, if_pos h2]
      subst e
      clear hr
      go_enter Try.func57, Try.ntmps57
      go_wp2_with fail
      refine (N1.out _).mono ?_
      rintro e w2 ⟨rfl, rfl⟩
      go_wp2_with fail
      refine (N2.out _).mono ?_
      rintro e w2 ⟨rfl, rfl⟩
      go_wp2
      go_ret
      exact ⟨rfl, rfl⟩
    · have e : r = 0 := by rw [hr]; unfold cmpI; rw [if_neg h1, if_neg h2]
      subst e
      clear hr
      go_enter Try.func57, Try.ntmps57
      go_wp2_with fail
      refine (N1.out _).mono ?_
      rintro e w2 ⟨rfl, rfl⟩
      go_wp2_with fail
      refine (N2.out _).mono ?_
      rintro e w2 ⟨rfl, rfl⟩
      go_wp2
      go_ret
      exact ⟨rfl, rfl⟩

/-- The two boxes. -/
theorem two_box (a b : Al) (w : World) : Grw w ((w.alloc (.cells #[.int .i64 a.bed, .int .i64 a.kind, .int .i64 a.since, .bool a.on, .bool a.acked] 48)).alloc (.cells #[.int .i64 b.bed, .int .i64 b.kind, .int .i64 b.since, .bool b.on, .bool b.acked] 48)) :=
  ((Grw.refl w).alloc _).alloc _

def ackC (a b : Al) : Int := if a.acked = b.acked then 0 else if b.acked = true then -1 else 1

set_option maxRecDepth 100000 in
theorem pbyAck_any (a b : Al) (w : World) :
    Calls Try.prog 43 #[Avv a, Avv b] w fun e w' => e = .returned (.int .i64 (ackC a b)) ∧ Grw w w' := by
  have HB := Hid.intro (two_box a b w)
  obtain ⟨a0, a1, a2, a3, a4⟩ := a
  obtain ⟨b0, b1, b2, b3, b4⟩ := b
  show Calls Try.prog 43 #[.agg #[.int .i64 a0, .int .i64 a1, .int .i64 a2, .bool a3, .bool a4], .agg #[.int .i64 b0, .int .i64 b1, .int .i64 b2, .bool b3, .bool b4]] w fun e w' => e = .returned (.int .i64 (if a4 = b4 then 0 else if b4 = true then -1 else 1)) ∧ Grw w w'
  cases a4 <;> cases b4
  all_goals
    go_enter Try.func43, Try.ntmps43
    go_wp2
    go_ret
    exact ⟨rfl, HB.out⟩

set_option maxRecDepth 100000 in
theorem pbyKind_any (a b : Al) (w : World) :
    Calls Try.prog 44 #[Avv a, Avv b] w fun e w' => e = .returned (.int .i64 (cmpI a.kind b.kind)) ∧ Grw w w' := by
  have HB := Hid.intro (two_box a b w)
  have HC := Hid.intro (pcmp_any a.kind b.kind)
  obtain ⟨a0, a1, a2, a3, a4⟩ := a
  obtain ⟨b0, b1, b2, b3, b4⟩ := b
  show Calls Try.prog 44 #[.agg #[.int .i64 a0, .int .i64 a1, .int .i64 a2, .bool a3, .bool a4], .agg #[.int .i64 b0, .int .i64 b1, .int .i64 b2, .bool b3, .bool b4]] w fun e w' => e = .returned (.int .i64 (cmpI a1 b1)) ∧ Grw w w'
  simp only at HC
  generalize cmpI a1 b1 = r at *
  go_enter Try.func44, Try.ntmps44
  go_wp2_with fail
  refine (HC.out _).mono ?_
  rintro e w2 ⟨rfl, rfl⟩
  go_wp2
  go_ret
  exact ⟨rfl, HB.out⟩

set_option maxRecDepth 100000 in
theorem pbySince_any (a b : Al) (w : World) :
    Calls Try.prog 45 #[Avv a, Avv b] w fun e w' => e = .returned (.int .i64 (cmpI a.since b.since)) ∧ Grw w w' := by
  have HB := Hid.intro (two_box a b w)
  have HC := Hid.intro (pcmp_any a.since b.since)
  obtain ⟨a0, a1, a2, a3, a4⟩ := a
  obtain ⟨b0, b1, b2, b3, b4⟩ := b
  show Calls Try.prog 45 #[.agg #[.int .i64 a0, .int .i64 a1, .int .i64 a2, .bool a3, .bool a4], .agg #[.int .i64 b0, .int .i64 b1, .int .i64 b2, .bool b3, .bool b4]] w fun e w' => e = .returned (.int .i64 (cmpI a2 b2)) ∧ Grw w w'
  simp only at HC
  generalize cmpI a2 b2 = r at *
  go_enter Try.func45, Try.ntmps45
  go_wp2_with fail
  refine (HC.out _).mono ?_
  rintro e w2 ⟨rfl, rfl⟩
  go_wp2
  go_ret
  exact ⟨rfl, HB.out⟩

set_option maxRecDepth 100000 in
theorem pbyBed_any (a b : Al) (w : World) :
    Calls Try.prog 46 #[Avv a, Avv b] w fun e w' => e = .returned (.int .i64 (cmpI a.bed b.bed)) ∧ Grw w w' := by
  have HB := Hid.intro (two_box a b w)
  have HC := Hid.intro (pcmp_any a.bed b.bed)
  obtain ⟨a0, a1, a2, a3, a4⟩ := a
  obtain ⟨b0, b1, b2, b3, b4⟩ := b
  show Calls Try.prog 46 #[.agg #[.int .i64 a0, .int .i64 a1, .int .i64 a2, .bool a3, .bool a4], .agg #[.int .i64 b0, .int .i64 b1, .int .i64 b2, .bool b3, .bool b4]] w fun e w' => e = .returned (.int .i64 (cmpI a0 b0)) ∧ Grw w w'
  simp only at HC
  generalize cmpI a0 b0 = r at *
  go_enter Try.func46, Try.ntmps46
  go_wp2_with fail
  refine (HC.out _).mono ?_
  rintro e w2 ⟨rfl, rfl⟩
  go_wp2
  go_ret
  exact ⟨rfl, HB.out⟩

theorem alC {w : World} {l : Al} {t : TypeId} {fr : Nat × Nat} {g : Nat} (h : w.heap[g]? = some (.cells #[.int .i64 l.bed, .int .i64 l.kind, .int .i64 l.since, .bool l.on, .bool l.acked] t fr)) : AlAt w g 0 l :=
  ⟨by rw [cell_of_row _ _ 0 _ _ _ h]; rfl, by rw [cell_of_row _ _ 1 _ _ _ h]; rfl, by rw [cell_of_row _ _ 2 _ _ _ h]; rfl, by rw [cell_of_row _ _ 3 _ _ _ h]; rfl, by rw [cell_of_row _ _ 4 _ _ _ h]; rfl⟩

theorem cmpA_parts (a b : Al) : cmpA a b = if ackC a b ≠ 0 then ackC a b else if cmpI a.kind b.kind ≠ 0 then cmpI a.kind b.kind else if cmpI a.since b.since ≠ 0 then cmpI a.since b.since else cmpI a.bed b.bed := by
  unfold cmpA ackC
  by_cases h : a.acked = b.acked
  · rw [if_neg (by simpa using h), if_pos h]
    simp
  · rw [if_pos h, if_neg h]
    by_cases h2 : b.acked = true
    · rw [if_pos h2]; simp
    · rw [if_neg h2]; simp

set_option maxRecDepth 100000 in
set_option maxHeartbeats 2000000 in
theorem pcompare_any (a b : Al) (w : World) :
    Calls Try.prog 34 #[Avv a, Avv b] w fun e w' => e = .returned (.int .i64 (cmpA a b)) ∧ Grw w w' := by
  have H1 := Hid.intro (pbyAck_any a b)
  have H2 := Hid.intro (pbyKind_any a b)
  have H3 := Hid.intro (pbySince_any a b)
  have H4 := Hid.intro (pbyBed_any a b)
  rw [cmpA_parts]
  have HB := Hid.intro (two_box a b w)
  have NA := Hid.intro (alloc_farR (o := .cells #[.int .i64 b.bed, .int .i64 b.kind, .int .i64 b.since, .bool b.on, .bool b.acked] 48) (heap_alloc_new w (.cells #[.int .i64 a.bed, .int .i64 a.kind, .int .i64 a.since, .bool a.on, .bool a.acked] 48)))
  have NB := Hid.intro (heap_alloc_new (w.alloc (.cells #[.int .i64 a.bed, .int .i64 a.kind, .int .i64 a.since, .bool a.on, .bool a.acked] 48)) (.cells #[.int .i64 b.bed, .int .i64 b.kind, .int .i64 b.since, .bool b.on, .bool b.acked] 48))
  rw [World.size_alloc] at NB
  generalize ackC a b = R1 at *
  generalize cmpI a.kind b.kind = R2 at *
  generalize cmpI a.since b.since = R3 at *
  generalize cmpI a.bed b.bed = R4 at *
  have CA := Hid.intro (fun (W : World) (hW : Below _ ((w.alloc (.cells #[.int .i64 a.bed, .int .i64 a.kind, .int .i64 a.since, .bool a.on, .bool a.acked] 48)).alloc (.cells #[.int .i64 b.bed, .int .i64 b.kind, .int .i64 b.since, .bool b.on, .bool b.acked] 48)) W) => alC (l := a) ((hW.block _ (lt_of_heap NA.out)).trans NA.out))
  have CB := Hid.intro (fun (W : World) (hW : Below _ ((w.alloc (.cells #[.int .i64 a.bed, .int .i64 a.kind, .int .i64 a.since, .bool a.on, .bool a.acked] 48)).alloc (.cells #[.int .i64 b.bed, .int .i64 b.kind, .int .i64 b.since, .bool b.on, .bool b.acked] 48)) W) => alC (l := b) ((hW.block _ (lt_of_heap NB.out)).trans NB.out))
  clear NA NB
  obtain ⟨a0, a1, a2, a3, a4⟩ := a
  obtain ⟨b0, b1, b2, b3, b4⟩ := b
  simp only [AlAt, Nat.zero_add] at CA CB
  show Calls Try.prog 34 #[.agg #[.int .i64 a0, .int .i64 a1, .int .i64 a2, .bool a3, .bool a4], .agg #[.int .i64 b0, .int .i64 b1, .int .i64 b2, .bool b3, .bool b4]] w fun e w' => e = .returned (.int .i64 (if R1 ≠ 0 then R1 else if R2 ≠ 0 then R2 else if R3 ≠ 0 then R3 else R4)) ∧ Grw w w'
  have i0 : ∀ W, (Instr.index 66 (.agg #[.func (.func 43) #[] #[], .func (.func 44) #[] #[], .func (.func 45) #[] #[], .func (.func 46) #[] #[]]) (.int .i64 0)).run Try.prog W = .ok (.func (.func 43) #[] #[]) W := fun W => by kernel_rfl
  have i1 : ∀ W, (Instr.index 66 (.agg #[.func (.func 43) #[] #[], .func (.func 44) #[] #[], .func (.func 45) #[] #[], .func (.func 46) #[] #[]]) (.int .i64 1)).run Try.prog W = .ok (.func (.func 44) #[] #[]) W := fun W => by kernel_rfl
  have i2 : ∀ W, (Instr.index 66 (.agg #[.func (.func 43) #[] #[], .func (.func 44) #[] #[], .func (.func 45) #[] #[], .func (.func 46) #[] #[]]) (.int .i64 2)).run Try.prog W = .ok (.func (.func 45) #[] #[]) W := fun W => by kernel_rfl
  have i3 : ∀ W, (Instr.index 66 (.agg #[.func (.func 43) #[] #[], .func (.func 44) #[] #[], .func (.func 45) #[] #[], .func (.func 46) #[] #[]]) (.int .i64 3)).run Try.prog W = .ok (.func (.func 46) #[] #[]) W := fun W => by kernel_rfl
  go_enter Try.func34, Try.ntmps34
  go_wp2_with fail
  refine wp_loop_rounds 5 ?_
  rw [rounds_succ]
  go_wp2_with fail
  refine (H1.out _).mono ?_
  rintro e w1 ⟨rfl, G1⟩
  have F1 := Hid.intro (HB.out.trans G1)
  obtain ⟨c0, c1, c2, c3, c4⟩ := CA.out w1 G1.below
  obtain ⟨d0, d1, d2, d3, d4⟩ := CB.out w1 G1.below
  have Q1 := Hid.intro G1.below
  clear G1
  by_cases z1 : R1 = 0
  · have y1 : (R1 != 0) = false := by rw [z1]; rfl
    go_wp2_with fail
    rw [rounds_succ]
    go_wp2_with fail
    refine (H2.out _).mono ?_
    rintro e w2 ⟨rfl, G2⟩
    have F2 := Hid.intro (F1.out.trans G2)
    have Q2 := Hid.intro (Q1.out.trans (G2.below.mono Q1.out.size))
    obtain ⟨c0, c1, c2, c3, c4⟩ := CA.out w2 Q2.out
    obtain ⟨d0, d1, d2, d3, d4⟩ := CB.out w2 Q2.out
    clear G2
    by_cases z2 : R2 = 0
    · have y2 : (R2 != 0) = false := by rw [z2]; rfl
      go_wp2_with fail
      rw [rounds_succ]
      go_wp2_with fail
      refine (H3.out _).mono ?_
      rintro e w3 ⟨rfl, G3⟩
      have F3 := Hid.intro (F2.out.trans G3)
      have Q3 := Hid.intro (Q2.out.trans (G3.below.mono Q2.out.size))
      obtain ⟨c0, c1, c2, c3, c4⟩ := CA.out w3 Q3.out
      obtain ⟨d0, d1, d2, d3, d4⟩ := CB.out w3 Q3.out
      clear G3
      by_cases z3 : R3 = 0
      · have y3 : (R3 != 0) = false := by rw [z3]; rfl
        go_wp2_with fail
        rw [rounds_succ]
        go_wp2_with fail
        refine (H4.out _).mono ?_
        rintro e w4 ⟨rfl, G4⟩
        have F4 := Hid.intro (F3.out.trans G4)
        have Q4 := Hid.intro (Q3.out.trans (G4.below.mono Q3.out.size))
        obtain ⟨c0, c1, c2, c3, c4⟩ := CA.out w4 Q4.out
        obtain ⟨d0, d1, d2, d3, d4⟩ := CB.out w4 Q4.out
        clear G4
        by_cases z4 : R4 = 0
        · have y4 : (R4 != 0) = false := by rw [z4]; rfl
          go_wp2_with fail
          rw [rounds_succ]
          go_wp2
          go_ret
          exact ⟨by simp, F4.out⟩
        · have y4 : (R4 != 0) = true := by rw [bne_iff_ne]; exact z4
          go_wp2
          go_ret
          exact ⟨by simp, F4.out⟩
      · have y3 : (R3 != 0) = true := by rw [bne_iff_ne]; exact z3
        go_wp2
        go_ret
        exact ⟨by simp, F3.out⟩
    · have y2 : (R2 != 0) = true := by rw [bne_iff_ne]; exact z2
      go_wp2
      go_ret
      exact ⟨by simp, F2.out⟩
  · have y1 : (R1 != 0) = true := by rw [bne_iff_ne]; exact z1
    go_wp2
    go_ret
    exact ⟨by simp, F1.out⟩

/-- In order, as the library's sort is told. -/
theorem lt_cmpA : ltOf cmpA = ltA := by
  funext x y
  exact cmpA_lt x y

theorem swoA : SWO (ltOf cmpA) := by
  rw [lt_cmpA]
  exact ⟨ltA_irrefl, fun _ _ _ => ltA_trans, fun _ _ _ => ltA_ntrans⟩

end Go.Proofs.Ytbeeigfcchjdlaa
