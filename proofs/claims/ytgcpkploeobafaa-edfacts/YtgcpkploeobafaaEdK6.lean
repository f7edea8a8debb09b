/- Package edf: Push, Left; a nil queue. -/
import Derived.Test.YtgcpkploeobafaaEdK5
namespace Go.Proofs.Ytgcpkploeobafaa
open Go.RowKit
open Bt

set_option maxRecDepth 100000 in
set_option maxHeartbeats 1000000 in
theorem epush_nil (j : Jb) (w : World) :
    Calls Try.prog 16 #[.pointer none, Jv j] w fun e w' => e = .returned (.int .i64 1) ∧ Below w.heap.size w w' := by
  obtain ⟨b0, b1, b2, b3, b4, b5, b6⟩ := j
  have HB := Hid.intro ((Below.refl _ w).alloc (Nat.le_refl _) (.cells #[.int .i64 b0, .int .i64 b1, .int .i64 b2, .int .i64 b3, .int .i64 b4, .int .i64 b5, .int .i64 b6] 38))
  go_enter Try.func16, Try.ntmps16
  go_wp2
  go_ret
  exact ⟨rfl, HB.out⟩

theorem ework_nil (u : Nat) (w : World) :
    Calls Try.prog 11 #[.pointer none, .int .i64 (u : Int)] w fun e w' => ∃ ao cap, e = .returned (.tuple #[.slice ao 0 cap, .int .i64 (u : Int)]) ∧ Below w.heap.size w w' := by
  have u0 : (0 : Int) ≤ (u : Int) := by omega
  have u1 : max (u : Int) 0 = (u : Int) := by omega
  go_enter Try.func11, Try.ntmps11
  go_wp2
  go_ret2
  exact ⟨_, _, rfl, Below.refl _ _⟩

theorem elate_nil (now : Int) (w : World) :
    Calls Try.prog 12 #[.pointer none, .int .i64 now] w fun e w' => ∃ ao cap, e = .returned (.slice ao 0 cap) ∧ Below w.heap.size w w' := by
  go_enter Try.func12, Try.ntmps12
  go_wp2
  go_ret
  exact ⟨_, _, rfl, Below.refl _ _⟩

theorem elist_nil (w : World) :
    Calls Try.prog 14 #[.pointer none] w fun e w' => ∃ ao cap, e = .returned (.slice ao 0 cap) ∧ Below w.heap.size w w' := by
  go_enter Try.func14, Try.ntmps14
  go_wp2
  go_ret
  exact ⟨_, _, rfl, Below.refl _ _⟩

theorem eleft_nil (w : World) :
    Calls Try.prog 15 #[.pointer none] w fun e w' => e = .returned (.int .i64 0) ∧ Below w.heap.size w w' := by
  go_enter Try.func15, Try.ntmps15
  go_wp2
  go_ret
  exact ⟨rfl, Below.refl _ _⟩

/-- One more, put in. -/
theorem QH.pushed {S S' : Nat → Prop} {w w1 w2 : World} {b m came : Nat} {h h' : Nat → It} {x : List Jb} {j : Jb} (q : QH S w b h m came x) (hj : mayJ j = true) (hm : m < 40) (B : Below w.heap.size w w1)
    (M : Ln b 53 [.int .i64 (came : Int)] S' w2 h' (m + 1)) (F : HeapF ltI 0 h' (m + 1)) (P : ((List.range (m + 1)).map h').Perm ((List.range (m + 1)).map (updH h m ⟨j, came⟩))) (C : Chg S w1 w2) (hS : ∀ k, S' k → S k ∨ w1.heap.size ≤ k) :
    w2.cell? ⟨b, 1, none⟩ = some (.int .i64 (came : Int)) ∧ w2.frozen? ⟨b, 1, none⟩ = false ∧ LeftE S w (w2.setCell ⟨b, 1, none⟩ (.int .i64 ((came + 1 : Nat) : Int))) b (pushQ x j) (came + 1) := by
  have hl := q.len
  have e : pushQ x j = insJ x j := by
    have e1 : pushE' x j = 0 := by unfold pushE'; rw [if_pos hj, if_neg (by omega)]
    unfold pushQ
    rw [if_pos e1]
  have P' := P
  rw [mapr_upd] at P'
  have hs := B.size
  obtain ⟨v, hv⟩ := M
  obtain ⟨a1, a2, a3⟩ := hv.turned (u' := .int .i64 ((came + 1 : Nat) : Int))
  refine ⟨a1, a2, S', ⟨h', m + 1, came + 1, ⟨⟨v, a3⟩, F, ?_, fun a ha => ?_, pushQ_ok q.ok j⟩, Nat.le_refl _⟩, ?_, fun k hk => (hS k hk).imp id (fun z => by omega)⟩
  · rw [e]
    exact (q.rep.push ⟨j, came⟩ q.num).perm P'.symm
  · have ha := P'.mem_iff.1 ha
    rcases List.mem_append.1 ha with z | z
    · have := q.num a z; omega
    · obtain rfl : a = ⟨j, came⟩ := by simpa using z
      exact Nat.lt_succ_self _
  · refine (((below_chg B).mono (fun _ f _ => f.elim)).trans C (fun _ z _ => z)).setCell (fun z => ?_) _
    rcases hS b hv.inB with r | r
    · exact r
    · simp only at z; omega

theorem LeftE.same {S : Nat → Prop} {w w' : World} {b : Nat} {x : List Jb} {n n' : Nat} (q : Que S w b x n) (hn : n ≤ n') (hb : Below w.heap.size w w') : LeftE S w w' b x n' :=
  ⟨S, (q.kept (below_chg hb) (fun _ _ => id)).more hn, (below_chg hb).mono (fun _ f _ => f.elim), fun _ z => .inl z⟩

theorem LeftE.more {S : Nat → Prop} {w w' : World} {b : Nat} {x : List Jb} {n n' : Nat} (q : LeftE S w w' b x n) (hn : n ≤ n') : LeftE S w w' b x n' := by
  obtain ⟨S', h1, h2, h3⟩ := q
  exact ⟨S', h1.more hn, h2, h3⟩

set_option maxRecDepth 100000 in
set_option maxHeartbeats 2000000 in
theorem epush_in (b0 b1 b2 b3 b4 b5 b6 : Int) (b : Nat) (F : Nat → Prop) (x : List Jb) (h : Nat → It) (m came : Nat) (w : World) (hq : QH F w b h m came x) (hn : came ≤ 1000000) :
    Calls Try.prog 16 #[.pointer (some ⟨b, 0, none⟩), Jv ⟨b0, b1, b2, b3, b4, b5, b6⟩] w fun e w' => e = .returned (.int .i64 (pushE' x ⟨b0, b1, b2, b3, b4, b5, b6⟩)) ∧ LeftE F w w' b (pushQ x ⟨b0, b1, b2, b3, b4, b5, b6⟩) (came + 1) := by
  have BA := (Below.refl _ w).alloc (Nat.le_refl _) (.cells #[.int .i64 b0, .int .i64 b1, .int .i64 b2, .int .i64 b3, .int .i64 b4, .int .i64 b5, .int .i64 b6] 38)
  have HBA := Hid.intro BA
  have G0 := heap_alloc_new w (.cells #[.int .i64 b0, .int .i64 b1, .int .i64 b2, .int .i64 b3, .int .i64 b4, .int .i64 b5, .int .i64 b6] 38)
  have GH := Hid.intro G0
  have HQ := Hid.intro hq
  have ML := hq.len
  have MY := Hid.intro (emay_in b0 b1 b2 b3 b4 b5 b6)
  have PE : Hid (pushE' x ⟨b0, b1, b2, b3, b4, b5, b6⟩ = if mayJ ⟨b0, b1, b2, b3, b4, b5, b6⟩ = true then (if 40 ≤ m then 7 else 0) else 1) := by rw [Hid, ML]; rfl
  have HMJ : Hid (∀ r, mayJ ⟨b0, b1, b2, b3, b4, b5, b6⟩ = r → r = mayJ ⟨b0, b1, b2, b3, b4, b5, b6⟩) := fun r hr => hr.symm
  obtain ⟨r, hr⟩ : ∃ r, r = mayJ ⟨b0, b1, b2, b3, b4, b5, b6⟩ := ⟨_, rfl⟩
  have HR := Hid.intro hr
  rw [← hr] at MY PE
  have SAME : Hid (pushE' x ⟨b0, b1, b2, b3, b4, b5, b6⟩ ≠ 0 → ∀ W, Below w.heap.size w W → LeftE F w W b (pushQ x ⟨b0, b1, b2, b3, b4, b5, b6⟩) (came + 1)) := fun hne W hW => by
    have e : pushQ x ⟨b0, b1, b2, b3, b4, b5, b6⟩ = x := by unfold pushQ; rw [if_neg hne]
    rw [e]
    exact LeftE.same (n := came) ⟨h, m, came, HQ.out, Nat.le_refl _⟩ (Nat.le_succ _) hW
  have few := hq.ok.few
  clear hr hq HMJ BA G0
  cases r with
  | false =>
    have e : pushE' x ⟨b0, b1, b2, b3, b4, b5, b6⟩ = 1 := by rw [PE.out]; rfl
    have S1 := Hid.intro (SAME.out (by rw [e]; decide))
    rw [e]
    clear e PE SAME
    go_enter Try.func16, Try.ntmps16
    go_wp2_with fail
    refine (MY.out _).mono ?_
    rintro e w1 ⟨rfl, B1⟩
    have FIN := Hid.intro (S1.out w1 (HBA.out.trans (B1.mono HBA.out.size)))
    clear B1 MY
    go_wp2
    go_ret
    exact ⟨rfl, FIN.out⟩
  | true =>
    by_cases h40 : 40 ≤ m
    · have e : pushE' x ⟨b0, b1, b2, b3, b4, b5, b6⟩ = 7 := by rw [PE.out, if_pos rfl, if_pos h40]
      have S1 := Hid.intro (SAME.out (by rw [e]; decide))
      rw [e]
      clear e PE SAME
      have m1 : (40 : Int) ≤ (m : Int) := by omega
      go_enter Try.func16, Try.ntmps16
      go_wp2_with fail
      refine (MY.out _).mono ?_
      rintro e w1 ⟨rfl, B1⟩
      have W1 := HBA.out.trans (B1.mono HBA.out.size)
      obtain ⟨v, hv⟩ := HQ.out.ln
      have c0 := (hv.below W1).cell
      obtain ⟨ao, c, rfl, _⟩ := hv.form
      rw [mapr_length] at c0
      have FIN := Hid.intro (S1.out w1 W1)
      clear B1 MY W1 hv
      go_wp2
      go_ret
      exact ⟨rfl, FIN.out⟩
    · have e : pushE' x ⟨b0, b1, b2, b3, b4, b5, b6⟩ = 0 := by rw [PE.out, if_pos rfl, if_neg h40]
      rw [e]
      clear e PE SAME
      have m1 : ¬ (40 : Int) ≤ (m : Int) := by omega
      have m2 : (m : Int) < 40 := by omega
      go_enter Try.func16, Try.ntmps16
      go_wp2_with fail
      refine (MY.out _).mono ?_
      rintro e w1 ⟨rfl, B1⟩
      have W1 := HBA.out.trans (B1.mono HBA.out.size)
      obtain ⟨v, hv⟩ := HQ.out.ln
      have hv1 := hv.below W1
      have c0 := hv1.cell
      have c1 := (hv1.turned (u' := .int .i64 0)).1
      obtain ⟨ao, c, rfl, _⟩ := hv.form
      rw [mapr_length] at c0
      have g1 := (B1.block _ (lt_of_heap GH.out)).trans GH.out
      have d0 : w1.cell? ⟨w.heap.size, 0, none⟩ = some (.int .i64 b0) := by rw [cell_of_row _ _ 0 _ _ _ g1]; rfl
      have d1 : w1.cell? ⟨w.heap.size, 1, none⟩ = some (.int .i64 b1) := by rw [cell_of_row _ _ 1 _ _ _ g1]; rfl
      have d2 : w1.cell? ⟨w.heap.size, 2, none⟩ = some (.int .i64 b2) := by rw [cell_of_row _ _ 2 _ _ _ g1]; rfl
      have d3 : w1.cell? ⟨w.heap.size, 3, none⟩ = some (.int .i64 b3) := by rw [cell_of_row _ _ 3 _ _ _ g1]; rfl
      have d4 : w1.cell? ⟨w.heap.size, 4, none⟩ = some (.int .i64 b4) := by rw [cell_of_row _ _ 4 _ _ _ g1]; rfl
      have d5 : w1.cell? ⟨w.heap.size, 5, none⟩ = some (.int .i64 b5) := by rw [cell_of_row _ _ 5 _ _ _ g1]; rfl
      have d6 : w1.cell? ⟨w.heap.size, 6, none⟩ = some (.int .i64 b6) := by rw [cell_of_row _ _ 6 _ _ _ g1]; rfl
      have MD : Ln b 53 [.int .i64 (came : Int)] F w1.drew h m := ⟨_, hv.below W1.drew⟩
      have PU := Hid.intro (hpush_any (HM := Ln b 53 [.int .i64 (came : Int)]) (fun S => heapc_line b _ _ S) F h m (by omega) ⟨⟨b0, b1, b2, b3, b4, b5, b6⟩, came⟩ (Wi ⟨⟨b0, b1, b2, b3, b4, b5, b6⟩, came⟩) HQ.out.heap w1.drew (meth_push b w1.drew) (epushl_in m (by omega) h _ w1.drew MD))
      have nF : ¬ F w.heap.size := fun z => by have := HQ.out.lt _ z; omega
      have W1H := Hid.intro W1
      clear B1 MY W1 hv hv1 g1 MD
      obtain ⟨bj, hbj⟩ : ∃ bj, bj = w.heap.size := ⟨_, rfl⟩
      rw [← hbj] at d0 d1 d2 d3 d4 d5 d6 nF ⊢
      clear hbj GH
      go_wp2_with fail
      go_region_held3 (fun W => W.cell? ⟨bj, 0, none⟩ = some (.int .i64 b0) ∧ W.cell? ⟨bj, 1, none⟩ = some (.int .i64 b1) ∧ W.cell? ⟨bj, 2, none⟩ = some (.int .i64 b2) ∧ W.cell? ⟨bj, 3, none⟩ = some (.int .i64 b3) ∧ W.cell? ⟨bj, 4, none⟩ = some (.int .i64 b4) ∧ W.cell? ⟨bj, 5, none⟩ = some (.int .i64 b5) ∧ W.cell? ⟨bj, 6, none⟩ = some (.int .i64 b6) ∧ W.cell? ⟨b, 1, none⟩ = some (.int .i64 (came : Int)))
        (first | exact KK.out | go_keep)
        (first
          | (go_at_call 31; refine PU.out.mono ?_; rintro e w2 ⟨rfl, S2, h2, M2, F2, P2, C2, s2⟩; obtain ⟨k1, k2, k3⟩ := HQ.out.pushed HR.out.symm (by omega) W1H.out.drew M2 F2 P2 C2 s2; have FIN := Hid.intro k3; have KK := Hid.intro (show _ from (⟨cell_chg C2 d0 nF, cell_chg C2 d1 nF, cell_chg C2 d2 nF, cell_chg C2 d3 nF, cell_chg C2 d4 nF, cell_chg C2 d5 nF, cell_chg C2 d6 nF, k1⟩ : w2.cell? ⟨bj, 0, none⟩ = some (.int .i64 b0) ∧ w2.cell? ⟨bj, 1, none⟩ = some (.int .i64 b1) ∧ w2.cell? ⟨bj, 2, none⟩ = some (.int .i64 b2) ∧ w2.cell? ⟨bj, 3, none⟩ = some (.int .i64 b3) ∧ w2.cell? ⟨bj, 4, none⟩ = some (.int .i64 b4) ∧ w2.cell? ⟨bj, 5, none⟩ = some (.int .i64 b5) ∧ w2.cell? ⟨bj, 6, none⟩ = some (.int .i64 b6) ∧ w2.cell? ⟨b, 1, none⟩ = some (.int .i64 (came : Int)))); clear M2 F2 P2 C2 s2 k3)
          | fail)
      all_goals
        go_wp2
        go_ret
        exact ⟨rfl, FIN.out⟩

theorem epush_any (b : Nat) (j : Jb) (F : Nat → Prop) (x : List Jb) (n : Nat) (hn : n ≤ 1000000) (w : World) (hc : Que F w b x n) :
    Calls Try.prog 16 #[.pointer (some ⟨b, 0, none⟩), Jv j] w fun e w' => e = .returned (.int .i64 (pushE' x j)) ∧ LeftE F w w' b (pushQ x j) (n + 1) := by
  obtain ⟨h, m, came, q, hcn⟩ := hc
  refine (epush_in j.bed j.kind j.tick j.value j.since j.dl j.left b F x h m came w q (by omega)).mono ?_
  rintro e w' ⟨rfl, hl⟩
  exact ⟨rfl, hl.more (by omega)⟩

end Go.Proofs.Ytgcpkploeobafaa
