/- Package edf: the job that comes ahead of all, taken out of a line; a queue in memory; New, Push. -/
import Derived.Test.YtgcpkploeobafaaEdK4
namespace Go.Proofs.Ytgcpkploeobafaa
open Go.RowKit
open Bt

theorem chg_setRowE (w : World) (g : Nat) (cs : Array Value) : Chg (fun k => k = g) w (w.setRow g cs) :=
  ⟨rfl, rfl, rfl, by rw [size_setRow]; exact Nat.le_refl _, fun k _ hk => setRow_other w g k cs hk⟩

theorem wt_job (a0 a1 a2 a3 a4 a5 a6 n : Int) (W : World) : (Instr.field 56 (.agg #[.int .i64 a0, .int .i64 a1, .int .i64 a2, .int .i64 a3, .int .i64 a4, .int .i64 a5, .int .i64 a6, .int .i64 n]) 0).run Try.prog W = .ok (.agg #[.int .i64 a0, .int .i64 a1, .int .i64 a2, .int .i64 a3, .int .i64 a4, .int .i64 a5, .int .i64 a6]) W := by kernel_rfl

/-- The cells of a zero job. -/
abbrev ZJ : Array Value := #[.int .i64 0, .int .i64 0, .int .i64 0, .int .i64 0, .int .i64 0, .int .i64 0, .int .i64 0]

/-- What taking the first one out leaves. -/
def LeftX (b : Nat) (tb : TypeId) (tl : List Value) (S : Nat → Prop) (w w' : World) (h : Nat → It) (n : Nat) : Prop := ∃ h', Ln b tb tl S w' h' n ∧ HeapF ltI 0 h' n ∧ ((List.range n).map h').Perm ((List.range n).map (swp h 0 n)) ∧ Chg S w w'

set_option maxRecDepth 100000 in
set_option maxHeartbeats 2000000 in
theorem enext_any (b : Nat) (tb : TypeId) (tl : List Value) (S : Nat → Prop) (h : Nat → It) (n : Nat) (hn : n ≤ 900) (w : World) (hM : Ln b tb tl S w h (n + 1)) (hH : HeapF ltI 0 h (n + 1)) :
    Calls Try.prog 26 #[.pointer (some ⟨b, 0, none⟩)] w fun e w' => e = .returned (Jv (h 0).job) ∧ LeftX b tb tl S w w' h n := by
  have BN := (Below.refl _ w).alloc (Nat.le_refl _) (.cells ZJ 38)
  have hlt : ∀ k, S k → k < w.heap.size := by obtain ⟨v, hv⟩ := hM; exact hv.lt
  have HLT := Hid.intro hlt
  have hM2 : Ln b tb tl S (w.alloc (.cells ZJ 38)) h (n + 1) := by obtain ⟨v, hv⟩ := hM; exact ⟨v, hv.below BN⟩
  have PP := Hid.intro (hpop_any (HM := Ln b tb tl) (fun S => heapc_line b tb tl S) S h n hn hH _ hM2 Wi (meth_pop b) (fun W g hg => epop_in n hn g W hg))
  have G0 := heap_alloc_new w (.cells ZJ 38)
  have GH := Hid.intro G0
  have BNH := Hid.intro BN
  generalize h 0 = x at *
  obtain ⟨⟨a0, a1, a2, a3, a4, a5, a6⟩, na⟩ := x
  have ta := run_asrt ⟨⟨a0, a1, a2, a3, a4, a5, a6⟩, na⟩
  have fj := wt_job a0 a1 a2 a3 a4 a5 a6 (na : Int)
  clear hM hM2 BN hlt G0
  go_enter Try.func26, Try.ntmps26
  go_wp2_with fail
  refine PP.out.mono ?_
  rintro e w2 ⟨rfl, h', M2, F2, P2, C2⟩
  have nS : ¬ S w.heap.size := fun q => by have := HLT.out _ q; omega
  have g2 := Hid.intro ((C2.block _ (lt_of_heap GH.out) nS).trans GH.out)
  have FIN := Hid.intro (show LeftX b tb tl S w (w2.setRow w.heap.size #[.int .i64 a0, .int .i64 a1, .int .i64 a2, .int .i64 a3, .int .i64 a4, .int .i64 a5, .int .i64 a6]) h n from by
    have C3 := chg_setRowE w2 w.heap.size #[.int .i64 a0, .int .i64 a1, .int .i64 a2, .int .i64 a3, .int .i64 a4, .int .i64 a5, .int .i64 a6]
    refine ⟨h', ?_, F2, P2, ?_⟩
    · obtain ⟨v, hv⟩ := M2
      exact ⟨v, hv.kept C3 (fun k hk q => nS (q ▸ hk))⟩
    · exact (((below_chg BNH.out).mono (fun _ f _ => f.elim)).trans C2 (fun _ q _ => q)).trans C3 (fun k q hk => by subst q; omega))
  clear PP M2 F2 P2 C2 nS
  go_wp2_with (refine wpList_store_row rfl 38 (.tmp 2) (.tmp 7) rfl w.heap.size #[.int .i64 a0, .int .i64 a1, .int .i64 a2, .int .i64 a3, .int .i64 a4, .int .i64 a5, .int .i64 a6] rfl rfl 38 ZJ g2.out (by kernel_rfl) rfl (by kernel_rfl) ?_)
  (try simp only [Exit.inBlock, Exit.then])
  refine bodyPost_ret (results_cell_row rfl _ _ w.heap.size 38 #[.int .i64 a0, .int .i64 a1, .int .i64 a2, .int .i64 a3, .int .i64 a4, .int .i64 a5, .int .i64 a6] (0, 0) _ rfl (setRow_heap _ w.heap.size ZJ _ 38 _ g2.out) Try.underlying38 rfl (by kernel_rfl)) rfl ?_
  exact ⟨rfl, FIN.out⟩

/-- A queue: jobs that wait as a heap, each with its number, no number as great as how many came. -/
structure QH (S : Nat → Prop) (w : World) (b : Nat) (h : Nat → It) (m came : Nat) (x : List Jb) : Prop where
  ln : Ln b 53 [.int .i64 (came : Int)] S w h m
  heap : HeapF ltI 0 h m
  rep : Rep ((List.range m).map h) x
  num : ∀ a ∈ (List.range m).map h, a.num < came
  ok : QOk x

def Que (S : Nat → Prop) (w : World) (b : Nat) (x : List Jb) (n : Nat) : Prop := ∃ h m came, QH S w b h m came x ∧ came ≤ n

section
variable {S T : Nat → Prop} {w w' : World} {b : Nat} {x : List Jb} {n : Nat} {h : Nat → It} {m came : Nat}

theorem Que.ok (q : Que S w b x n) : QOk x := by obtain ⟨h, m, c, q, _⟩ := q; exact q.ok

theorem QH.lt (q : QH S w b h m came x) : ∀ k, S k → k < w.heap.size := by obtain ⟨v, hv⟩ := q.ln; exact hv.lt

theorem Que.lt (q : Que S w b x n) : ∀ k, S k → k < w.heap.size := by obtain ⟨h, m, c, q, _⟩ := q; exact q.lt

theorem QH.kept (q : QH S w b h m came x) (hc : Chg T w w') (hT : ∀ k, S k → ¬ T k) : QH S w' b h m came x := by
  obtain ⟨⟨v, hv⟩, h2, h3, h4, h5⟩ := q
  exact ⟨⟨v, hv.kept hc hT⟩, h2, h3, h4, h5⟩

theorem Que.kept (q : Que S w b x n) (hc : Chg T w w') (hT : ∀ k, S k → ¬ T k) : Que S w' b x n := by
  obtain ⟨h, m, c, q, hn⟩ := q
  exact ⟨h, m, c, q.kept hc hT, hn⟩

theorem Que.more {n' : Nat} (q : Que S w b x n) (hn : n ≤ n') : Que S w b x n' := by
  obtain ⟨h, m, c, q, hc⟩ := q
  exact ⟨h, m, c, q, Nat.le_trans hc hn⟩

theorem QH.len (q : QH S w b h m came x) : m = x.length := by
  have := q.rep.len
  simpa using this

/-- What a call leaves: but for the queue's own blocks, and new ones, all as it was. -/
def LeftE (S : Nat → Prop) (w w' : World) (b : Nat) (x : List Jb) (n : Nat) : Prop := ∃ S', Que S' w' b x n ∧ Chg S w w' ∧ ∀ k, S' k → S k ∨ w.heap.size ≤ k

/-- What a call leaves that answers a list of jobs. -/
def LeftJ (S : Nat → Prop) (w w' : World) (b : Nat) (x : List Jb) (v : Value) (l : List Jb) (n : Nat) : Prop := ∃ S', JsAt (fun k => w.heap.size ≤ k ∧ k < w'.heap.size ∧ ¬ S' k) w' v l ∧ Que S' w' b x n ∧ Chg S w w' ∧ ∀ k, S' k → S k ∨ w.heap.size ≤ k

theorem LnV.turned {tb : TypeId} {u u' v : Value} {l : List It} (q : LnV b tb [u] S w v l) : w.cell? ⟨b, 1, none⟩ = some u ∧ w.frozen? ⟨b, 1, none⟩ = false ∧ LnV b tb [u'] S (w.setCell ⟨b, 1, none⟩ u') v l := by
  have h3 := heap_setCell_same w b 1 _ _ u' q.head
  have C : Chg (fun k => k = b) w (w.setCell ⟨b, 1, none⟩ u') := Chg.setCell (S := fun k => k = b) (Chg.refl _ w) (fun _ => rfl) _
  refine ⟨by rw [cell_of_row _ _ 1 _ _ _ q.head]; rfl, frozen_of_row w b 1 _ _ q.head, by rw [h3]; simp, ownsRow_keep q.own fun k hk => C.block k (World.ownsRow.lt q.own k hk).2 (q.inV k hk).2, q.inB, q.inV, fun k hk => Nat.lt_of_lt_of_le (q.lt k hk) C.size⟩
end

theorem enew_any (w : World) :
    Calls Try.prog 17 #[] w fun e w' => ∃ b F, e = .returned (.pointer (some ⟨b, 0, none⟩)) ∧ Que F w' b [] 0 ∧ (∀ k, F k → w.heap.size ≤ k) ∧ Below w.heap.size w w' := by
  have HB := Hid.intro ((Below.refl _ w).alloc (Nat.le_refl _) (.cells #[.slice none 0 0, .int .i64 0] 53))
  have Q0 : Hid (Que (fun k => k = w.heap.size) (w.alloc (.cells #[.slice none 0 0, .int .i64 0] 53)) w.heap.size [] 0) :=
    ⟨fun _ => ⟨⟨0, 0, 0, 0, 0, 0, 0⟩, 0⟩, 0, 0, ⟨⟨.slice none 0 0, heap_alloc_new w _, World.ownsRow_nil _ _ _ _, rfl, fun k hk => by simp [Value.ownBlock] at hk, fun k hk => by subst hk; simp⟩, fun k _ hk => absurd hk (Nat.not_lt_zero _), rep_nil, fun a ha => by simp at ha, qok_nil⟩, Nat.le_refl _⟩
  go_enter Try.func17, Try.ntmps17
  go_wp2
  go_ret
  exact ⟨_, _, rfl, Q0.out, fun k hk => by subst hk; exact Nat.le_refl _, HB.out⟩

end Go.Proofs.Ytgcpkploeobafaa
