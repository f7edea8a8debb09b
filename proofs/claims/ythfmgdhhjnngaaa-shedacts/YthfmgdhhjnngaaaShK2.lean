/- Package shed: Tick, Level, Order. -/
import Derived.Test.YthfmgdhhjnngaaaShIx
import Derived.Test.YthfmgdhhjnngaaaShFl
import Derived.Test.YthfmgdhhjnngaaaNumL
import Derived.Maps.AppendAt
namespace Go.Proofs.Ythfmgdhhjnngaaa
open Go.RowKit
open Bt

variable {S T : Nat → Prop} {w w' : World} {b : Nat} {v : Value} {zs : List (Nat × Sd)} {x : Ctl}

/-- Its calm ticks are turned. -/
theorem CS.turned (h : CS S w b v zs x) {n : Nat} (hh : w'.heap[b]? = some (.cells #[.int .i64 (x.waits : Int), .int .i64 (n : Int), v] 52 (0, 0))) (hc : Chg (fun k => k = b) w w') (hn : n < x.waits) : CS S w' b v zs { x with calm := n } := by
  obtain ⟨a1, a2⟩ := h.apart
  exact ⟨hh, h.beds, ownsRow_keep h.own fun k hk => hc.block k (World.ownsRow.lt h.own k hk).2 (fun e => a1 (by rw [← e]; exact hk)), fun z hz => (h.each z hz).chg hc (a2 z hz).2, h.dist,
    h.inB, h.inV, h.inP, fun k hk => Nat.lt_of_lt_of_le (h.lt k hk) hc.size, ⟨h.ok.few, h.ok.lev, h.ok.once, h.ok.w1, h.ok.w2, hn⟩⟩

theorem CS.setCalm (h : CS S w b v zs x) {n : Nat} (hn : n < x.waits) : CS S (w.setCell ⟨b, 1, none⟩ (.int .i64 (n : Int))) b v zs { x with calm := n } ∧ Chg S w (w.setCell ⟨b, 1, none⟩ (.int .i64 (n : Int))) := by
  have hc : Chg (fun k => k = b) w (w.setCell ⟨b, 1, none⟩ (.int .i64 (n : Int))) := Chg.setCell (S := fun k => k = b) (Chg.refl _ w) (p := ⟨b, 1, none⟩) (fun _ => rfl) _
  exact ⟨h.turned (by rw [heap_setCell_same w b 1 _ _ _ h.head]; rfl) hc hn, hc.mono (fun k e _ => by rw [e]; exact h.inB)⟩

theorem CS.setCalm2 (h : CS S w b v zs x) {m n : Nat} (q : Nat) (hn : n < x.waits) : CS S (((w.setCell ⟨b, 1, none⟩ (.int .i64 (m : Int))).drewN q).setCell ⟨b, 1, none⟩ (.int .i64 (n : Int))) b v zs { x with calm := n } ∧ Chg S w (((w.setCell ⟨b, 1, none⟩ (.int .i64 (m : Int))).drewN q).setCell ⟨b, 1, none⟩ (.int .i64 (n : Int))) := by
  have hc : Chg (fun k => k = b) w (((w.setCell ⟨b, 1, none⟩ (.int .i64 (m : Int))).drewN q).setCell ⟨b, 1, none⟩ (.int .i64 (n : Int))) := Chg.setCell (S := fun k => k = b) ((Chg.setCell (S := fun k => k = b) (Chg.refl _ w) (p := ⟨b, 1, none⟩) (fun _ => rfl) _).drewN q) (p := ⟨b, 1, none⟩) (fun _ => rfl) _
  refine ⟨h.turned ?_ hc hn, hc.mono (fun k e _ => by rw [e]; exact h.inB)⟩
  have e1 : ((w.setCell ⟨b, 1, none⟩ (.int .i64 (m : Int))).drewN q).heap[b]? = _ := heap_setCell_same w b 1 _ _ (.int .i64 (m : Int)) h.head
  rw [heap_setCell_same _ b 1 _ _ (.int .i64 (n : Int)) e1]
  rfl

theorem htick_nil (o : Bool) (w : World) : Calls Try.prog 13 #[.pointer none, .bool o] w fun e w' => e = .returned (.int .i64 (-1)) ∧ Below w.heap.size w w' := by
  go_enter Try.func13, Try.ntmps13
  go_wp2
  go_ret
  exact ⟨rfl, Below.refl _ _⟩

theorem hlevel_nil (bed : Int) (w : World) : Calls Try.prog 14 #[.pointer none, .int .i64 bed] w fun e w' => e = .returned (.int .i64 3) ∧ Below w.heap.size w w' := by
  go_enter Try.func14, Try.ntmps14
  go_wp2
  go_ret
  exact ⟨rfl, Below.refl _ _⟩

theorem horder_nil (w : World) : Calls Try.prog 15 #[.pointer none] w fun e w' => e = .returned (.slice none 0 0) ∧ Below w.heap.size w w' := by
  go_enter Try.func15, Try.ntmps15
  go_wp2
  go_ret
  exact ⟨rfl, Below.refl _ _⟩

set_option maxRecDepth 100000 in
set_option maxHeartbeats 1000000 in
theorem htick_any (b : Nat) (o : Bool) (S : Nat → Prop) (x : Ctl) (w : World) (h : Ctr S w b x) :
    Calls Try.prog 13 #[.pointer (some ⟨b, 0, none⟩), .bool o] w fun e w' => e = .returned (.int .i64 (tickD x o)) ∧ LeftC S w w' b (tickC x o) := by
  obtain ⟨v, zs, h⟩ := h
  have w1 := h.ok.w1
  have w2 := h.ok.w2
  have cw := h.ok.cw
  obtain ⟨c0, c1, _, fz⟩ := h.cells
  have f1 := fz 1
  clear fz
  cases o with
  | true =>
    have e1 : tickD x true = shedD x.beds := by simp [tickD]
    have e2 : tickC x true = { x with calm := 0, beds := shedL x.beds } := by simp [tickC]
    rw [e1, e2]
    obtain ⟨q1, q2⟩ := h.setCalm (n := 0) (by omega)
    have SH := Hid.intro (hshed_any b S v zs _ _ q1)
    have Q2 := Hid.intro q2
    clear h q1 q2 e1 e2
    generalize x.waits = wt at *
    generalize x.calm = cl at *
    generalize shedD x.beds = sd at *
    generalize shedL x.beds = sl at *
    go_enter Try.func13, Try.ntmps13
    go_wp2_with fail
    refine SH.out.mono ?_
    rintro e w3 ⟨rfl, r3, k3⟩
    have FI := Hid.intro (show LeftC S w w3 b ⟨wt, 0, sl⟩ from ⟨S, r3, Q2.out.trans k3 (fun _ q _ => q), fun _ => .inl⟩)
    clear SH r3 k3
    go_wp2
    go_ret
    exact ⟨rfl, FI.out⟩
  | false =>
    have e1 : tickD x false = -1 := by simp [tickD]
    rw [e1]
    have e1 := heap_setCell_same w b 1 _ _ (.int .i64 ((x.calm : Int) + 1)) h.head
    have g1 : (w.setCell ⟨b, 1, none⟩ (.int .i64 ((x.calm : Int) + 1))).cell? ⟨b, 1, none⟩ = some (.int .i64 ((x.calm : Int) + 1)) := by rw [cell_of_row _ _ 1 _ _ _ e1]; rfl
    have g0 : (w.setCell ⟨b, 1, none⟩ (.int .i64 ((x.calm : Int) + 1))).cell? ⟨b, 0, none⟩ = some (.int .i64 (x.waits : Int)) := by rw [cell_of_row _ _ 0 _ _ _ e1]; rfl
    have gf : (w.setCell ⟨b, 1, none⟩ (.int .i64 ((x.calm : Int) + 1))).frozen? ⟨b, 1, none⟩ = false := frozen_of_row _ b 1 _ _ e1
    clear e1
    by_cases hc : x.calm + 1 = x.waits
    · have e2 : tickC x false = { x with calm := 0, beds := x.beds.map zeroS } := by simp [tickC, hc]
      rw [e2]
      have SH := Hid.intro (fun q => hfill_any b S v zs _ _ (h.setCalm2 (m := x.calm + 1) (n := 0) q (by omega)).1)
      have Q2 := Hid.intro (fun q => (h.setCalm2 (m := x.calm + 1) (n := 0) q (by omega)).2)
      have hcc : (((x.calm : Int) + 1) == (x.waits : Int)) = true := by simp; omega
      clear h e2 hc
      generalize x.waits = wt at *
      generalize x.calm = cl at *
      generalize x.beds.map zeroS = sl at *
      go_enter Try.func13, Try.ntmps13
      go_wp2_with fail
      go_quiet (fail)
      go_wp2_with fail
      refine (SH.out _).mono ?_
      rintro e w3 ⟨rfl, r3, k3⟩
      have FI := Hid.intro (show LeftC S w w3 b ⟨wt, 0, sl⟩ from ⟨S, r3, (Q2.out _).trans k3 (fun _ q _ => q), fun _ => .inl⟩)
      clear SH r3 k3
      go_wp2
      go_ret
      exact ⟨rfl, FI.out⟩
    · have e2 : tickC x false = { x with calm := x.calm + 1 } := by simp [tickC, hc]
      rw [e2]
      have FI : Hid (∀ q, LeftC S w ((w.setCell ⟨b, 1, none⟩ (.int .i64 ((x.calm : Int) + 1))).drewN q) b { x with calm := x.calm + 1 }) := fun q => by
        obtain ⟨p1, p2⟩ := h.setCalm (n := x.calm + 1) (by omega)
        exact ⟨S, ⟨v, zs, p1.kept (T := fun _ => False) ((Chg.refl _ _).drewN q) (fun _ _ => id)⟩, p2.drewN q, fun _ => .inl⟩
      have hcc : (((x.calm : Int) + 1) == (x.waits : Int)) = false := by rw [beq_eq_false_iff_ne]; omega
      clear h e2 hc
      generalize x.waits = wt at *
      generalize x.calm = cl at *
      go_enter Try.func13, Try.ntmps13
      go_wp2_with fail
      go_quiet (fail)
      go_wp2
      go_ret
      exact ⟨rfl, FI.out _⟩

theorem hlevel_any (b : Nat) (bed : Int) (S : Nat → Prop) (x : Ctl) (w : World) (h : Ctr S w b x) :
    Calls Try.prog 14 #[.pointer (some ⟨b, 0, none⟩), .int .i64 bed] w fun e w' => e = .returned (.int .i64 (levS x bed : Int)) ∧ Below w.heap.size w w' := by
  obtain ⟨v, zs, h⟩ := h
  have FI := Hid.intro (hfind_any b bed S v zs x w h)
  have hf := h.few
  rcases levS_pos x bed with ⟨e1, e2⟩ | ⟨i, hi, e1, e2⟩
  · rw [e2]
    rw [e1] at FI
    clear h e1 e2
    go_enter Try.func14, Try.ntmps14
    go_wp2_with fail
    refine FI.out.mono ?_
    rintro e w2 ⟨rfl, B2⟩
    have BH := Hid.intro B2
    clear B2 FI
    go_wp2
    go_ret
    exact ⟨rfl, BH.out⟩
  · rw [e2]
    rw [e1] at FI
    have hi' : i < zs.length := by rw [← h.len]; exact hi
    have ez : x.beds[i] = zs[i].2 := by simp [h.beds]
    obtain ⟨ao, c, rfl, hz⟩ := h.form
    obtain ⟨g, rfl⟩ := hz.resolve_left (by omega)
    have KK := Hid.intro (fun (W : World) (hB : Below w.heap.size w W) => (show W.cell? ⟨b, 2, none⟩ = some (.slice (some ⟨g, 0, none⟩) zs.length c) ∧ W.cell? ⟨g, i, none⟩ = some (Pv zs[i].1) ∧ W.cell? ⟨zs[i].1, 2, none⟩ = some (.int .i64 (zs[i].2.lv : Int)) from
      ⟨(h.below hB).cells.2.2.1, (h.below hB).at hi', ((h.each zs[i] (List.getElem_mem hi')).below hB).cells.2.2.1⟩))
    rw [ez]
    have i0 : (0 : Int) ≤ (i : Int) := by omega
    have i1 : (i : Int) < (zs.length : Int) := by omega
    generalize zs[i].2.lv = lv at *
    generalize zs[i].1 = q at *
    clear h e1 e2 ez hi' hi hz
    generalize zs.length = n at *
    go_enter Try.func14, Try.ntmps14
    go_wp2_with fail
    refine FI.out.mono ?_
    rintro e w2 ⟨rfl, B2⟩
    obtain ⟨k0, k1, k2⟩ := KK.out w2 B2
    have BH := Hid.intro B2
    clear B2 FI KK
    go_wp2
    go_ret
    exact ⟨rfl, BH.out⟩

end Go.Proofs.Ythfmgdhhjnngaaa
