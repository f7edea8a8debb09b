/- The document's own Push of layer 12. -/
import Derived.Test.YtgcpkploeobafaaEdRefD
import Derived.Test.YtgcpkploeobafaaEdApp2
import Derived.BigQuiet
import Derived.Test.YtgcpkploeobafaaRgLast
namespace Go.Proofs.Ytgcpkploeobafaa
open Go.RowKit
open Bt

theorem of_containsL {l : List Nat} {i : Nat} (h : l.contains i = true) : i ∈ l := by simpa using h

theorem js_takeJ {R : Nat → Prop} {w : World} {ao : Option Addr} {n c : Nat} {l : List Jb} (h : JsAt R w (.slice ao n c) l) {k : Nat} (hk : k ≤ l.length) : JsAt R w (.slice ao k c) (l.take k) := by
  obtain ⟨ao', cap, e, hr, hp⟩ := h
  simp only [Value.slice.injEq] at e
  obtain ⟨rfl, _, rfl⟩ := e
  have hl : (l.take k).length = k := by rw [List.length_take]; omega
  refine ⟨_, _, by rw [hl], ⟨by omega, hr.2⟩, fun h0 => ?_⟩
  rw [hl] at h0
  obtain ⟨pb, off, ha, hb, hq⟩ := hp (by omega)
  refine ⟨pb, off, ha, hb, fun t ht => ?_⟩
  rw [hl] at ht
  rw [List.getElem_take]
  exact hq t (by omega)

theorem js_dropJ {R : Nat → Prop} {w : World} {pb off n c : Nat} {l : List Jb} (h : JsAt R w (.slice (some ⟨pb, off, none⟩) n c) l) {k m : Nat} (hk : k ≤ l.length) (hm : m = l.length - k) (hc : k ≤ c) : JsAt R w (.slice (if c = k then some ⟨pb, off, none⟩ else some ⟨pb, off + k * 7, none⟩) m (c - k)) (l.drop k) := by
  obtain ⟨ao', cap, e, hr, hp⟩ := h
  simp only [Value.slice.injEq] at e
  obtain ⟨rfl, _, rfl⟩ := e
  have hl : (l.drop k).length = m := by rw [List.length_drop, hm]
  refine ⟨_, _, by rw [hl], ⟨by omega, fun q => by split at q <;> cases q⟩, fun h0 => ?_⟩
  rw [hl] at h0
  obtain ⟨pb', off', ha, hb, hq⟩ := hp (by omega)
  simp only [Option.some.injEq, Addr.mk.injEq, and_true] at ha
  obtain ⟨rfl, rfl⟩ := ha
  refine ⟨pb, off + k * 7, if_neg (by omega), hb, fun t ht => ?_⟩
  rw [hl] at ht
  rw [List.getElem_drop, show off + k * 7 + t * 7 = off + (k + t) * 7 by omega]
  exact hq (k + t) (by omega)

/-- Where a job is put. -/
theorem ins_at {x : List Jb} (h : SrtJ x) (j : Jb) {p : Nat} (hp : p ≤ x.length) (h1 : ∀ t, p ≤ t → (ht : t < x.length) → ahJ j x[t] = true) (h2 : ∀ s, p = s + 1 → (hs : s < x.length) → ahJ j x[s] = false) : insJ x j = x.take p ++ [j] ++ x.drop p := by
  induction x generalizing p with
  | nil =>
    obtain rfl : p = 0 := by simpa using hp
    rfl
  | cons b x ih =>
    have hh := List.pairwise_cons.1 h
    cases p with
    | zero =>
      have q : ahJ j b = true := h1 0 (Nat.le_refl _) (by simp)
      rw [insJ, if_pos q]
      rfl
    | succ p =>
      have hp' : p ≤ x.length := by simpa using hp
      have q : ahJ j b = false := by
        have z := h2 p rfl (by simp; omega)
        cases p with
        | zero => exact z
        | succ p =>
          have hpx : p < x.length := by omega
          have z2 : ahJ j x[p] = false := z
          have o := hh.1 x[p] (List.getElem_mem hpx)
          rw [ahJ_false] at *
          omega
      rw [insJ, if_neg (by rw [q]; simp), ih hh.2 hp' (fun t ht hx => h1 (t + 1) (by omega) (by simpa using hx)) (fun s hs hx => h2 (s + 1) (by omega) (by simpa using hx))]
      rfl

theorem ahJ_dec (a b : Jb) : ahJ a b = (decide (a.dl < b.dl) || (decide (a.dl = b.dl) && decide (a.bed < b.bed))) := by
  rw [Bool.eq_iff_iff, ahJ_true]
  simp

theorem push_ways (x : List Jb) (j : Jb) : (mayJ j = false → pushE' x j = 1 ∧ pushQ x j = x) ∧ (mayJ j = true → 40 ≤ x.length → pushE' x j = 7 ∧ pushQ x j = x) ∧ (mayJ j = true → ¬ 40 ≤ x.length → pushE' x j = 0 ∧ pushQ x j = insJ x j) := by
  refine ⟨fun h => ?_, fun h1 h2 => ?_, fun h1 h2 => ?_⟩
  · have e : pushE' x j = 1 := by unfold pushE'; rw [if_neg (by rw [h]; simp)]
    exact ⟨e, by unfold pushQ; rw [e]; rfl⟩
  · have e : pushE' x j = 7 := by unfold pushE'; rw [if_pos h1, if_pos h2]
    exact ⟨e, by unfold pushQ; rw [e]; rfl⟩
  · have e : pushE' x j = 0 := by unfold pushE'; rw [if_pos h1, if_neg h2]
    exact ⟨e, by unfold pushQ; rw [if_pos e]⟩

set_option maxRecDepth 100000 in
set_option maxHeartbeats 4000000 in
theorem refPush12_in (rb : Nat) (b0 b1 b2 b3 b4 b5 b6 : Int) (S : Nat → Prop) (x : List Jb) (w : World) (hc : RQue S w rb x) :
    Calls Try.prog 18 #[.pointer (some ⟨rb, 0, none⟩), Jv ⟨b0, b1, b2, b3, b4, b5, b6⟩] w fun e w' => e = .returned (.int .i64 (pushE' x ⟨b0, b1, b2, b3, b4, b5, b6⟩)) ∧ LeftR S w w' rb (pushQ x ⟨b0, b1, b2, b3, b4, b5, b6⟩) := by
  obtain ⟨v, h⟩ := hc
  have PW := Hid.intro (push_ways x ⟨b0, b1, b2, b3, b4, b5, b6⟩)
  have BA := (Below.refl _ w).alloc (Nat.le_refl _) (.cells #[.int .i64 b0, .int .i64 b1, .int .i64 b2, .int .i64 b3, .int .i64 b4, .int .i64 b5, .int .i64 b6] 38)
  have nA := heap_alloc_new w (.cells #[.int .i64 b0, .int .i64 b1, .int .i64 b2, .int .i64 b3, .int .i64 b4, .int .i64 b5, .int .i64 b6] 38)
  obtain ⟨A, hA⟩ : ∃ A, A = w.alloc (.cells #[.int .i64 b0, .int .i64 b1, .int .i64 b2, .int .i64 b3, .int .i64 b4, .int .i64 b5, .int .i64 b6] 38) := ⟨_, rfl⟩
  have HA := Hid.intro hA
  rw [← hA] at BA nA
  have RH := Hid.intro h
  have cv := (BA.cell (cell_lt h.cell)).trans h.cell
  have few := h.ok.few
  have SR := Hid.intro h.ok.srt
  have NOP : Hid (∀ W, Below w.heap.size w W → LeftR S w W rb x) := fun W hW => ⟨S, ⟨v, h.below hW⟩, (below_chg hW).mono (fun _ f _ => f.elim), fun k hk => .inl hk⟩
  obtain ⟨ao, c, hv, hroom, hp⟩ := h.js
  subst hv
  have HP := Hid.intro hp
  have KB : Hid (∀ W, Below A.heap.size A W → (W.cell? ⟨w.heap.size, 0, none⟩ = some (.int .i64 b0) ∧ W.cell? ⟨w.heap.size, 1, none⟩ = some (.int .i64 b1) ∧ W.cell? ⟨w.heap.size, 2, none⟩ = some (.int .i64 b2) ∧ W.cell? ⟨w.heap.size, 3, none⟩ = some (.int .i64 b3) ∧ W.cell? ⟨w.heap.size, 4, none⟩ = some (.int .i64 b4) ∧ W.cell? ⟨w.heap.size, 5, none⟩ = some (.int .i64 b5) ∧ W.cell? ⟨w.heap.size, 6, none⟩ = some (.int .i64 b6))) := fun W hW => by
    have q := (hW.block _ (lt_of_heap nA)).trans nA
    exact ⟨by rw [cell_of_row _ _ 0 _ _ _ q]; rfl, by rw [cell_of_row _ _ 1 _ _ _ q]; rfl, by rw [cell_of_row _ _ 2 _ _ _ q]; rfl, by rw [cell_of_row _ _ 3 _ _ _ q]; rfl, by rw [cell_of_row _ _ 4 _ _ _ q]; rfl, by rw [cell_of_row _ _ 5 _ _ _ q]; rfl, by rw [cell_of_row _ _ 6 _ _ _ q]; rfl⟩
  have KQ : Hid (∀ W, Below A.heap.size A W → W.cell? ⟨rb, 0, none⟩ = some (.slice ao x.length c)) := fun W hW => (hW.cell (cell_lt cv)).trans cv
  have KJ : Hid (∀ W, Below A.heap.size A W → 0 < x.length → ∃ pb off, ao = some ⟨pb, off, none⟩ ∧ ∀ t, (ht : t < x.length) → JobAt W pb (off + t * 7) x[t]) := fun W hW h0 => by
    obtain ⟨pb, off, e, _, hq⟩ := HP.out h0
    exact ⟨pb, off, e, fun t ht => ((hq t ht).below BA).below hW⟩
  have MY := Hid.intro (refMay12_in b0 b1 b2 b3 b4 b5 b6 A)
  have BAH := Hid.intro BA
  obtain ⟨pe, hpe⟩ : ∃ pe, pe = pushE' x ⟨b0, b1, b2, b3, b4, b5, b6⟩ := ⟨_, rfl⟩
  have OKT0 := pushQ_ok RH.out.ok ⟨b0, b1, b2, b3, b4, b5, b6⟩
  obtain ⟨T, hT⟩ : ∃ T, T = pushQ x ⟨b0, b1, b2, b3, b4, b5, b6⟩ := ⟨_, rfl⟩
  obtain ⟨L, hL⟩ : ∃ L, L = x.length := ⟨_, rfl⟩
  have HL := Hid.intro hL
  rw [← hpe, ← hT] at PW ⊢
  rw [← hT] at OKT0
  have OKT := Hid.intro OKT0
  clear OKT0
  rw [← hL] at PW KQ few hroom
  clear hpe hT hL h hp nA BA hA cv
  cases hmy : mayJ ⟨b0, b1, b2, b3, b4, b5, b6⟩ with
  | false =>
    obtain ⟨rfl, rfl⟩ := PW.out.1 hmy
    rw [hmy] at MY
    clear hmy PW
    go_enter Try.func18, Try.ntmps18
    go_wp2_with fail
    rw [← HA.out]
    refine MY.out.mono ?_
    rintro e w1 ⟨rfl, B1⟩
    have BW := Hid.intro (BAH.out.trans (B1.mono BAH.out.size))
    clear MY B1
    go_wp2
    go_ret
    exact ⟨rfl, NOP.out _ BW.out⟩
  | true =>
  rw [hmy] at MY
  by_cases h40 : 40 ≤ L
  · obtain ⟨rfl, rfl⟩ := PW.out.2.1 hmy h40
    have z40 : (40 : Int) ≤ (L : Int) := by omega
    clear hmy PW
    go_enter Try.func18, Try.ntmps18
    go_wp2_with fail
    rw [← HA.out]
    refine MY.out.mono ?_
    rintro e w1 ⟨rfl, B1⟩
    have BW := Hid.intro (BAH.out.trans (B1.mono BAH.out.size))
    have cq := KQ.out w1 B1
    clear MY B1
    go_wp2
    go_ret
    exact ⟨rfl, NOP.out _ BW.out⟩
  obtain ⟨rfl, hTT⟩ := PW.out.2.2 hmy h40
  have HT := Hid.intro hTT
  have z40 : ¬ (40 : Int) ≤ (L : Int) := by omega
  clear hmy PW hTT NOP
  go_enter Try.func18, Try.ntmps18
  go_wp2_with fail
  rw [← HA.out]
  refine MY.out.mono ?_
  rintro e w1 ⟨rfl, B1⟩
  have B1H := Hid.intro B1
  have cq := KQ.out w1 B1
  clear MY B1
  go_wp2_with fail
  go_loopw [5] (fun av ws => ∃ (p q : Nat), p ≤ L ∧ av = .int .i64 p ∧ (∀ t, p ≤ t → (ht : t < x.length) → ahJ ⟨b0, b1, b2, b3, b4, b5, b6⟩ x[t] = true) ∧ ws = w1.drewN q) (fun av _ => (intOf av).toNat)
  case atStart => exact ⟨L, 0, Nat.le_refl _, rfl, fun t h1 h2 => by have := HL.out; omega, rfl⟩
  case round =>
    obtain ⟨p, q, hpL, rfl, hah, hwr⟩ := hrel
    have AH := Hid.intro hah
    have BR : Hid (Below A.heap.size A wr) := by rw [Hid, hwr]; exact ⟨B1H.out.os, B1H.out.tape, B1H.out.output, B1H.out.size, B1H.out.block⟩
    have HWR := Hid.intro hwr
    obtain ⟨e0, e1, e2, e3, e4, e5, e6⟩ := KB.out wr BR.out
    have cr := KQ.out wr BR.out
    clear hah hwr cq
    by_cases hp0 : p = 0
    · subst hp0
      go_wp2_with fail
      go_big_quiet (fail)
      go_wp2_with fail
      have BD : Hid (Below A.heap.size A (wr.drewN nq).drew) := ⟨BR.out.os, BR.out.tape, BR.out.output, BR.out.size, BR.out.block⟩
      have HS : ((fun W => W.cell? ⟨rb, 0, none⟩ = some (.slice (ao) L c) ∧ (W.cell? ⟨w.heap.size, 0, none⟩ = some (.int .i64 b0) ∧ W.cell? ⟨w.heap.size, 1, none⟩ = some (.int .i64 b1) ∧ W.cell? ⟨w.heap.size, 2, none⟩ = some (.int .i64 b2) ∧ W.cell? ⟨w.heap.size, 3, none⟩ = some (.int .i64 b3) ∧ W.cell? ⟨w.heap.size, 4, none⟩ = some (.int .i64 b4) ∧ W.cell? ⟨w.heap.size, 5, none⟩ = some (.int .i64 b5) ∧ W.cell? ⟨w.heap.size, 6, none⟩ = some (.int .i64 b6))) : World → Prop) (wr.drewN nq).drew := ⟨KQ.out _ BD.out, KB.out _ BD.out⟩
      refine until_start (S := (fun W => W.cell? ⟨rb, 0, none⟩ = some (.slice (ao) L c) ∧ (W.cell? ⟨w.heap.size, 0, none⟩ = some (.int .i64 b0) ∧ W.cell? ⟨w.heap.size, 1, none⟩ = some (.int .i64 b1) ∧ W.cell? ⟨w.heap.size, 2, none⟩ = some (.int .i64 b2) ∧ W.cell? ⟨w.heap.size, 3, none⟩ = some (.int .i64 b3) ∧ W.cell? ⟨w.heap.size, 4, none⟩ = some (.int .i64 b4) ∧ W.cell? ⟨w.heap.size, 5, none⟩ = some (.int .i64 b5) ∧ W.cell? ⟨w.heap.size, 6, none⟩ = some (.int .i64 b6)))) (z := 21) (by kernel_rfl) ?_
      generalize (wr.drewN nq).drew = Wd at *
      have BWD := Hid.intro (BAH.out.trans (BD.out.mono BAH.out.size))
      have SS : Hid (∀ X, Below Wd.heap.size Wd X → ((fun W => W.cell? ⟨rb, 0, none⟩ = some (.slice (ao) L c) ∧ (W.cell? ⟨w.heap.size, 0, none⟩ = some (.int .i64 b0) ∧ W.cell? ⟨w.heap.size, 1, none⟩ = some (.int .i64 b1) ∧ W.cell? ⟨w.heap.size, 2, none⟩ = some (.int .i64 b2) ∧ W.cell? ⟨w.heap.size, 3, none⟩ = some (.int .i64 b3) ∧ W.cell? ⟨w.heap.size, 4, none⟩ = some (.int .i64 b4) ∧ W.cell? ⟨w.heap.size, 5, none⟩ = some (.int .i64 b5) ∧ W.cell? ⟨w.heap.size, 6, none⟩ = some (.int .i64 b6))) : World → Prop) X) := fun X hX => ⟨KQ.out _ (BD.out.trans (hX.mono BD.out.size)), KB.out _ (BD.out.trans (hX.mono BD.out.size))⟩
      have JW : Hid (JsAt (fun _ => True) Wd (.slice (ao) L c) x) := by
        have q := (RH.out.js.mono (R' := fun _ => True) (fun _ _ => trivial)).below BWD.out
        rw [← HL.out] at q
        exact q
      have LTK : Hid (0 = (x.take 0).length) := by rw [Hid, List.length_take]; have := HL.out; omega
      have LDR : Hid (L = (x.drop 0).length) := by rw [Hid, List.length_drop]; have := HL.out; omega
      have LN1 : Hid (0 + 1 = (x.take 0 ++ [(⟨b0, b1, b2, b3, b4, b5, b6⟩ : Jb)]).length) := by rw [Hid, List.length_append, ← LTK.out]; rfl
      have SA : Hid (∀ X, Below Wd.heap.size Wd X → JsAt (fun _ => True) X (.slice (ao) 0 c) (x.take 0)) := fun X hX => by rw [List.take_zero]; exact ⟨ao, c, rfl, ⟨Nat.zero_le _, hroom.2⟩, fun q => absurd q (by simp)⟩
      have SB : Hid (∀ X, Below Wd.heap.size Wd X → JsAt (fun _ => True) X (.slice (ao) L c) (x.drop 0)) := fun X hX => by rw [List.drop_zero]; exact JW.out.below hX
      have H0A : Hid (((ao) : Option Addr) = none → c = 0) := hroom.2
      have H0B : Hid (((ao) : Option Addr) = none → c = 0) := fun q => by first | (have := hroom.2 q; omega) | (exfalso; revert q; split <;> intro q <;> cases q)
      have EQT : Hid (T = x.take 0 ++ [(⟨b0, b1, b2, b3, b4, b5, b6⟩ : Jb)] ++ x.drop 0) := by rw [Hid, HT.out]; exact ins_at SR.out (⟨b0, b1, b2, b3, b4, b5, b6⟩ : Jb) (by have := HL.out; omega) AH.out (fun s hs => by omega)
      have FN : Hid (∀ (wc : World) (oa : Option Addr) (oc : Nat), wc.ownsRow 0 38 7 (.slice oa (0 + 1 + L) oc) (0 + 1 + L) (jcells (x.take 0 ++ [(⟨b0, b1, b2, b3, b4, b5, b6⟩ : Jb)] ++ x.drop 0)) → Below Wd.heap.size Wd wc → (∀ k, (Value.slice oa (0 + 1 + L) oc).ownBlock = some k → Wd.heap.size ≤ k) → (wc.cell? ⟨rb, 0, none⟩ = some (.slice (ao) L c) ∧ wc.frozen? ⟨rb, 0, none⟩ = false) ∧ LeftR S w (wc.setCell ⟨rb, 0, none⟩ (.slice oa (0 + 1 + L) oc)) rb T) := fun wc oa oc hown hB hge => by
        have BW := BWD.out.trans (hB.mono BWD.out.size)
        have hs := BWD.out.size
        have mk : Mk w.heap.size wc (.slice oa (0 + 1 + L) oc) (0 + 1 + L) T := by
          rw [EQT.out]
          exact ⟨by rw [List.length_append, ← LDR.out, ← LN1.out], hown, fun k hk => Nat.le_trans hs (hge k hk)⟩
        obtain ⟨q1, q2, q3⟩ := RH.out.laid BW mk OKT.out
        rw [← HL.out] at q1
        exact ⟨q1, _, ⟨_, q2⟩, q3, fun k hk => by
          rcases hk with e | e
          · subst e; exact .inl RH.out.inB
          · exact .inr (Nat.le_trans hs (hge k e))⟩
      have few2 : 0 + 1 + L ≤ 1000 := by omega
      clear KQ KB KJ HP BR HWR AH e0 e1 e2 e3 e4 e5 e6 cr
      refine until_take (i := 0) (oi := ({ dst := some 66, op := Op.move (Operand.tmp 0), type := 64, pos := "ref.go:26", after := #[], guard := none } : Oper)) (oz := ({ dst := none, op := Op.store 26 (Operand.tmp 86) (Operand.tmp 84), type := 0, pos := "ref.go:26", after := #[{ on := 20, ground := Ground.data }, { on := 18, ground := Ground.data }, { on := 18, ground := Ground.chain }, { on := 0, ground := Ground.phase }, { on := 1, ground := Ground.phase }, { on := 2, ground := Ground.phase }, { on := 3, ground := Ground.phase }, { on := 4, ground := Ground.phase }, { on := 5, ground := Ground.phase }, { on := 6, ground := Ground.phase }, { on := 7, ground := Ground.phase }, { on := 8, ground := Ground.phase }, { on := 9, ground := Ground.phase }, { on := 10, ground := Ground.phase }, { on := 11, ground := Ground.phase }, { on := 12, ground := Ground.phase }, { on := 13, ground := Ground.phase }, { on := 14, ground := Ground.phase }, { on := 15, ground := Ground.phase }, { on := 16, ground := Ground.phase }, { on := 17, ground := Ground.phase }, { on := 18, ground := Ground.phase }], guard := none } : Oper)) (v := ?v0z) rfl rfl (by kernel_rfl) (by kernel_rfl) (fun _ _ _ h => h) (Region.free_spec rfl (by kernel_rfl)) (of_containsL (by kernel_rfl)) (Or.inl ⟨by rfl, ?y0z⟩) HS ?r0z
      case y0z => (intro w hSw; (try dsimp only at hSw); go_simp; first | done | with_reducible rfl)
      (try simp only [Act.put, List.setIfInBounds_toArray, List.set_cons_zero, List.set_cons_succ])
      refine until_take (i := 2) (oi := ({ dst := some 68, op := Op.move (Operand.tmp 0), type := 64, pos := "ref.go:26", after := #[], guard := none } : Oper)) (oz := ({ dst := none, op := Op.store 26 (Operand.tmp 86) (Operand.tmp 84), type := 0, pos := "ref.go:26", after := #[{ on := 20, ground := Ground.data }, { on := 18, ground := Ground.data }, { on := 18, ground := Ground.chain }, { on := 0, ground := Ground.phase }, { on := 1, ground := Ground.phase }, { on := 2, ground := Ground.phase }, { on := 3, ground := Ground.phase }, { on := 4, ground := Ground.phase }, { on := 5, ground := Ground.phase }, { on := 6, ground := Ground.phase }, { on := 7, ground := Ground.phase }, { on := 8, ground := Ground.phase }, { on := 9, ground := Ground.phase }, { on := 10, ground := Ground.phase }, { on := 11, ground := Ground.phase }, { on := 12, ground := Ground.phase }, { on := 13, ground := Ground.phase }, { on := 14, ground := Ground.phase }, { on := 15, ground := Ground.phase }, { on := 16, ground := Ground.phase }, { on := 17, ground := Ground.phase }, { on := 18, ground := Ground.phase }], guard := none } : Oper)) (v := ?v2z) rfl rfl (by kernel_rfl) (by kernel_rfl) (fun _ _ _ h => h) (Region.free_spec rfl (by kernel_rfl)) (of_containsL (by kernel_rfl)) (Or.inl ⟨by rfl, ?y2z⟩) HS ?r2z
      case y2z => (intro w hSw; (try dsimp only at hSw); go_simp; first | done | with_reducible rfl)
      (try simp only [Act.put, List.setIfInBounds_toArray, List.set_cons_zero, List.set_cons_succ])
      refine until_take (i := 3) (oi := ({ dst := some 69, op := Op.nilCheck (Operand.tmp 68), type := 0, pos := "ref.go:26", after := #[{ on := 2, ground := Ground.data }], guard := none } : Oper)) (oz := ({ dst := none, op := Op.store 26 (Operand.tmp 86) (Operand.tmp 84), type := 0, pos := "ref.go:26", after := #[{ on := 20, ground := Ground.data }, { on := 18, ground := Ground.data }, { on := 18, ground := Ground.chain }, { on := 0, ground := Ground.phase }, { on := 1, ground := Ground.phase }, { on := 2, ground := Ground.phase }, { on := 3, ground := Ground.phase }, { on := 4, ground := Ground.phase }, { on := 5, ground := Ground.phase }, { on := 6, ground := Ground.phase }, { on := 7, ground := Ground.phase }, { on := 8, ground := Ground.phase }, { on := 9, ground := Ground.phase }, { on := 10, ground := Ground.phase }, { on := 11, ground := Ground.phase }, { on := 12, ground := Ground.phase }, { on := 13, ground := Ground.phase }, { on := 14, ground := Ground.phase }, { on := 15, ground := Ground.phase }, { on := 16, ground := Ground.phase }, { on := 17, ground := Ground.phase }, { on := 18, ground := Ground.phase }], guard := none } : Oper)) (v := ?v3z) rfl rfl (by kernel_rfl) (by kernel_rfl) (fun _ _ _ h => h) (Region.free_spec rfl (by kernel_rfl)) (of_containsL (by kernel_rfl)) (Or.inl ⟨by rfl, ?y3z⟩) HS ?r3z
      case y3z => (intro w hSw; (try dsimp only at hSw); go_simp; first | done | with_reducible rfl)
      (try simp only [Act.put, List.setIfInBounds_toArray, List.set_cons_zero, List.set_cons_succ])
      refine until_take (i := 4) (oi := ({ dst := some 70, op := Op.fieldAddr 41 (Operand.tmp 69) 0, type := 0, pos := "ref.go:26", after := #[{ on := 3, ground := Ground.data }], guard := none } : Oper)) (oz := ({ dst := none, op := Op.store 26 (Operand.tmp 86) (Operand.tmp 84), type := 0, pos := "ref.go:26", after := #[{ on := 20, ground := Ground.data }, { on := 18, ground := Ground.data }, { on := 18, ground := Ground.chain }, { on := 0, ground := Ground.phase }, { on := 1, ground := Ground.phase }, { on := 2, ground := Ground.phase }, { on := 3, ground := Ground.phase }, { on := 4, ground := Ground.phase }, { on := 5, ground := Ground.phase }, { on := 6, ground := Ground.phase }, { on := 7, ground := Ground.phase }, { on := 8, ground := Ground.phase }, { on := 9, ground := Ground.phase }, { on := 10, ground := Ground.phase }, { on := 11, ground := Ground.phase }, { on := 12, ground := Ground.phase }, { on := 13, ground := Ground.phase }, { on := 14, ground := Ground.phase }, { on := 15, ground := Ground.phase }, { on := 16, ground := Ground.phase }, { on := 17, ground := Ground.phase }, { on := 18, ground := Ground.phase }], guard := none } : Oper)) (v := ?v4z) rfl rfl (by kernel_rfl) (by kernel_rfl) (fun _ _ _ h => h) (Region.free_spec rfl (by kernel_rfl)) (of_containsL (by kernel_rfl)) (Or.inl ⟨by rfl, ?y4z⟩) HS ?r4z
      case y4z => (intro w hSw; (try dsimp only at hSw); go_simp; first | done | with_reducible rfl)
      (try simp only [Act.put, List.setIfInBounds_toArray, List.set_cons_zero, List.set_cons_succ])
      refine until_take (i := 5) (oi := ({ dst := some 71, op := Op.load 26 (Operand.tmp 70), type := 26, pos := "ref.go:26", after := #[{ on := 4, ground := Ground.data }], guard := none } : Oper)) (oz := ({ dst := none, op := Op.store 26 (Operand.tmp 86) (Operand.tmp 84), type := 0, pos := "ref.go:26", after := #[{ on := 20, ground := Ground.data }, { on := 18, ground := Ground.data }, { on := 18, ground := Ground.chain }, { on := 0, ground := Ground.phase }, { on := 1, ground := Ground.phase }, { on := 2, ground := Ground.phase }, { on := 3, ground := Ground.phase }, { on := 4, ground := Ground.phase }, { on := 5, ground := Ground.phase }, { on := 6, ground := Ground.phase }, { on := 7, ground := Ground.phase }, { on := 8, ground := Ground.phase }, { on := 9, ground := Ground.phase }, { on := 10, ground := Ground.phase }, { on := 11, ground := Ground.phase }, { on := 12, ground := Ground.phase }, { on := 13, ground := Ground.phase }, { on := 14, ground := Ground.phase }, { on := 15, ground := Ground.phase }, { on := 16, ground := Ground.phase }, { on := 17, ground := Ground.phase }, { on := 18, ground := Ground.phase }], guard := none } : Oper)) (v := ?v5z) rfl rfl (by kernel_rfl) (by kernel_rfl) (fun _ _ _ h => h) (Region.free_spec rfl (by kernel_rfl)) (of_containsL (by kernel_rfl)) (Or.inl ⟨by rfl, ?y5z⟩) HS ?r5z
      case y5z => (intro w hSw; (try dsimp only at hSw); go_simp; first | done | with_reducible rfl)
      (try simp only [Act.put, List.setIfInBounds_toArray, List.set_cons_zero, List.set_cons_succ])
      refine until_take (i := 6) (oi := ({ dst := some 72, op := Op.move (Operand.tmp 5), type := 3, pos := "ref.go:26", after := #[], guard := none } : Oper)) (oz := ({ dst := none, op := Op.store 26 (Operand.tmp 86) (Operand.tmp 84), type := 0, pos := "ref.go:26", after := #[{ on := 20, ground := Ground.data }, { on := 18, ground := Ground.data }, { on := 18, ground := Ground.chain }, { on := 0, ground := Ground.phase }, { on := 1, ground := Ground.phase }, { on := 2, ground := Ground.phase }, { on := 3, ground := Ground.phase }, { on := 4, ground := Ground.phase }, { on := 5, ground := Ground.phase }, { on := 6, ground := Ground.phase }, { on := 7, ground := Ground.phase }, { on := 8, ground := Ground.phase }, { on := 9, ground := Ground.phase }, { on := 10, ground := Ground.phase }, { on := 11, ground := Ground.phase }, { on := 12, ground := Ground.phase }, { on := 13, ground := Ground.phase }, { on := 14, ground := Ground.phase }, { on := 15, ground := Ground.phase }, { on := 16, ground := Ground.phase }, { on := 17, ground := Ground.phase }, { on := 18, ground := Ground.phase }], guard := none } : Oper)) (v := ?v6z) rfl rfl (by kernel_rfl) (by kernel_rfl) (fun _ _ _ h => h) (Region.free_spec rfl (by kernel_rfl)) (of_containsL (by kernel_rfl)) (Or.inl ⟨by rfl, ?y6z⟩) HS ?r6z
      case y6z => (intro w hSw; (try dsimp only at hSw); go_simp; first | done | with_reducible rfl)
      (try simp only [Act.put, List.setIfInBounds_toArray, List.set_cons_zero, List.set_cons_succ])
      refine until_take (i := 7) (oi := ({ dst := some 73, op := Op.slice 26 (Operand.tmp 71) none (some (Operand.tmp 72)) none, type := 26, pos := "ref.go:26", after := #[{ on := 5, ground := Ground.data }, { on := 6, ground := Ground.data }], guard := none } : Oper)) (oz := ({ dst := none, op := Op.store 26 (Operand.tmp 86) (Operand.tmp 84), type := 0, pos := "ref.go:26", after := #[{ on := 20, ground := Ground.data }, { on := 18, ground := Ground.data }, { on := 18, ground := Ground.chain }, { on := 0, ground := Ground.phase }, { on := 1, ground := Ground.phase }, { on := 2, ground := Ground.phase }, { on := 3, ground := Ground.phase }, { on := 4, ground := Ground.phase }, { on := 5, ground := Ground.phase }, { on := 6, ground := Ground.phase }, { on := 7, ground := Ground.phase }, { on := 8, ground := Ground.phase }, { on := 9, ground := Ground.phase }, { on := 10, ground := Ground.phase }, { on := 11, ground := Ground.phase }, { on := 12, ground := Ground.phase }, { on := 13, ground := Ground.phase }, { on := 14, ground := Ground.phase }, { on := 15, ground := Ground.phase }, { on := 16, ground := Ground.phase }, { on := 17, ground := Ground.phase }, { on := 18, ground := Ground.phase }], guard := none } : Oper)) (v := ?v7z) rfl rfl (by kernel_rfl) (by kernel_rfl) (fun _ _ _ h => h) (Region.free_spec rfl (by kernel_rfl)) (of_containsL (by kernel_rfl)) (Or.inl ⟨by rfl, ?y7z⟩) HS ?r7z
      case y7z => (intro w hSw; (try dsimp only at hSw); go_simp; first | done | with_reducible rfl)
      (try simp only [Act.put, List.setIfInBounds_toArray, List.set_cons_zero, List.set_cons_succ])
      refine until_take (i := 9) (oi := ({ dst := some 75, op := Op.load 38 (Operand.tmp 3), type := 38, pos := "ref.go:26", after := #[], guard := none } : Oper)) (oz := ({ dst := none, op := Op.store 26 (Operand.tmp 86) (Operand.tmp 84), type := 0, pos := "ref.go:26", after := #[{ on := 20, ground := Ground.data }, { on := 18, ground := Ground.data }, { on := 18, ground := Ground.chain }, { on := 0, ground := Ground.phase }, { on := 1, ground := Ground.phase }, { on := 2, ground := Ground.phase }, { on := 3, ground := Ground.phase }, { on := 4, ground := Ground.phase }, { on := 5, ground := Ground.phase }, { on := 6, ground := Ground.phase }, { on := 7, ground := Ground.phase }, { on := 8, ground := Ground.phase }, { on := 9, ground := Ground.phase }, { on := 10, ground := Ground.phase }, { on := 11, ground := Ground.phase }, { on := 12, ground := Ground.phase }, { on := 13, ground := Ground.phase }, { on := 14, ground := Ground.phase }, { on := 15, ground := Ground.phase }, { on := 16, ground := Ground.phase }, { on := 17, ground := Ground.phase }, { on := 18, ground := Ground.phase }], guard := none } : Oper)) (v := ?v9z) rfl rfl (by kernel_rfl) (by kernel_rfl) (fun _ _ _ h => h) (Region.free_spec rfl (by kernel_rfl)) (of_containsL (by kernel_rfl)) (Or.inl ⟨by rfl, ?y9z⟩) HS ?r9z
      case y9z => (intro w hSw; (try dsimp only at hSw); go_simp; first | done | with_reducible rfl)
      (try simp only [Act.put, List.setIfInBounds_toArray, List.set_cons_zero, List.set_cons_succ])
      refine until_take (i := 12) (oi := ({ dst := some 78, op := Op.move (Operand.tmp 0), type := 64, pos := "ref.go:26", after := #[], guard := none } : Oper)) (oz := ({ dst := none, op := Op.store 26 (Operand.tmp 86) (Operand.tmp 84), type := 0, pos := "ref.go:26", after := #[{ on := 20, ground := Ground.data }, { on := 18, ground := Ground.data }, { on := 18, ground := Ground.chain }, { on := 0, ground := Ground.phase }, { on := 1, ground := Ground.phase }, { on := 2, ground := Ground.phase }, { on := 3, ground := Ground.phase }, { on := 4, ground := Ground.phase }, { on := 5, ground := Ground.phase }, { on := 6, ground := Ground.phase }, { on := 7, ground := Ground.phase }, { on := 8, ground := Ground.phase }, { on := 9, ground := Ground.phase }, { on := 10, ground := Ground.phase }, { on := 11, ground := Ground.phase }, { on := 12, ground := Ground.phase }, { on := 13, ground := Ground.phase }, { on := 14, ground := Ground.phase }, { on := 15, ground := Ground.phase }, { on := 16, ground := Ground.phase }, { on := 17, ground := Ground.phase }, { on := 18, ground := Ground.phase }], guard := none } : Oper)) (v := ?v12z) rfl rfl (by kernel_rfl) (by kernel_rfl) (fun _ _ _ h => h) (Region.free_spec rfl (by kernel_rfl)) (of_containsL (by kernel_rfl)) (Or.inl ⟨by rfl, ?y12z⟩) HS ?r12z
      case y12z => (intro w hSw; (try dsimp only at hSw); go_simp; first | done | with_reducible rfl)
      (try simp only [Act.put, List.setIfInBounds_toArray, List.set_cons_zero, List.set_cons_succ])
      refine until_take (i := 13) (oi := ({ dst := some 79, op := Op.nilCheck (Operand.tmp 78), type := 0, pos := "ref.go:26", after := #[{ on := 12, ground := Ground.data }], guard := none } : Oper)) (oz := ({ dst := none, op := Op.store 26 (Operand.tmp 86) (Operand.tmp 84), type := 0, pos := "ref.go:26", after := #[{ on := 20, ground := Ground.data }, { on := 18, ground := Ground.data }, { on := 18, ground := Ground.chain }, { on := 0, ground := Ground.phase }, { on := 1, ground := Ground.phase }, { on := 2, ground := Ground.phase }, { on := 3, ground := Ground.phase }, { on := 4, ground := Ground.phase }, { on := 5, ground := Ground.phase }, { on := 6, ground := Ground.phase }, { on := 7, ground := Ground.phase }, { on := 8, ground := Ground.phase }, { on := 9, ground := Ground.phase }, { on := 10, ground := Ground.phase }, { on := 11, ground := Ground.phase }, { on := 12, ground := Ground.phase }, { on := 13, ground := Ground.phase }, { on := 14, ground := Ground.phase }, { on := 15, ground := Ground.phase }, { on := 16, ground := Ground.phase }, { on := 17, ground := Ground.phase }, { on := 18, ground := Ground.phase }], guard := none } : Oper)) (v := ?v13z) rfl rfl (by kernel_rfl) (by kernel_rfl) (fun _ _ _ h => h) (Region.free_spec rfl (by kernel_rfl)) (of_containsL (by kernel_rfl)) (Or.inl ⟨by rfl, ?y13z⟩) HS ?r13z
      case y13z => (intro w hSw; (try dsimp only at hSw); go_simp; first | done | with_reducible rfl)
      (try simp only [Act.put, List.setIfInBounds_toArray, List.set_cons_zero, List.set_cons_succ])
      refine until_take (i := 14) (oi := ({ dst := some 80, op := Op.fieldAddr 41 (Operand.tmp 79) 0, type := 0, pos := "ref.go:26", after := #[{ on := 13, ground := Ground.data }], guard := none } : Oper)) (oz := ({ dst := none, op := Op.store 26 (Operand.tmp 86) (Operand.tmp 84), type := 0, pos := "ref.go:26", after := #[{ on := 20, ground := Ground.data }, { on := 18, ground := Ground.data }, { on := 18, ground := Ground.chain }, { on := 0, ground := Ground.phase }, { on := 1, ground := Ground.phase }, { on := 2, ground := Ground.phase }, { on := 3, ground := Ground.phase }, { on := 4, ground := Ground.phase }, { on := 5, ground := Ground.phase }, { on := 6, ground := Ground.phase }, { on := 7, ground := Ground.phase }, { on := 8, ground := Ground.phase }, { on := 9, ground := Ground.phase }, { on := 10, ground := Ground.phase }, { on := 11, ground := Ground.phase }, { on := 12, ground := Ground.phase }, { on := 13, ground := Ground.phase }, { on := 14, ground := Ground.phase }, { on := 15, ground := Ground.phase }, { on := 16, ground := Ground.phase }, { on := 17, ground := Ground.phase }, { on := 18, ground := Ground.phase }], guard := none } : Oper)) (v := ?v14z) rfl rfl (by kernel_rfl) (by kernel_rfl) (fun _ _ _ h => h) (Region.free_spec rfl (by kernel_rfl)) (of_containsL (by kernel_rfl)) (Or.inl ⟨by rfl, ?y14z⟩) HS ?r14z
      case y14z => (intro w hSw; (try dsimp only at hSw); go_simp; first | done | with_reducible rfl)
      (try simp only [Act.put, List.setIfInBounds_toArray, List.set_cons_zero, List.set_cons_succ])
      refine until_take (i := 15) (oi := ({ dst := some 81, op := Op.load 26 (Operand.tmp 80), type := 26, pos := "ref.go:26", after := #[{ on := 14, ground := Ground.data }], guard := none } : Oper)) (oz := ({ dst := none, op := Op.store 26 (Operand.tmp 86) (Operand.tmp 84), type := 0, pos := "ref.go:26", after := #[{ on := 20, ground := Ground.data }, { on := 18, ground := Ground.data }, { on := 18, ground := Ground.chain }, { on := 0, ground := Ground.phase }, { on := 1, ground := Ground.phase }, { on := 2, ground := Ground.phase }, { on := 3, ground := Ground.phase }, { on := 4, ground := Ground.phase }, { on := 5, ground := Ground.phase }, { on := 6, ground := Ground.phase }, { on := 7, ground := Ground.phase }, { on := 8, ground := Ground.phase }, { on := 9, ground := Ground.phase }, { on := 10, ground := Ground.phase }, { on := 11, ground := Ground.phase }, { on := 12, ground := Ground.phase }, { on := 13, ground := Ground.phase }, { on := 14, ground := Ground.phase }, { on := 15, ground := Ground.phase }, { on := 16, ground := Ground.phase }, { on := 17, ground := Ground.phase }, { on := 18, ground := Ground.phase }], guard := none } : Oper)) (v := ?v15z) rfl rfl (by kernel_rfl) (by kernel_rfl) (fun _ _ _ h => h) (Region.free_spec rfl (by kernel_rfl)) (of_containsL (by kernel_rfl)) (Or.inl ⟨by rfl, ?y15z⟩) HS ?r15z
      case y15z => (intro w hSw; (try dsimp only at hSw); go_simp; first | done | with_reducible rfl)
      (try simp only [Act.put, List.setIfInBounds_toArray, List.set_cons_zero, List.set_cons_succ])
      refine until_take (i := 16) (oi := ({ dst := some 82, op := Op.move (Operand.tmp 5), type := 3, pos := "ref.go:26", after := #[], guard := none } : Oper)) (oz := ({ dst := none, op := Op.store 26 (Operand.tmp 86) (Operand.tmp 84), type := 0, pos := "ref.go:26", after := #[{ on := 20, ground := Ground.data }, { on := 18, ground := Ground.data }, { on := 18, ground := Ground.chain }, { on := 0, ground := Ground.phase }, { on := 1, ground := Ground.phase }, { on := 2, ground := Ground.phase }, { on := 3, ground := Ground.phase }, { on := 4, ground := Ground.phase }, { on := 5, ground := Ground.phase }, { on := 6, ground := Ground.phase }, { on := 7, ground := Ground.phase }, { on := 8, ground := Ground.phase }, { on := 9, ground := Ground.phase }, { on := 10, ground := Ground.phase }, { on := 11, ground := Ground.phase }, { on := 12, ground := Ground.phase }, { on := 13, ground := Ground.phase }, { on := 14, ground := Ground.phase }, { on := 15, ground := Ground.phase }, { on := 16, ground := Ground.phase }, { on := 17, ground := Ground.phase }, { on := 18, ground := Ground.phase }], guard := none } : Oper)) (v := ?v16z) rfl rfl (by kernel_rfl) (by kernel_rfl) (fun _ _ _ h => h) (Region.free_spec rfl (by kernel_rfl)) (of_containsL (by kernel_rfl)) (Or.inl ⟨by rfl, ?y16z⟩) HS ?r16z
      case y16z => (intro w hSw; (try dsimp only at hSw); go_simp; first | done | with_reducible rfl)
      (try simp only [Act.put, List.setIfInBounds_toArray, List.set_cons_zero, List.set_cons_succ])
      refine until_take (i := 17) (oi := ({ dst := some 83, op := Op.slice 26 (Operand.tmp 81) (some (Operand.tmp 82)) none none, type := 26, pos := "ref.go:26", after := #[{ on := 15, ground := Ground.data }, { on := 16, ground := Ground.data }], guard := none } : Oper)) (oz := ({ dst := none, op := Op.store 26 (Operand.tmp 86) (Operand.tmp 84), type := 0, pos := "ref.go:26", after := #[{ on := 20, ground := Ground.data }, { on := 18, ground := Ground.data }, { on := 18, ground := Ground.chain }, { on := 0, ground := Ground.phase }, { on := 1, ground := Ground.phase }, { on := 2, ground := Ground.phase }, { on := 3, ground := Ground.phase }, { on := 4, ground := Ground.phase }, { on := 5, ground := Ground.phase }, { on := 6, ground := Ground.phase }, { on := 7, ground := Ground.phase }, { on := 8, ground := Ground.phase }, { on := 9, ground := Ground.phase }, { on := 10, ground := Ground.phase }, { on := 11, ground := Ground.phase }, { on := 12, ground := Ground.phase }, { on := 13, ground := Ground.phase }, { on := 14, ground := Ground.phase }, { on := 15, ground := Ground.phase }, { on := 16, ground := Ground.phase }, { on := 17, ground := Ground.phase }, { on := 18, ground := Ground.phase }], guard := none } : Oper)) (v := ?v17z) rfl rfl (by kernel_rfl) (by kernel_rfl) (fun _ _ _ h => h) (Region.free_spec rfl (by kernel_rfl)) (of_containsL (by kernel_rfl)) (Or.inl ⟨by rfl, ?y17z⟩) HS ?r17z
      case y17z => (intro w hSw; (try dsimp only at hSw); go_simp; first | done | with_reducible rfl)
      (try simp only [Act.put, List.setIfInBounds_toArray, List.set_cons_zero, List.set_cons_succ])
      refine until_two (i := 1) (k := 10) (by kernel_rfl) ?bAz ?bBz
      case bAz =>
        refine comes (o := ({ dst := some 67, op := Op.buildSlice 26 0 #[], type := 26, pos := "ref.go:26", after := #[], guard := none } : Oper)) rfl (fun K hK => ?_)
        go_simp
        refine hK.out _ _ (fun _ => SS.out _ (by first | exact Below.refl _ _ | exact bel_allocJ (Below.refl _ _) (Nat.le_refl _) _ | exact bel_allocJ (bel_allocJ (Below.refl _ _) (Nat.le_refl _) _) (Nat.le_refl _) _)) ?_
        clear hK K
        (try simp only [Act.put, List.setIfInBounds_toArray, List.set_cons_zero, List.set_cons_succ])
        refine until_two (i := 8) (k := 10) (by kernel_rfl) ?bCz ?bDz
        case bCz =>
          refine comes (o := ({ dst := some 74, op := Op.call { callee := Callee.builtin Builtin.append, args := #[Operand.tmp 67, Operand.tmp 73], argTypes := #[26, 26] }, type := 26, pos := "ref.go:26", after := #[{ on := 1, ground := Ground.data }, { on := 7, ground := Ground.data }], guard := none } : Oper)) rfl (fun K hK => ?_)
          refine step_append_jobs (by rfl) _ _ (by rfl) _ 0 [] rfl (by rfl) (own_emptyJ (by first | exact alloc_atJ (by simp) | exact alloc_farJ (alloc_atJ (by simp)))) (fun _ => True) (ao) 0 c (x.take 0) LTK.out (by rfl) (SA.out _ (by first | exact Below.refl _ _ | exact bel_allocJ (Below.refl _ _) (Nat.le_refl _) _ | exact bel_allocJ (bel_allocJ (Below.refl _ _) (Nat.le_refl _) _) (Nat.le_refl _) _)) H0A.out (by omega) ?_
          intro va wa hown hgrow hat
          have QF := apJF (H := Wd.heap.size) (w0 := Wd) (by first | exact alloc_atJ (by simp) | exact alloc_farJ (alloc_atJ (by simp))) (by first | (dsimp only; omega) | (simp; done)) (by first | exact Below.refl _ _ | exact bel_allocJ (Below.refl _ _) (Nat.le_refl _) _ | exact bel_allocJ (bel_allocJ (Below.refl _ _) (Nat.le_refl _) _) (Nat.le_refl _) _) (Nat.le_refl _) hown hgrow hat
          clear hown hgrow hat
          refine hK.out _ _ (fun _ => SS.out _ QF.below) ?_
          clear hK K
          (try simp only [Act.put, List.setIfInBounds_toArray, List.set_cons_zero, List.set_cons_succ])
          refine until_one (i := 10) (by kernel_rfl) ?_
          refine comes (o := ({ dst := some 76, op := Op.buildSlice 26 1 #[(0, Operand.tmp 75)], type := 26, pos := "ref.go:26", after := #[{ on := 9, ground := Ground.data }], guard := none } : Oper)) rfl (fun K hK => ?_)
          go_simp
          refine hK.out _ _ (fun _ => SS.out _ (bel_allocJ QF.below (Nat.le_refl _) _)) ?_
          clear hK K
          (try simp only [Act.put, List.setIfInBounds_toArray, List.set_cons_zero, List.set_cons_succ])
          refine until_one (i := 11) (by kernel_rfl) ?_
          refine comes (o := ({ dst := some 77, op := Op.call { callee := Callee.builtin Builtin.append, args := #[Operand.tmp 74, Operand.tmp 76], argTypes := #[26, 26] }, type := 26, pos := "ref.go:26", after := #[{ on := 8, ground := Ground.data }, { on := 10, ground := Ground.data }, { on := 8, ground := Ground.chain }], guard := none } : Oper)) rfl (fun K hK => ?_)
          refine step_append_jobs (by rfl) _ _ (by rfl) va 0 (x.take 0) LTK.out (by rfl) (QF.own.alloc _) (fun _ => True) (some ⟨wa.heap.size, 0, none⟩) 1 1 [(⟨b0, b1, b2, b3, b4, b5, b6⟩ : Jb)] rfl (by rfl) ((js_block (l := [(⟨b0, b1, b2, b3, b4, b5, b6⟩ : Jb)]) (alloc_atJ rfl) (c := 1) (by simp)).mono (fun _ _ => trivial)) (fun h => by cases h) (by omega) ?_
          intro vb wb hown hgrow hat
          have QG := apJG QF (bel_allocJ QF.below (Nat.le_refl _) _) (Nat.le_refl _) hown hgrow hat
          clear hown hgrow hat
          refine hK.out _ _ (fun _ => SS.out _ QG.below) ?_
          clear hK K
          (try simp only [Act.put, List.setIfInBounds_toArray, List.set_cons_zero, List.set_cons_succ])
          refine until_one (i := 18) (by kernel_rfl) ?_
          refine comes (o := ({ dst := some 84, op := Op.call { callee := Callee.builtin Builtin.append, args := #[Operand.tmp 77, Operand.tmp 83], argTypes := #[26, 26] }, type := 26, pos := "ref.go:26", after := #[{ on := 11, ground := Ground.data }, { on := 17, ground := Ground.data }, { on := 11, ground := Ground.chain }], guard := none } : Oper)) rfl (fun K hK => ?_)
          refine step_append_jobs (by rfl) _ _ (by rfl) vb (0 + 1) (x.take 0 ++ [(⟨b0, b1, b2, b3, b4, b5, b6⟩ : Jb)]) LN1.out (by rfl) QG.own (fun _ => True) (ao) L c (x.drop 0) LDR.out (by rfl) (SB.out _ QG.below) H0B.out (by omega) ?_
          intro vc wc hown hgrow hat
          obtain ⟨g1, g2⟩ := grownJ hgrow hat QG.below (Nat.le_refl _) QG.ge
          obtain ⟨oa, oc, e, _⟩ := ownsRow_form hown
          subst e
          obtain ⟨⟨l1, l2⟩, LF⟩ := FN.out wc oa oc hown g1 g2
          have LFH := Hid.intro LF
          have g1H := Hid.intro g1
          clear hown hgrow hat g2 LF QG
          refine hK.out _ _ (fun _ => SS.out _ g1) ?_
          clear hK K g1
          (try simp only [Act.put, List.setIfInBounds_toArray, List.set_cons_zero, List.set_cons_succ])
          refine until_one (i := 19) (by kernel_rfl) ?_
          refine comes (o := ({ dst := some 85, op := Op.nilCheck (Operand.tmp 66), type := 0, pos := "ref.go:26", after := #[{ on := 0, ground := Ground.data }, { on := 0, ground := Ground.phase }, { on := 1, ground := Ground.phase }, { on := 2, ground := Ground.phase }, { on := 3, ground := Ground.phase }, { on := 4, ground := Ground.phase }, { on := 5, ground := Ground.phase }, { on := 6, ground := Ground.phase }, { on := 7, ground := Ground.phase }, { on := 8, ground := Ground.phase }, { on := 9, ground := Ground.phase }, { on := 10, ground := Ground.phase }, { on := 11, ground := Ground.phase }, { on := 12, ground := Ground.phase }, { on := 13, ground := Ground.phase }, { on := 14, ground := Ground.phase }, { on := 15, ground := Ground.phase }, { on := 16, ground := Ground.phase }, { on := 17, ground := Ground.phase }, { on := 18, ground := Ground.phase }], guard := none } : Oper)) rfl (fun K hK => ?_)
          go_simp
          refine hK.out _ _ (fun _ => SS.out _ g1H.out) ?_
          clear hK K
          (try simp only [Act.put, List.setIfInBounds_toArray, List.set_cons_zero, List.set_cons_succ])
          refine until_one (i := 20) (by kernel_rfl) ?_
          refine comes (o := ({ dst := some 86, op := Op.fieldAddr 41 (Operand.tmp 85) 0, type := 0, pos := "ref.go:26", after := #[{ on := 19, ground := Ground.data }, { on := 0, ground := Ground.phase }, { on := 1, ground := Ground.phase }, { on := 2, ground := Ground.phase }, { on := 3, ground := Ground.phase }, { on := 4, ground := Ground.phase }, { on := 5, ground := Ground.phase }, { on := 6, ground := Ground.phase }, { on := 7, ground := Ground.phase }, { on := 8, ground := Ground.phase }, { on := 9, ground := Ground.phase }, { on := 10, ground := Ground.phase }, { on := 11, ground := Ground.phase }, { on := 12, ground := Ground.phase }, { on := 13, ground := Ground.phase }, { on := 14, ground := Ground.phase }, { on := 15, ground := Ground.phase }, { on := 16, ground := Ground.phase }, { on := 17, ground := Ground.phase }, { on := 18, ground := Ground.phase }], guard := none } : Oper)) rfl (fun K hK => ?_)
          go_simp
          refine hK.out _ _ (fun _ => SS.out _ g1H.out) ?_
          clear hK K
          (try simp only [Act.put, List.setIfInBounds_toArray, List.set_cons_zero, List.set_cons_succ])
          refine until_one (i := 21) (by kernel_rfl) ?_
          refine comes (o := ({ dst := none, op := Op.store 26 (Operand.tmp 86) (Operand.tmp 84), type := 0, pos := "ref.go:26", after := #[{ on := 20, ground := Ground.data }, { on := 18, ground := Ground.data }, { on := 18, ground := Ground.chain }, { on := 0, ground := Ground.phase }, { on := 1, ground := Ground.phase }, { on := 2, ground := Ground.phase }, { on := 3, ground := Ground.phase }, { on := 4, ground := Ground.phase }, { on := 5, ground := Ground.phase }, { on := 6, ground := Ground.phase }, { on := 7, ground := Ground.phase }, { on := 8, ground := Ground.phase }, { on := 9, ground := Ground.phase }, { on := 10, ground := Ground.phase }, { on := 11, ground := Ground.phase }, { on := 12, ground := Ground.phase }, { on := 13, ground := Ground.phase }, { on := 14, ground := Ground.phase }, { on := 15, ground := Ground.phase }, { on := 16, ground := Ground.phase }, { on := 17, ground := Ground.phase }, { on := 18, ground := Ground.phase }], guard := none } : Oper)) rfl (fun K hK => ?_)
          go_simp
          refine hK.out _ _ (fun q => absurd rfl q) ?_
          clear hK K
          (try simp only [Act.put, List.setIfInBounds_toArray, List.set_cons_zero, List.set_cons_succ])
          refine until_done (by kernel_rfl) ?_ _
          go_wp2
          all_goals
            go_ret
            exact ⟨rfl, LFH.out⟩
        case bDz =>
          refine comes (o := ({ dst := some 76, op := Op.buildSlice 26 1 #[(0, Operand.tmp 75)], type := 26, pos := "ref.go:26", after := #[{ on := 9, ground := Ground.data }], guard := none } : Oper)) rfl (fun K hK => ?_)
          go_simp
          refine hK.out _ _ (fun _ => SS.out _ (by first | exact Below.refl _ _ | exact bel_allocJ (Below.refl _ _) (Nat.le_refl _) _ | exact bel_allocJ (bel_allocJ (Below.refl _ _) (Nat.le_refl _) _) (Nat.le_refl _) _)) ?_
          clear hK K
          (try simp only [Act.put, List.setIfInBounds_toArray, List.set_cons_zero, List.set_cons_succ])
          refine until_one (i := 8) (by kernel_rfl) ?_
          refine comes (o := ({ dst := some 74, op := Op.call { callee := Callee.builtin Builtin.append, args := #[Operand.tmp 67, Operand.tmp 73], argTypes := #[26, 26] }, type := 26, pos := "ref.go:26", after := #[{ on := 1, ground := Ground.data }, { on := 7, ground := Ground.data }], guard := none } : Oper)) rfl (fun K hK => ?_)
          refine step_append_jobs (by rfl) _ _ (by rfl) _ 0 [] rfl (by rfl) (own_emptyJ (by first | exact alloc_atJ (by simp) | exact alloc_farJ (alloc_atJ (by simp)))) (fun _ => True) (ao) 0 c (x.take 0) LTK.out (by rfl) (SA.out _ (by first | exact Below.refl _ _ | exact bel_allocJ (Below.refl _ _) (Nat.le_refl _) _ | exact bel_allocJ (bel_allocJ (Below.refl _ _) (Nat.le_refl _) _) (Nat.le_refl _) _)) H0A.out (by omega) ?_
          intro va wa hown hgrow hat
          have QF := apJF (H := Wd.heap.size) (w0 := Wd) (by first | exact alloc_atJ (by simp) | exact alloc_farJ (alloc_atJ (by simp))) (by first | (dsimp only; omega) | (simp; done)) (by first | exact Below.refl _ _ | exact bel_allocJ (Below.refl _ _) (Nat.le_refl _) _ | exact bel_allocJ (bel_allocJ (Below.refl _ _) (Nat.le_refl _) _) (Nat.le_refl _) _) (Nat.le_refl _) hown hgrow hat
          clear hown hgrow hat
          refine hK.out _ _ (fun _ => SS.out _ QF.below) ?_
          clear hK K
          (try simp only [Act.put, List.setIfInBounds_toArray, List.set_cons_zero, List.set_cons_succ])
          refine until_one (i := 11) (by kernel_rfl) ?_
          refine comes (o := ({ dst := some 77, op := Op.call { callee := Callee.builtin Builtin.append, args := #[Operand.tmp 74, Operand.tmp 76], argTypes := #[26, 26] }, type := 26, pos := "ref.go:26", after := #[{ on := 8, ground := Ground.data }, { on := 10, ground := Ground.data }, { on := 8, ground := Ground.chain }], guard := none } : Oper)) rfl (fun K hK => ?_)
          refine step_append_jobs (by rfl) _ _ (by rfl) va 0 (x.take 0) LTK.out (by rfl) QF.own (fun _ => True) (some ⟨Wd.heap.size + 1, 0, none⟩) 1 1 [(⟨b0, b1, b2, b3, b4, b5, b6⟩ : Jb)] rfl (by rfl) ((js_block (l := [(⟨b0, b1, b2, b3, b4, b5, b6⟩ : Jb)]) (QF.keep _ _ (by first | exact alloc_atJ (by simp) | exact alloc_farJ (alloc_atJ (by simp))) (by simp [jcells, jcell])) (c := 1) (by simp)).mono (fun _ _ => trivial)) (fun h => by cases h) (by omega) ?_
          intro vb wb hown hgrow hat
          have QG := apJG QF QF.below (Nat.le_refl _) hown hgrow hat
          clear hown hgrow hat
          refine hK.out _ _ (fun _ => SS.out _ QG.below) ?_
          clear hK K
          (try simp only [Act.put, List.setIfInBounds_toArray, List.set_cons_zero, List.set_cons_succ])
          refine until_one (i := 18) (by kernel_rfl) ?_
          refine comes (o := ({ dst := some 84, op := Op.call { callee := Callee.builtin Builtin.append, args := #[Operand.tmp 77, Operand.tmp 83], argTypes := #[26, 26] }, type := 26, pos := "ref.go:26", after := #[{ on := 11, ground := Ground.data }, { on := 17, ground := Ground.data }, { on := 11, ground := Ground.chain }], guard := none } : Oper)) rfl (fun K hK => ?_)
          refine step_append_jobs (by rfl) _ _ (by rfl) vb (0 + 1) (x.take 0 ++ [(⟨b0, b1, b2, b3, b4, b5, b6⟩ : Jb)]) LN1.out (by rfl) QG.own (fun _ => True) (ao) L c (x.drop 0) LDR.out (by rfl) (SB.out _ QG.below) H0B.out (by omega) ?_
          intro vc wc hown hgrow hat
          obtain ⟨g1, g2⟩ := grownJ hgrow hat QG.below (Nat.le_refl _) QG.ge
          obtain ⟨oa, oc, e, _⟩ := ownsRow_form hown
          subst e
          obtain ⟨⟨l1, l2⟩, LF⟩ := FN.out wc oa oc hown g1 g2
          have LFH := Hid.intro LF
          have g1H := Hid.intro g1
          clear hown hgrow hat g2 LF QG
          refine hK.out _ _ (fun _ => SS.out _ g1) ?_
          clear hK K g1
          (try simp only [Act.put, List.setIfInBounds_toArray, List.set_cons_zero, List.set_cons_succ])
          refine until_one (i := 19) (by kernel_rfl) ?_
          refine comes (o := ({ dst := some 85, op := Op.nilCheck (Operand.tmp 66), type := 0, pos := "ref.go:26", after := #[{ on := 0, ground := Ground.data }, { on := 0, ground := Ground.phase }, { on := 1, ground := Ground.phase }, { on := 2, ground := Ground.phase }, { on := 3, ground := Ground.phase }, { on := 4, ground := Ground.phase }, { on := 5, ground := Ground.phase }, { on := 6, ground := Ground.phase }, { on := 7, ground := Ground.phase }, { on := 8, ground := Ground.phase }, { on := 9, ground := Ground.phase }, { on := 10, ground := Ground.phase }, { on := 11, ground := Ground.phase }, { on := 12, ground := Ground.phase }, { on := 13, ground := Ground.phase }, { on := 14, ground := Ground.phase }, { on := 15, ground := Ground.phase }, { on := 16, ground := Ground.phase }, { on := 17, ground := Ground.phase }, { on := 18, ground := Ground.phase }], guard := none } : Oper)) rfl (fun K hK => ?_)
          go_simp
          refine hK.out _ _ (fun _ => SS.out _ g1H.out) ?_
          clear hK K
          (try simp only [Act.put, List.setIfInBounds_toArray, List.set_cons_zero, List.set_cons_succ])
          refine until_one (i := 20) (by kernel_rfl) ?_
          refine comes (o := ({ dst := some 86, op := Op.fieldAddr 41 (Operand.tmp 85) 0, type := 0, pos := "ref.go:26", after := #[{ on := 19, ground := Ground.data }, { on := 0, ground := Ground.phase }, { on := 1, ground := Ground.phase }, { on := 2, ground := Ground.phase }, { on := 3, ground := Ground.phase }, { on := 4, ground := Ground.phase }, { on := 5, ground := Ground.phase }, { on := 6, ground := Ground.phase }, { on := 7, ground := Ground.phase }, { on := 8, ground := Ground.phase }, { on := 9, ground := Ground.phase }, { on := 10, ground := Ground.phase }, { on := 11, ground := Ground.phase }, { on := 12, ground := Ground.phase }, { on := 13, ground := Ground.phase }, { on := 14, ground := Ground.phase }, { on := 15, ground := Ground.phase }, { on := 16, ground := Ground.phase }, { on := 17, ground := Ground.phase }, { on := 18, ground := Ground.phase }], guard := none } : Oper)) rfl (fun K hK => ?_)
          go_simp
          refine hK.out _ _ (fun _ => SS.out _ g1H.out) ?_
          clear hK K
          (try simp only [Act.put, List.setIfInBounds_toArray, List.set_cons_zero, List.set_cons_succ])
          refine until_one (i := 21) (by kernel_rfl) ?_
          refine comes (o := ({ dst := none, op := Op.store 26 (Operand.tmp 86) (Operand.tmp 84), type := 0, pos := "ref.go:26", after := #[{ on := 20, ground := Ground.data }, { on := 18, ground := Ground.data }, { on := 18, ground := Ground.chain }, { on := 0, ground := Ground.phase }, { on := 1, ground := Ground.phase }, { on := 2, ground := Ground.phase }, { on := 3, ground := Ground.phase }, { on := 4, ground := Ground.phase }, { on := 5, ground := Ground.phase }, { on := 6, ground := Ground.phase }, { on := 7, ground := Ground.phase }, { on := 8, ground := Ground.phase }, { on := 9, ground := Ground.phase }, { on := 10, ground := Ground.phase }, { on := 11, ground := Ground.phase }, { on := 12, ground := Ground.phase }, { on := 13, ground := Ground.phase }, { on := 14, ground := Ground.phase }, { on := 15, ground := Ground.phase }, { on := 16, ground := Ground.phase }, { on := 17, ground := Ground.phase }, { on := 18, ground := Ground.phase }], guard := none } : Oper)) rfl (fun K hK => ?_)
          go_simp
          refine hK.out _ _ (fun q => absurd rfl q) ?_
          clear hK K
          (try simp only [Act.put, List.setIfInBounds_toArray, List.set_cons_zero, List.set_cons_succ])
          refine until_done (by kernel_rfl) ?_ _
          go_wp2
          all_goals
            go_ret
            exact ⟨rfl, LFH.out⟩
      case bBz =>
        refine comes (o := ({ dst := some 76, op := Op.buildSlice 26 1 #[(0, Operand.tmp 75)], type := 26, pos := "ref.go:26", after := #[{ on := 9, ground := Ground.data }], guard := none } : Oper)) rfl (fun K hK => ?_)
        go_simp
        refine hK.out _ _ (fun _ => SS.out _ (by first | exact Below.refl _ _ | exact bel_allocJ (Below.refl _ _) (Nat.le_refl _) _ | exact bel_allocJ (bel_allocJ (Below.refl _ _) (Nat.le_refl _) _) (Nat.le_refl _) _)) ?_
        clear hK K
        (try simp only [Act.put, List.setIfInBounds_toArray, List.set_cons_zero, List.set_cons_succ])
        refine until_one (i := 1) (by kernel_rfl) ?_
        refine comes (o := ({ dst := some 67, op := Op.buildSlice 26 0 #[], type := 26, pos := "ref.go:26", after := #[], guard := none } : Oper)) rfl (fun K hK => ?_)
        go_simp
        refine hK.out _ _ (fun _ => SS.out _ (by first | exact Below.refl _ _ | exact bel_allocJ (Below.refl _ _) (Nat.le_refl _) _ | exact bel_allocJ (bel_allocJ (Below.refl _ _) (Nat.le_refl _) _) (Nat.le_refl _) _)) ?_
        clear hK K
        (try simp only [Act.put, List.setIfInBounds_toArray, List.set_cons_zero, List.set_cons_succ])
        refine until_one (i := 8) (by kernel_rfl) ?_
        refine comes (o := ({ dst := some 74, op := Op.call { callee := Callee.builtin Builtin.append, args := #[Operand.tmp 67, Operand.tmp 73], argTypes := #[26, 26] }, type := 26, pos := "ref.go:26", after := #[{ on := 1, ground := Ground.data }, { on := 7, ground := Ground.data }], guard := none } : Oper)) rfl (fun K hK => ?_)
        refine step_append_jobs (by rfl) _ _ (by rfl) _ 0 [] rfl (by rfl) (own_emptyJ (by first | exact alloc_atJ (by simp) | exact alloc_farJ (alloc_atJ (by simp)))) (fun _ => True) (ao) 0 c (x.take 0) LTK.out (by rfl) (SA.out _ (by first | exact Below.refl _ _ | exact bel_allocJ (Below.refl _ _) (Nat.le_refl _) _ | exact bel_allocJ (bel_allocJ (Below.refl _ _) (Nat.le_refl _) _) (Nat.le_refl _) _)) H0A.out (by omega) ?_
        intro va wa hown hgrow hat
        have QF := apJF (H := Wd.heap.size) (w0 := Wd) (by first | exact alloc_atJ (by simp) | exact alloc_farJ (alloc_atJ (by simp))) (by first | (dsimp only; omega) | (simp; done)) (by first | exact Below.refl _ _ | exact bel_allocJ (Below.refl _ _) (Nat.le_refl _) _ | exact bel_allocJ (bel_allocJ (Below.refl _ _) (Nat.le_refl _) _) (Nat.le_refl _) _) (Nat.le_refl _) hown hgrow hat
        clear hown hgrow hat
        refine hK.out _ _ (fun _ => SS.out _ QF.below) ?_
        clear hK K
        (try simp only [Act.put, List.setIfInBounds_toArray, List.set_cons_zero, List.set_cons_succ])
        refine until_one (i := 11) (by kernel_rfl) ?_
        refine comes (o := ({ dst := some 77, op := Op.call { callee := Callee.builtin Builtin.append, args := #[Operand.tmp 74, Operand.tmp 76], argTypes := #[26, 26] }, type := 26, pos := "ref.go:26", after := #[{ on := 8, ground := Ground.data }, { on := 10, ground := Ground.data }, { on := 8, ground := Ground.chain }], guard := none } : Oper)) rfl (fun K hK => ?_)
        refine step_append_jobs (by rfl) _ _ (by rfl) va 0 (x.take 0) LTK.out (by rfl) QF.own (fun _ => True) (some ⟨Wd.heap.size, 0, none⟩) 1 1 [(⟨b0, b1, b2, b3, b4, b5, b6⟩ : Jb)] rfl (by rfl) ((js_block (l := [(⟨b0, b1, b2, b3, b4, b5, b6⟩ : Jb)]) (QF.keep _ _ (by first | exact alloc_atJ (by simp) | exact alloc_farJ (alloc_atJ (by simp))) (by simp [jcells, jcell])) (c := 1) (by simp)).mono (fun _ _ => trivial)) (fun h => by cases h) (by omega) ?_
        intro vb wb hown hgrow hat
        have QG := apJG QF QF.below (Nat.le_refl _) hown hgrow hat
        clear hown hgrow hat
        refine hK.out _ _ (fun _ => SS.out _ QG.below) ?_
        clear hK K
        (try simp only [Act.put, List.setIfInBounds_toArray, List.set_cons_zero, List.set_cons_succ])
        refine until_one (i := 18) (by kernel_rfl) ?_
        refine comes (o := ({ dst := some 84, op := Op.call { callee := Callee.builtin Builtin.append, args := #[Operand.tmp 77, Operand.tmp 83], argTypes := #[26, 26] }, type := 26, pos := "ref.go:26", after := #[{ on := 11, ground := Ground.data }, { on := 17, ground := Ground.data }, { on := 11, ground := Ground.chain }], guard := none } : Oper)) rfl (fun K hK => ?_)
        refine step_append_jobs (by rfl) _ _ (by rfl) vb (0 + 1) (x.take 0 ++ [(⟨b0, b1, b2, b3, b4, b5, b6⟩ : Jb)]) LN1.out (by rfl) QG.own (fun _ => True) (ao) L c (x.drop 0) LDR.out (by rfl) (SB.out _ QG.below) H0B.out (by omega) ?_
        intro vc wc hown hgrow hat
        obtain ⟨g1, g2⟩ := grownJ hgrow hat QG.below (Nat.le_refl _) QG.ge
        obtain ⟨oa, oc, e, _⟩ := ownsRow_form hown
        subst e
        obtain ⟨⟨l1, l2⟩, LF⟩ := FN.out wc oa oc hown g1 g2
        have LFH := Hid.intro LF
        have g1H := Hid.intro g1
        clear hown hgrow hat g2 LF QG
        refine hK.out _ _ (fun _ => SS.out _ g1) ?_
        clear hK K g1
        (try simp only [Act.put, List.setIfInBounds_toArray, List.set_cons_zero, List.set_cons_succ])
        refine until_one (i := 19) (by kernel_rfl) ?_
        refine comes (o := ({ dst := some 85, op := Op.nilCheck (Operand.tmp 66), type := 0, pos := "ref.go:26", after := #[{ on := 0, ground := Ground.data }, { on := 0, ground := Ground.phase }, { on := 1, ground := Ground.phase }, { on := 2, ground := Ground.phase }, { on := 3, ground := Ground.phase }, { on := 4, ground := Ground.phase }, { on := 5, ground := Ground.phase }, { on := 6, ground := Ground.phase }, { on := 7, ground := Ground.phase }, { on := 8, ground := Ground.phase }, { on := 9, ground := Ground.phase }, { on := 10, ground := Ground.phase }, { on := 11, ground := Ground.phase }, { on := 12, ground := Ground.phase }, { on := 13, ground := Ground.phase }, { on := 14, ground := Ground.phase }, { on := 15, ground := Ground.phase }, { on := 16, ground := Ground.phase }, { on := 17, ground := Ground.phase }, { on := 18, ground := Ground.phase }], guard := none } : Oper)) rfl (fun K hK => ?_)
        go_simp
        refine hK.out _ _ (fun _ => SS.out _ g1H.out) ?_
        clear hK K
        (try simp only [Act.put, List.setIfInBounds_toArray, List.set_cons_zero, List.set_cons_succ])
        refine until_one (i := 20) (by kernel_rfl) ?_
        refine comes (o := ({ dst := some 86, op := Op.fieldAddr 41 (Operand.tmp 85) 0, type := 0, pos := "ref.go:26", after := #[{ on := 19, ground := Ground.data }, { on := 0, ground := Ground.phase }, { on := 1, ground := Ground.phase }, { on := 2, ground := Ground.phase }, { on := 3, ground := Ground.phase }, { on := 4, ground := Ground.phase }, { on := 5, ground := Ground.phase }, { on := 6, ground := Ground.phase }, { on := 7, ground := Ground.phase }, { on := 8, ground := Ground.phase }, { on := 9, ground := Ground.phase }, { on := 10, ground := Ground.phase }, { on := 11, ground := Ground.phase }, { on := 12, ground := Ground.phase }, { on := 13, ground := Ground.phase }, { on := 14, ground := Ground.phase }, { on := 15, ground := Ground.phase }, { on := 16, ground := Ground.phase }, { on := 17, ground := Ground.phase }, { on := 18, ground := Ground.phase }], guard := none } : Oper)) rfl (fun K hK => ?_)
        go_simp
        refine hK.out _ _ (fun _ => SS.out _ g1H.out) ?_
        clear hK K
        (try simp only [Act.put, List.setIfInBounds_toArray, List.set_cons_zero, List.set_cons_succ])
        refine until_one (i := 21) (by kernel_rfl) ?_
        refine comes (o := ({ dst := none, op := Op.store 26 (Operand.tmp 86) (Operand.tmp 84), type := 0, pos := "ref.go:26", after := #[{ on := 20, ground := Ground.data }, { on := 18, ground := Ground.data }, { on := 18, ground := Ground.chain }, { on := 0, ground := Ground.phase }, { on := 1, ground := Ground.phase }, { on := 2, ground := Ground.phase }, { on := 3, ground := Ground.phase }, { on := 4, ground := Ground.phase }, { on := 5, ground := Ground.phase }, { on := 6, ground := Ground.phase }, { on := 7, ground := Ground.phase }, { on := 8, ground := Ground.phase }, { on := 9, ground := Ground.phase }, { on := 10, ground := Ground.phase }, { on := 11, ground := Ground.phase }, { on := 12, ground := Ground.phase }, { on := 13, ground := Ground.phase }, { on := 14, ground := Ground.phase }, { on := 15, ground := Ground.phase }, { on := 16, ground := Ground.phase }, { on := 17, ground := Ground.phase }, { on := 18, ground := Ground.phase }], guard := none } : Oper)) rfl (fun K hK => ?_)
        go_simp
        refine hK.out _ _ (fun q => absurd rfl q) ?_
        clear hK K
        (try simp only [Act.put, List.setIfInBounds_toArray, List.set_cons_zero, List.set_cons_succ])
        refine until_done (by kernel_rfl) ?_ _
        go_wp2
        all_goals
          go_ret
          exact ⟨rfl, LFH.out⟩
    · obtain ⟨s, hs⟩ : ∃ s, p = s + 1 := ⟨p - 1, by omega⟩
      have hsx : s < x.length := by have := HL.out; omega
      obtain ⟨pb, off, ea, hj⟩ := KJ.out wr BR.out (by omega)
      subst ea
      obtain ⟨d0, d1, d2, d3, d4, d5, d6⟩ := hj s hsx
      have AD := Hid.intro (ahJ_dec ⟨b0, b1, b2, b3, b4, b5, b6⟩ x[s])
      have NXT : Hid (ahJ ⟨b0, b1, b2, b3, b4, b5, b6⟩ x[s] = true → ∀ t, s ≤ t → (ht : t < x.length) → ahJ ⟨b0, b1, b2, b3, b4, b5, b6⟩ x[t] = true) := fun e t h1 h2 => by
        by_cases q : t = s
        · subst q; exact e
        · exact AH.out t (by omega) h2
      generalize hxd : x[s].dl = dl at *
      generalize hxb : x[s].bed = bd at *
      have wr1 : IntKind.i64.wrap ((p : Int) - 1) = (s : Int) := by rw [IntKind.wrap_i64]; omega
      have wr2 : (p : Int) - 1 = (s : Int) := by omega
      have s0 : (0 : Int) ≤ (s : Int) := by omega
      have s1 : (s : Int) < (L : Int) := by omega
      have tp2 : 0 < p := by omega
      clear hj d1 d2 d3 d4 d6 hp0
      by_cases c1 : b5 < dl
      · have NX := Hid.intro (NXT.out (by rw [AD.out]; simp [c1]))
        clear AD NXT hxd hxb hs hsx
        go_wp2_with fail
        have c1' : b5 < dl := c1
        go_big_quiet (fail)
        go_wp2
        go_roundw
        case rel => exact ⟨s, q + nq, by omega, by go_num, NX.out, by rw [HWR.out]; simp [World.drewN, Nat.add_assoc]⟩
        case measure => simp [intOf]; omega
      · by_cases c2 : b5 = dl
        · by_cases c3 : b0 < bd
          · have NX := Hid.intro (NXT.out (by rw [AD.out]; simp [c2, c3]))
            have c2b : (b5 == dl) = true := by rw [beq_iff_eq]; exact c2
            clear AD NXT hxd hxb hs hsx c2
            go_wp2_with fail
            have c1' : ¬ b5 < dl := by omega
            go_big_quiet (fail)
            go_wp2
            go_roundw
            case rel => exact ⟨s, q + nq, by omega, by go_num, NX.out, by rw [HWR.out]; simp [World.drewN, Nat.add_assoc]⟩
            case measure => simp [intOf]; omega
          · have NAH0 : ahJ (⟨b0, b1, b2, b3, b4, b5, b6⟩ : Jb) x[s] = false := by rw [AD.out]; simp [c2, c3]
            have c2b : (b5 == dl) = true := by rw [beq_iff_eq]; exact c2
            clear c2
            have NAH : Hid (ahJ (⟨b0, b1, b2, b3, b4, b5, b6⟩ : Jb) x[s] = false) := NAH0
            have HSP := Hid.intro hs
            have p1 : (p : Int) ≤ (c : Int) := by omega
            have p2 : (0 : Int) ≤ (p : Int) := by omega
            have p3 : (p : Int) ≤ (L : Int) := by omega
            have p4 : (L : Int) ≤ (c : Int) := by omega
            clear AD NXT hxd hxb hs NAH0
            go_wp2_with fail
            have c1' : ¬ b5 < dl := by omega
            have c3' : ¬ b0 < bd := by omega
            go_big_quiet (fail)
            go_wp2_with fail
            have BD : Hid (Below A.heap.size A (wr.drewN nq).drew) := ⟨BR.out.os, BR.out.tape, BR.out.output, BR.out.size, BR.out.block⟩
            have HS : ((fun W => W.cell? ⟨rb, 0, none⟩ = some (.slice (some ⟨pb, off, none⟩) L c) ∧ (W.cell? ⟨w.heap.size, 0, none⟩ = some (.int .i64 b0) ∧ W.cell? ⟨w.heap.size, 1, none⟩ = some (.int .i64 b1) ∧ W.cell? ⟨w.heap.size, 2, none⟩ = some (.int .i64 b2) ∧ W.cell? ⟨w.heap.size, 3, none⟩ = some (.int .i64 b3) ∧ W.cell? ⟨w.heap.size, 4, none⟩ = some (.int .i64 b4) ∧ W.cell? ⟨w.heap.size, 5, none⟩ = some (.int .i64 b5) ∧ W.cell? ⟨w.heap.size, 6, none⟩ = some (.int .i64 b6))) : World → Prop) (wr.drewN nq).drew := ⟨KQ.out _ BD.out, KB.out _ BD.out⟩
            refine until_start (S := (fun W => W.cell? ⟨rb, 0, none⟩ = some (.slice (some ⟨pb, off, none⟩) L c) ∧ (W.cell? ⟨w.heap.size, 0, none⟩ = some (.int .i64 b0) ∧ W.cell? ⟨w.heap.size, 1, none⟩ = some (.int .i64 b1) ∧ W.cell? ⟨w.heap.size, 2, none⟩ = some (.int .i64 b2) ∧ W.cell? ⟨w.heap.size, 3, none⟩ = some (.int .i64 b3) ∧ W.cell? ⟨w.heap.size, 4, none⟩ = some (.int .i64 b4) ∧ W.cell? ⟨w.heap.size, 5, none⟩ = some (.int .i64 b5) ∧ W.cell? ⟨w.heap.size, 6, none⟩ = some (.int .i64 b6)))) (z := 21) (by kernel_rfl) ?_
            generalize (wr.drewN nq).drew = Wd at *
            have BWD := Hid.intro (BAH.out.trans (BD.out.mono BAH.out.size))
            have SS : Hid (∀ X, Below Wd.heap.size Wd X → ((fun W => W.cell? ⟨rb, 0, none⟩ = some (.slice (some ⟨pb, off, none⟩) L c) ∧ (W.cell? ⟨w.heap.size, 0, none⟩ = some (.int .i64 b0) ∧ W.cell? ⟨w.heap.size, 1, none⟩ = some (.int .i64 b1) ∧ W.cell? ⟨w.heap.size, 2, none⟩ = some (.int .i64 b2) ∧ W.cell? ⟨w.heap.size, 3, none⟩ = some (.int .i64 b3) ∧ W.cell? ⟨w.heap.size, 4, none⟩ = some (.int .i64 b4) ∧ W.cell? ⟨w.heap.size, 5, none⟩ = some (.int .i64 b5) ∧ W.cell? ⟨w.heap.size, 6, none⟩ = some (.int .i64 b6))) : World → Prop) X) := fun X hX => ⟨KQ.out _ (BD.out.trans (hX.mono BD.out.size)), KB.out _ (BD.out.trans (hX.mono BD.out.size))⟩
            have JW : Hid (JsAt (fun _ => True) Wd (.slice (some ⟨pb, off, none⟩) L c) x) := by
              have q := (RH.out.js.mono (R' := fun _ => True) (fun _ _ => trivial)).below BWD.out
              rw [← HL.out] at q
              exact q
            have LTK : Hid (p = (x.take p).length) := by rw [Hid, List.length_take]; have := HL.out; omega
            have LDR : Hid ((L - p) = (x.drop p).length) := by rw [Hid, List.length_drop]; have := HL.out; omega
            have LN1 : Hid (p + 1 = (x.take p ++ [(⟨b0, b1, b2, b3, b4, b5, b6⟩ : Jb)]).length) := by rw [Hid, List.length_append, ← LTK.out]; rfl
            have SA : Hid (∀ X, Below Wd.heap.size Wd X → JsAt (fun _ => True) X (.slice (some ⟨pb, off, none⟩) p c) (x.take p)) := fun X hX => by have q := js_takeJ JW.out (k := p) (by have := HL.out; omega); exact q.below hX
            have SB : Hid (∀ X, Below Wd.heap.size Wd X → JsAt (fun _ => True) X (.slice (if c = p then some ⟨pb, off, none⟩ else some ⟨pb, off + p * 7, none⟩) (L - p) (c - p)) (x.drop p)) := fun X hX => (js_dropJ JW.out (k := p) (by have := HL.out; omega) (by have := HL.out; omega) (by omega)).below hX
            have H0A : Hid (((some ⟨pb, off, none⟩) : Option Addr) = none → c = 0) := hroom.2
            have H0B : Hid (((if c = p then some ⟨pb, off, none⟩ else some ⟨pb, off + p * 7, none⟩) : Option Addr) = none → (c - p) = 0) := fun q => by first | (have := hroom.2 q; omega) | (exfalso; revert q; split <;> intro q <;> cases q)
            have EQT : Hid (T = x.take p ++ [(⟨b0, b1, b2, b3, b4, b5, b6⟩ : Jb)] ++ x.drop p) := by rw [Hid, HT.out]; exact ins_at SR.out (⟨b0, b1, b2, b3, b4, b5, b6⟩ : Jb) (by have := HL.out; omega) AH.out (fun s2 hs2 _ => by have e := HSP.out; obtain rfl : s2 = s := (by omega); exact NAH.out)
            have FN : Hid (∀ (wc : World) (oa : Option Addr) (oc : Nat), wc.ownsRow 0 38 7 (.slice oa (p + 1 + (L - p)) oc) (p + 1 + (L - p)) (jcells (x.take p ++ [(⟨b0, b1, b2, b3, b4, b5, b6⟩ : Jb)] ++ x.drop p)) → Below Wd.heap.size Wd wc → (∀ k, (Value.slice oa (p + 1 + (L - p)) oc).ownBlock = some k → Wd.heap.size ≤ k) → (wc.cell? ⟨rb, 0, none⟩ = some (.slice (some ⟨pb, off, none⟩) L c) ∧ wc.frozen? ⟨rb, 0, none⟩ = false) ∧ LeftR S w (wc.setCell ⟨rb, 0, none⟩ (.slice oa (p + 1 + (L - p)) oc)) rb T) := fun wc oa oc hown hB hge => by
              have BW := BWD.out.trans (hB.mono BWD.out.size)
              have hs := BWD.out.size
              have mk : Mk w.heap.size wc (.slice oa (p + 1 + (L - p)) oc) (p + 1 + (L - p)) T := by
                rw [EQT.out]
                exact ⟨by rw [List.length_append, ← LDR.out, ← LN1.out], hown, fun k hk => Nat.le_trans hs (hge k hk)⟩
              obtain ⟨q1, q2, q3⟩ := RH.out.laid BW mk OKT.out
              rw [← HL.out] at q1
              exact ⟨q1, _, ⟨_, q2⟩, q3, fun k hk => by
                rcases hk with e | e
                · subst e; exact .inl RH.out.inB
                · exact .inr (Nat.le_trans hs (hge k e))⟩
            have few2 : p + 1 + (L - p) ≤ 1000 := by omega
            clear KQ KB KJ HP BR HWR AH e0 e1 e2 e3 e4 e5 e6 cr
            refine until_take (i := 0) (oi := ({ dst := some 66, op := Op.move (Operand.tmp 0), type := 64, pos := "ref.go:26", after := #[], guard := none } : Oper)) (oz := ({ dst := none, op := Op.store 26 (Operand.tmp 86) (Operand.tmp 84), type := 0, pos := "ref.go:26", after := #[{ on := 20, ground := Ground.data }, { on := 18, ground := Ground.data }, { on := 18, ground := Ground.chain }, { on := 0, ground := Ground.phase }, { on := 1, ground := Ground.phase }, { on := 2, ground := Ground.phase }, { on := 3, ground := Ground.phase }, { on := 4, ground := Ground.phase }, { on := 5, ground := Ground.phase }, { on := 6, ground := Ground.phase }, { on := 7, ground := Ground.phase }, { on := 8, ground := Ground.phase }, { on := 9, ground := Ground.phase }, { on := 10, ground := Ground.phase }, { on := 11, ground := Ground.phase }, { on := 12, ground := Ground.phase }, { on := 13, ground := Ground.phase }, { on := 14, ground := Ground.phase }, { on := 15, ground := Ground.phase }, { on := 16, ground := Ground.phase }, { on := 17, ground := Ground.phase }, { on := 18, ground := Ground.phase }], guard := none } : Oper)) (v := ?v0a) rfl rfl (by kernel_rfl) (by kernel_rfl) (fun _ _ _ h => h) (Region.free_spec rfl (by kernel_rfl)) (of_containsL (by kernel_rfl)) (Or.inl ⟨by rfl, ?y0a⟩) HS ?r0a
            case y0a => (intro w hSw; (try dsimp only at hSw); go_simp; first | done | with_reducible rfl)
            (try simp only [Act.put, List.setIfInBounds_toArray, List.set_cons_zero, List.set_cons_succ])
            refine until_take (i := 2) (oi := ({ dst := some 68, op := Op.move (Operand.tmp 0), type := 64, pos := "ref.go:26", after := #[], guard := none } : Oper)) (oz := ({ dst := none, op := Op.store 26 (Operand.tmp 86) (Operand.tmp 84), type := 0, pos := "ref.go:26", after := #[{ on := 20, ground := Ground.data }, { on := 18, ground := Ground.data }, { on := 18, ground := Ground.chain }, { on := 0, ground := Ground.phase }, { on := 1, ground := Ground.phase }, { on := 2, ground := Ground.phase }, { on := 3, ground := Ground.phase }, { on := 4, ground := Ground.phase }, { on := 5, ground := Ground.phase }, { on := 6, ground := Ground.phase }, { on := 7, ground := Ground.phase }, { on := 8, ground := Ground.phase }, { on := 9, ground := Ground.phase }, { on := 10, ground := Ground.phase }, { on := 11, ground := Ground.phase }, { on := 12, ground := Ground.phase }, { on := 13, ground := Ground.phase }, { on := 14, ground := Ground.phase }, { on := 15, ground := Ground.phase }, { on := 16, ground := Ground.phase }, { on := 17, ground := Ground.phase }, { on := 18, ground := Ground.phase }], guard := none } : Oper)) (v := ?v2a) rfl rfl (by kernel_rfl) (by kernel_rfl) (fun _ _ _ h => h) (Region.free_spec rfl (by kernel_rfl)) (of_containsL (by kernel_rfl)) (Or.inl ⟨by rfl, ?y2a⟩) HS ?r2a
            case y2a => (intro w hSw; (try dsimp only at hSw); go_simp; first | done | with_reducible rfl)
            (try simp only [Act.put, List.setIfInBounds_toArray, List.set_cons_zero, List.set_cons_succ])
            refine until_take (i := 3) (oi := ({ dst := some 69, op := Op.nilCheck (Operand.tmp 68), type := 0, pos := "ref.go:26", after := #[{ on := 2, ground := Ground.data }], guard := none } : Oper)) (oz := ({ dst := none, op := Op.store 26 (Operand.tmp 86) (Operand.tmp 84), type := 0, pos := "ref.go:26", after := #[{ on := 20, ground := Ground.data }, { on := 18, ground := Ground.data }, { on := 18, ground := Ground.chain }, { on := 0, ground := Ground.phase }, { on := 1, ground := Ground.phase }, { on := 2, ground := Ground.phase }, { on := 3, ground := Ground.phase }, { on := 4, ground := Ground.phase }, { on := 5, ground := Ground.phase }, { on := 6, ground := Ground.phase }, { on := 7, ground := Ground.phase }, { on := 8, ground := Ground.phase }, { on := 9, ground := Ground.phase }, { on := 10, ground := Ground.phase }, { on := 11, ground := Ground.phase }, { on := 12, ground := Ground.phase }, { on := 13, ground := Ground.phase }, { on := 14, ground := Ground.phase }, { on := 15, ground := Ground.phase }, { on := 16, ground := Ground.phase }, { on := 17, ground := Ground.phase }, { on := 18, ground := Ground.phase }], guard := none } : Oper)) (v := ?v3a) rfl rfl (by kernel_rfl) (by kernel_rfl) (fun _ _ _ h => h) (Region.free_spec rfl (by kernel_rfl)) (of_containsL (by kernel_rfl)) (Or.inl ⟨by rfl, ?y3a⟩) HS ?r3a
            case y3a => (intro w hSw; (try dsimp only at hSw); go_simp; first | done | with_reducible rfl)
            (try simp only [Act.put, List.setIfInBounds_toArray, List.set_cons_zero, List.set_cons_succ])
            refine until_take (i := 4) (oi := ({ dst := some 70, op := Op.fieldAddr 41 (Operand.tmp 69) 0, type := 0, pos := "ref.go:26", after := #[{ on := 3, ground := Ground.data }], guard := none } : Oper)) (oz := ({ dst := none, op := Op.store 26 (Operand.tmp 86) (Operand.tmp 84), type := 0, pos := "ref.go:26", after := #[{ on := 20, ground := Ground.data }, { on := 18, ground := Ground.data }, { on := 18, ground := Ground.chain }, { on := 0, ground := Ground.phase }, { on := 1, ground := Ground.phase }, { on := 2, ground := Ground.phase }, { on := 3, ground := Ground.phase }, { on := 4, ground := Ground.phase }, { on := 5, ground := Ground.phase }, { on := 6, ground := Ground.phase }, { on := 7, ground := Ground.phase }, { on := 8, ground := Ground.phase }, { on := 9, ground := Ground.phase }, { on := 10, ground := Ground.phase }, { on := 11, ground := Ground.phase }, { on := 12, ground := Ground.phase }, { on := 13, ground := Ground.phase }, { on := 14, ground := Ground.phase }, { on := 15, ground := Ground.phase }, { on := 16, ground := Ground.phase }, { on := 17, ground := Ground.phase }, { on := 18, ground := Ground.phase }], guard := none } : Oper)) (v := ?v4a) rfl rfl (by kernel_rfl) (by kernel_rfl) (fun _ _ _ h => h) (Region.free_spec rfl (by kernel_rfl)) (of_containsL (by kernel_rfl)) (Or.inl ⟨by rfl, ?y4a⟩) HS ?r4a
            case y4a => (intro w hSw; (try dsimp only at hSw); go_simp; first | done | with_reducible rfl)
            (try simp only [Act.put, List.setIfInBounds_toArray, List.set_cons_zero, List.set_cons_succ])
            refine until_take (i := 5) (oi := ({ dst := some 71, op := Op.load 26 (Operand.tmp 70), type := 26, pos := "ref.go:26", after := #[{ on := 4, ground := Ground.data }], guard := none } : Oper)) (oz := ({ dst := none, op := Op.store 26 (Operand.tmp 86) (Operand.tmp 84), type := 0, pos := "ref.go:26", after := #[{ on := 20, ground := Ground.data }, { on := 18, ground := Ground.data }, { on := 18, ground := Ground.chain }, { on := 0, ground := Ground.phase }, { on := 1, ground := Ground.phase }, { on := 2, ground := Ground.phase }, { on := 3, ground := Ground.phase }, { on := 4, ground := Ground.phase }, { on := 5, ground := Ground.phase }, { on := 6, ground := Ground.phase }, { on := 7, ground := Ground.phase }, { on := 8, ground := Ground.phase }, { on := 9, ground := Ground.phase }, { on := 10, ground := Ground.phase }, { on := 11, ground := Ground.phase }, { on := 12, ground := Ground.phase }, { on := 13, ground := Ground.phase }, { on := 14, ground := Ground.phase }, { on := 15, ground := Ground.phase }, { on := 16, ground := Ground.phase }, { on := 17, ground := Ground.phase }, { on := 18, ground := Ground.phase }], guard := none } : Oper)) (v := ?v5a) rfl rfl (by kernel_rfl) (by kernel_rfl) (fun _ _ _ h => h) (Region.free_spec rfl (by kernel_rfl)) (of_containsL (by kernel_rfl)) (Or.inl ⟨by rfl, ?y5a⟩) HS ?r5a
            case y5a => (intro w hSw; (try dsimp only at hSw); go_simp; first | done | with_reducible rfl)
            (try simp only [Act.put, List.setIfInBounds_toArray, List.set_cons_zero, List.set_cons_succ])
            refine until_take (i := 6) (oi := ({ dst := some 72, op := Op.move (Operand.tmp 5), type := 3, pos := "ref.go:26", after := #[], guard := none } : Oper)) (oz := ({ dst := none, op := Op.store 26 (Operand.tmp 86) (Operand.tmp 84), type := 0, pos := "ref.go:26", after := #[{ on := 20, ground := Ground.data }, { on := 18, ground := Ground.data }, { on := 18, ground := Ground.chain }, { on := 0, ground := Ground.phase }, { on := 1, ground := Ground.phase }, { on := 2, ground := Ground.phase }, { on := 3, ground := Ground.phase }, { on := 4, ground := Ground.phase }, { on := 5, ground := Ground.phase }, { on := 6, ground := Ground.phase }, { on := 7, ground := Ground.phase }, { on := 8, ground := Ground.phase }, { on := 9, ground := Ground.phase }, { on := 10, ground := Ground.phase }, { on := 11, ground := Ground.phase }, { on := 12, ground := Ground.phase }, { on := 13, ground := Ground.phase }, { on := 14, ground := Ground.phase }, { on := 15, ground := Ground.phase }, { on := 16, ground := Ground.phase }, { on := 17, ground := Ground.phase }, { on := 18, ground := Ground.phase }], guard := none } : Oper)) (v := ?v6a) rfl rfl (by kernel_rfl) (by kernel_rfl) (fun _ _ _ h => h) (Region.free_spec rfl (by kernel_rfl)) (of_containsL (by kernel_rfl)) (Or.inl ⟨by rfl, ?y6a⟩) HS ?r6a
            case y6a => (intro w hSw; (try dsimp only at hSw); go_simp; first | done | with_reducible rfl)
            (try simp only [Act.put, List.setIfInBounds_toArray, List.set_cons_zero, List.set_cons_succ])
            refine until_take (i := 7) (oi := ({ dst := some 73, op := Op.slice 26 (Operand.tmp 71) none (some (Operand.tmp 72)) none, type := 26, pos := "ref.go:26", after := #[{ on := 5, ground := Ground.data }, { on := 6, ground := Ground.data }], guard := none } : Oper)) (oz := ({ dst := none, op := Op.store 26 (Operand.tmp 86) (Operand.tmp 84), type := 0, pos := "ref.go:26", after := #[{ on := 20, ground := Ground.data }, { on := 18, ground := Ground.data }, { on := 18, ground := Ground.chain }, { on := 0, ground := Ground.phase }, { on := 1, ground := Ground.phase }, { on := 2, ground := Ground.phase }, { on := 3, ground := Ground.phase }, { on := 4, ground := Ground.phase }, { on := 5, ground := Ground.phase }, { on := 6, ground := Ground.phase }, { on := 7, ground := Ground.phase }, { on := 8, ground := Ground.phase }, { on := 9, ground := Ground.phase }, { on := 10, ground := Ground.phase }, { on := 11, ground := Ground.phase }, { on := 12, ground := Ground.phase }, { on := 13, ground := Ground.phase }, { on := 14, ground := Ground.phase }, { on := 15, ground := Ground.phase }, { on := 16, ground := Ground.phase }, { on := 17, ground := Ground.phase }, { on := 18, ground := Ground.phase }], guard := none } : Oper)) (v := ?v7a) rfl rfl (by kernel_rfl) (by kernel_rfl) (fun _ _ _ h => h) (Region.free_spec rfl (by kernel_rfl)) (of_containsL (by kernel_rfl)) (Or.inl ⟨by rfl, ?y7a⟩) HS ?r7a
            case y7a => (intro w hSw; (try dsimp only at hSw); go_simp; first | done | with_reducible rfl)
            (try simp only [Act.put, List.setIfInBounds_toArray, List.set_cons_zero, List.set_cons_succ])
            refine until_take (i := 9) (oi := ({ dst := some 75, op := Op.load 38 (Operand.tmp 3), type := 38, pos := "ref.go:26", after := #[], guard := none } : Oper)) (oz := ({ dst := none, op := Op.store 26 (Operand.tmp 86) (Operand.tmp 84), type := 0, pos := "ref.go:26", after := #[{ on := 20, ground := Ground.data }, { on := 18, ground := Ground.data }, { on := 18, ground := Ground.chain }, { on := 0, ground := Ground.phase }, { on := 1, ground := Ground.phase }, { on := 2, ground := Ground.phase }, { on := 3, ground := Ground.phase }, { on := 4, ground := Ground.phase }, { on := 5, ground := Ground.phase }, { on := 6, ground := Ground.phase }, { on := 7, ground := Ground.phase }, { on := 8, ground := Ground.phase }, { on := 9, ground := Ground.phase }, { on := 10, ground := Ground.phase }, { on := 11, ground := Ground.phase }, { on := 12, ground := Ground.phase }, { on := 13, ground := Ground.phase }, { on := 14, ground := Ground.phase }, { on := 15, ground := Ground.phase }, { on := 16, ground := Ground.phase }, { on := 17, ground := Ground.phase }, { on := 18, ground := Ground.phase }], guard := none } : Oper)) (v := ?v9a) rfl rfl (by kernel_rfl) (by kernel_rfl) (fun _ _ _ h => h) (Region.free_spec rfl (by kernel_rfl)) (of_containsL (by kernel_rfl)) (Or.inl ⟨by rfl, ?y9a⟩) HS ?r9a
            case y9a => (intro w hSw; (try dsimp only at hSw); go_simp; first | done | with_reducible rfl)
            (try simp only [Act.put, List.setIfInBounds_toArray, List.set_cons_zero, List.set_cons_succ])
            refine until_take (i := 12) (oi := ({ dst := some 78, op := Op.move (Operand.tmp 0), type := 64, pos := "ref.go:26", after := #[], guard := none } : Oper)) (oz := ({ dst := none, op := Op.store 26 (Operand.tmp 86) (Operand.tmp 84), type := 0, pos := "ref.go:26", after := #[{ on := 20, ground := Ground.data }, { on := 18, ground := Ground.data }, { on := 18, ground := Ground.chain }, { on := 0, ground := Ground.phase }, { on := 1, ground := Ground.phase }, { on := 2, ground := Ground.phase }, { on := 3, ground := Ground.phase }, { on := 4, ground := Ground.phase }, { on := 5, ground := Ground.phase }, { on := 6, ground := Ground.phase }, { on := 7, ground := Ground.phase }, { on := 8, ground := Ground.phase }, { on := 9, ground := Ground.phase }, { on := 10, ground := Ground.phase }, { on := 11, ground := Ground.phase }, { on := 12, ground := Ground.phase }, { on := 13, ground := Ground.phase }, { on := 14, ground := Ground.phase }, { on := 15, ground := Ground.phase }, { on := 16, ground := Ground.phase }, { on := 17, ground := Ground.phase }, { on := 18, ground := Ground.phase }], guard := none } : Oper)) (v := ?v12a) rfl rfl (by kernel_rfl) (by kernel_rfl) (fun _ _ _ h => h) (Region.free_spec rfl (by kernel_rfl)) (of_containsL (by kernel_rfl)) (Or.inl ⟨by rfl, ?y12a⟩) HS ?r12a
            case y12a => (intro w hSw; (try dsimp only at hSw); go_simp; first | done | with_reducible rfl)
            (try simp only [Act.put, List.setIfInBounds_toArray, List.set_cons_zero, List.set_cons_succ])
            refine until_take (i := 13) (oi := ({ dst := some 79, op := Op.nilCheck (Operand.tmp 78), type := 0, pos := "ref.go:26", after := #[{ on := 12, ground := Ground.data }], guard := none } : Oper)) (oz := ({ dst := none, op := Op.store 26 (Operand.tmp 86) (Operand.tmp 84), type := 0, pos := "ref.go:26", after := #[{ on := 20, ground := Ground.data }, { on := 18, ground := Ground.data }, { on := 18, ground := Ground.chain }, { on := 0, ground := Ground.phase }, { on := 1, ground := Ground.phase }, { on := 2, ground := Ground.phase }, { on := 3, ground := Ground.phase }, { on := 4, ground := Ground.phase }, { on := 5, ground := Ground.phase }, { on := 6, ground := Ground.phase }, { on := 7, ground := Ground.phase }, { on := 8, ground := Ground.phase }, { on := 9, ground := Ground.phase }, { on := 10, ground := Ground.phase }, { on := 11, ground := Ground.phase }, { on := 12, ground := Ground.phase }, { on := 13, ground := Ground.phase }, { on := 14, ground := Ground.phase }, { on := 15, ground := Ground.phase }, { on := 16, ground := Ground.phase }, { on := 17, ground := Ground.phase }, { on := 18, ground := Ground.phase }], guard := none } : Oper)) (v := ?v13a) rfl rfl (by kernel_rfl) (by kernel_rfl) (fun _ _ _ h => h) (Region.free_spec rfl (by kernel_rfl)) (of_containsL (by kernel_rfl)) (Or.inl ⟨by rfl, ?y13a⟩) HS ?r13a
            case y13a => (intro w hSw; (try dsimp only at hSw); go_simp; first | done | with_reducible rfl)
            (try simp only [Act.put, List.setIfInBounds_toArray, List.set_cons_zero, List.set_cons_succ])
            refine until_take (i := 14) (oi := ({ dst := some 80, op := Op.fieldAddr 41 (Operand.tmp 79) 0, type := 0, pos := "ref.go:26", after := #[{ on := 13, ground := Ground.data }], guard := none } : Oper)) (oz := ({ dst := none, op := Op.store 26 (Operand.tmp 86) (Operand.tmp 84), type := 0, pos := "ref.go:26", after := #[{ on := 20, ground := Ground.data }, { on := 18, ground := Ground.data }, { on := 18, ground := Ground.chain }, { on := 0, ground := Ground.phase }, { on := 1, ground := Ground.phase }, { on := 2, ground := Ground.phase }, { on := 3, ground := Ground.phase }, { on := 4, ground := Ground.phase }, { on := 5, ground := Ground.phase }, { on := 6, ground := Ground.phase }, { on := 7, ground := Ground.phase }, { on := 8, ground := Ground.phase }, { on := 9, ground := Ground.phase }, { on := 10, ground := Ground.phase }, { on := 11, ground := Ground.phase }, { on := 12, ground := Ground.phase }, { on := 13, ground := Ground.phase }, { on := 14, ground := Ground.phase }, { on := 15, ground := Ground.phase }, { on := 16, ground := Ground.phase }, { on := 17, ground := Ground.phase }, { on := 18, ground := Ground.phase }], guard := none } : Oper)) (v := ?v14a) rfl rfl (by kernel_rfl) (by kernel_rfl) (fun _ _ _ h => h) (Region.free_spec rfl (by kernel_rfl)) (of_containsL (by kernel_rfl)) (Or.inl ⟨by rfl, ?y14a⟩) HS ?r14a
            case y14a => (intro w hSw; (try dsimp only at hSw); go_simp; first | done | with_reducible rfl)
            (try simp only [Act.put, List.setIfInBounds_toArray, List.set_cons_zero, List.set_cons_succ])
            refine until_take (i := 15) (oi := ({ dst := some 81, op := Op.load 26 (Operand.tmp 80), type := 26, pos := "ref.go:26", after := #[{ on := 14, ground := Ground.data }], guard := none } : Oper)) (oz := ({ dst := none, op := Op.store 26 (Operand.tmp 86) (Operand.tmp 84), type := 0, pos := "ref.go:26", after := #[{ on := 20, ground := Ground.data }, { on := 18, ground := Ground.data }, { on := 18, ground := Ground.chain }, { on := 0, ground := Ground.phase }, { on := 1, ground := Ground.phase }, { on := 2, ground := Ground.phase }, { on := 3, ground := Ground.phase }, { on := 4, ground := Ground.phase }, { on := 5, ground := Ground.phase }, { on := 6, ground := Ground.phase }, { on := 7, ground := Ground.phase }, { on := 8, ground := Ground.phase }, { on := 9, ground := Ground.phase }, { on := 10, ground := Ground.phase }, { on := 11, ground := Ground.phase }, { on := 12, ground := Ground.phase }, { on := 13, ground := Ground.phase }, { on := 14, ground := Ground.phase }, { on := 15, ground := Ground.phase }, { on := 16, ground := Ground.phase }, { on := 17, ground := Ground.phase }, { on := 18, ground := Ground.phase }], guard := none } : Oper)) (v := ?v15a) rfl rfl (by kernel_rfl) (by kernel_rfl) (fun _ _ _ h => h) (Region.free_spec rfl (by kernel_rfl)) (of_containsL (by kernel_rfl)) (Or.inl ⟨by rfl, ?y15a⟩) HS ?r15a
            case y15a => (intro w hSw; (try dsimp only at hSw); go_simp; first | done | with_reducible rfl)
            (try simp only [Act.put, List.setIfInBounds_toArray, List.set_cons_zero, List.set_cons_succ])
            refine until_take (i := 16) (oi := ({ dst := some 82, op := Op.move (Operand.tmp 5), type := 3, pos := "ref.go:26", after := #[], guard := none } : Oper)) (oz := ({ dst := none, op := Op.store 26 (Operand.tmp 86) (Operand.tmp 84), type := 0, pos := "ref.go:26", after := #[{ on := 20, ground := Ground.data }, { on := 18, ground := Ground.data }, { on := 18, ground := Ground.chain }, { on := 0, ground := Ground.phase }, { on := 1, ground := Ground.phase }, { on := 2, ground := Ground.phase }, { on := 3, ground := Ground.phase }, { on := 4, ground := Ground.phase }, { on := 5, ground := Ground.phase }, { on := 6, ground := Ground.phase }, { on := 7, ground := Ground.phase }, { on := 8, ground := Ground.phase }, { on := 9, ground := Ground.phase }, { on := 10, ground := Ground.phase }, { on := 11, ground := Ground.phase }, { on := 12, ground := Ground.phase }, { on := 13, ground := Ground.phase }, { on := 14, ground := Ground.phase }, { on := 15, ground := Ground.phase }, { on := 16, ground := Ground.phase }, { on := 17, ground := Ground.phase }, { on := 18, ground := Ground.phase }], guard := none } : Oper)) (v := ?v16a) rfl rfl (by kernel_rfl) (by kernel_rfl) (fun _ _ _ h => h) (Region.free_spec rfl (by kernel_rfl)) (of_containsL (by kernel_rfl)) (Or.inl ⟨by rfl, ?y16a⟩) HS ?r16a
            case y16a => (intro w hSw; (try dsimp only at hSw); go_simp; first | done | with_reducible rfl)
            (try simp only [Act.put, List.setIfInBounds_toArray, List.set_cons_zero, List.set_cons_succ])
            refine until_take (i := 17) (oi := ({ dst := some 83, op := Op.slice 26 (Operand.tmp 81) (some (Operand.tmp 82)) none none, type := 26, pos := "ref.go:26", after := #[{ on := 15, ground := Ground.data }, { on := 16, ground := Ground.data }], guard := none } : Oper)) (oz := ({ dst := none, op := Op.store 26 (Operand.tmp 86) (Operand.tmp 84), type := 0, pos := "ref.go:26", after := #[{ on := 20, ground := Ground.data }, { on := 18, ground := Ground.data }, { on := 18, ground := Ground.chain }, { on := 0, ground := Ground.phase }, { on := 1, ground := Ground.phase }, { on := 2, ground := Ground.phase }, { on := 3, ground := Ground.phase }, { on := 4, ground := Ground.phase }, { on := 5, ground := Ground.phase }, { on := 6, ground := Ground.phase }, { on := 7, ground := Ground.phase }, { on := 8, ground := Ground.phase }, { on := 9, ground := Ground.phase }, { on := 10, ground := Ground.phase }, { on := 11, ground := Ground.phase }, { on := 12, ground := Ground.phase }, { on := 13, ground := Ground.phase }, { on := 14, ground := Ground.phase }, { on := 15, ground := Ground.phase }, { on := 16, ground := Ground.phase }, { on := 17, ground := Ground.phase }, { on := 18, ground := Ground.phase }], guard := none } : Oper)) (v := ?v17a) rfl rfl (by kernel_rfl) (by kernel_rfl) (fun _ _ _ h => h) (Region.free_spec rfl (by kernel_rfl)) (of_containsL (by kernel_rfl)) (Or.inl ⟨by rfl, ?y17a⟩) HS ?r17a
            case y17a => (intro w hSw; (try dsimp only at hSw); go_simp; first | done | with_reducible rfl)
            (try simp only [Act.put, List.setIfInBounds_toArray, List.set_cons_zero, List.set_cons_succ])
            refine until_two (i := 1) (k := 10) (by kernel_rfl) ?bAa ?bBa
            case bAa =>
              refine comes (o := ({ dst := some 67, op := Op.buildSlice 26 0 #[], type := 26, pos := "ref.go:26", after := #[], guard := none } : Oper)) rfl (fun K hK => ?_)
              go_simp
              refine hK.out _ _ (fun _ => SS.out _ (by first | exact Below.refl _ _ | exact bel_allocJ (Below.refl _ _) (Nat.le_refl _) _ | exact bel_allocJ (bel_allocJ (Below.refl _ _) (Nat.le_refl _) _) (Nat.le_refl _) _)) ?_
              clear hK K
              (try simp only [Act.put, List.setIfInBounds_toArray, List.set_cons_zero, List.set_cons_succ])
              refine until_two (i := 8) (k := 10) (by kernel_rfl) ?bCa ?bDa
              case bCa =>
                refine comes (o := ({ dst := some 74, op := Op.call { callee := Callee.builtin Builtin.append, args := #[Operand.tmp 67, Operand.tmp 73], argTypes := #[26, 26] }, type := 26, pos := "ref.go:26", after := #[{ on := 1, ground := Ground.data }, { on := 7, ground := Ground.data }], guard := none } : Oper)) rfl (fun K hK => ?_)
                refine step_append_jobs (by rfl) _ _ (by rfl) _ 0 [] rfl (by rfl) (own_emptyJ (by first | exact alloc_atJ (by simp) | exact alloc_farJ (alloc_atJ (by simp)))) (fun _ => True) (some ⟨pb, off, none⟩) p c (x.take p) LTK.out (by rfl) (SA.out _ (by first | exact Below.refl _ _ | exact bel_allocJ (Below.refl _ _) (Nat.le_refl _) _ | exact bel_allocJ (bel_allocJ (Below.refl _ _) (Nat.le_refl _) _) (Nat.le_refl _) _)) H0A.out (by omega) ?_
                intro va wa hown hgrow hat
                have QF := apJF (H := Wd.heap.size) (w0 := Wd) (by first | exact alloc_atJ (by simp) | exact alloc_farJ (alloc_atJ (by simp))) (by first | (dsimp only; omega) | (simp; done)) (by first | exact Below.refl _ _ | exact bel_allocJ (Below.refl _ _) (Nat.le_refl _) _ | exact bel_allocJ (bel_allocJ (Below.refl _ _) (Nat.le_refl _) _) (Nat.le_refl _) _) (Nat.le_refl _) hown hgrow hat
                clear hown hgrow hat
                refine hK.out _ _ (fun _ => SS.out _ QF.below) ?_
                clear hK K
                (try simp only [Act.put, List.setIfInBounds_toArray, List.set_cons_zero, List.set_cons_succ])
                refine until_one (i := 10) (by kernel_rfl) ?_
                refine comes (o := ({ dst := some 76, op := Op.buildSlice 26 1 #[(0, Operand.tmp 75)], type := 26, pos := "ref.go:26", after := #[{ on := 9, ground := Ground.data }], guard := none } : Oper)) rfl (fun K hK => ?_)
                go_simp
                refine hK.out _ _ (fun _ => SS.out _ (bel_allocJ QF.below (Nat.le_refl _) _)) ?_
                clear hK K
                (try simp only [Act.put, List.setIfInBounds_toArray, List.set_cons_zero, List.set_cons_succ])
                refine until_one (i := 11) (by kernel_rfl) ?_
                refine comes (o := ({ dst := some 77, op := Op.call { callee := Callee.builtin Builtin.append, args := #[Operand.tmp 74, Operand.tmp 76], argTypes := #[26, 26] }, type := 26, pos := "ref.go:26", after := #[{ on := 8, ground := Ground.data }, { on := 10, ground := Ground.data }, { on := 8, ground := Ground.chain }], guard := none } : Oper)) rfl (fun K hK => ?_)
                refine step_append_jobs (by rfl) _ _ (by rfl) va p (x.take p) LTK.out (by rfl) (QF.own.alloc _) (fun _ => True) (some ⟨wa.heap.size, 0, none⟩) 1 1 [(⟨b0, b1, b2, b3, b4, b5, b6⟩ : Jb)] rfl (by rfl) ((js_block (l := [(⟨b0, b1, b2, b3, b4, b5, b6⟩ : Jb)]) (alloc_atJ rfl) (c := 1) (by simp)).mono (fun _ _ => trivial)) (fun h => by cases h) (by omega) ?_
                intro vb wb hown hgrow hat
                have QG := apJG QF (bel_allocJ QF.below (Nat.le_refl _) _) (Nat.le_refl _) hown hgrow hat
                clear hown hgrow hat
                refine hK.out _ _ (fun _ => SS.out _ QG.below) ?_
                clear hK K
                (try simp only [Act.put, List.setIfInBounds_toArray, List.set_cons_zero, List.set_cons_succ])
                refine until_one (i := 18) (by kernel_rfl) ?_
                refine comes (o := ({ dst := some 84, op := Op.call { callee := Callee.builtin Builtin.append, args := #[Operand.tmp 77, Operand.tmp 83], argTypes := #[26, 26] }, type := 26, pos := "ref.go:26", after := #[{ on := 11, ground := Ground.data }, { on := 17, ground := Ground.data }, { on := 11, ground := Ground.chain }], guard := none } : Oper)) rfl (fun K hK => ?_)
                refine step_append_jobs (by rfl) _ _ (by rfl) vb (p + 1) (x.take p ++ [(⟨b0, b1, b2, b3, b4, b5, b6⟩ : Jb)]) LN1.out (by rfl) QG.own (fun _ => True) (if c = p then some ⟨pb, off, none⟩ else some ⟨pb, off + p * 7, none⟩) (L - p) (c - p) (x.drop p) LDR.out (by rfl) (SB.out _ QG.below) H0B.out (by omega) ?_
                intro vc wc hown hgrow hat
                obtain ⟨g1, g2⟩ := grownJ hgrow hat QG.below (Nat.le_refl _) QG.ge
                obtain ⟨oa, oc, e, _⟩ := ownsRow_form hown
                subst e
                obtain ⟨⟨l1, l2⟩, LF⟩ := FN.out wc oa oc hown g1 g2
                have LFH := Hid.intro LF
                have g1H := Hid.intro g1
                clear hown hgrow hat g2 LF QG
                refine hK.out _ _ (fun _ => SS.out _ g1) ?_
                clear hK K g1
                (try simp only [Act.put, List.setIfInBounds_toArray, List.set_cons_zero, List.set_cons_succ])
                refine until_one (i := 19) (by kernel_rfl) ?_
                refine comes (o := ({ dst := some 85, op := Op.nilCheck (Operand.tmp 66), type := 0, pos := "ref.go:26", after := #[{ on := 0, ground := Ground.data }, { on := 0, ground := Ground.phase }, { on := 1, ground := Ground.phase }, { on := 2, ground := Ground.phase }, { on := 3, ground := Ground.phase }, { on := 4, ground := Ground.phase }, { on := 5, ground := Ground.phase }, { on := 6, ground := Ground.phase }, { on := 7, ground := Ground.phase }, { on := 8, ground := Ground.phase }, { on := 9, ground := Ground.phase }, { on := 10, ground := Ground.phase }, { on := 11, ground := Ground.phase }, { on := 12, ground := Ground.phase }, { on := 13, ground := Ground.phase }, { on := 14, ground := Ground.phase }, { on := 15, ground := Ground.phase }, { on := 16, ground := Ground.phase }, { on := 17, ground := Ground.phase }, { on := 18, ground := Ground.phase }], guard := none } : Oper)) rfl (fun K hK => ?_)
                go_simp
                refine hK.out _ _ (fun _ => SS.out _ g1H.out) ?_
                clear hK K
                (try simp only [Act.put, List.setIfInBounds_toArray, List.set_cons_zero, List.set_cons_succ])
                refine until_one (i := 20) (by kernel_rfl) ?_
                refine comes (o := ({ dst := some 86, op := Op.fieldAddr 41 (Operand.tmp 85) 0, type := 0, pos := "ref.go:26", after := #[{ on := 19, ground := Ground.data }, { on := 0, ground := Ground.phase }, { on := 1, ground := Ground.phase }, { on := 2, ground := Ground.phase }, { on := 3, ground := Ground.phase }, { on := 4, ground := Ground.phase }, { on := 5, ground := Ground.phase }, { on := 6, ground := Ground.phase }, { on := 7, ground := Ground.phase }, { on := 8, ground := Ground.phase }, { on := 9, ground := Ground.phase }, { on := 10, ground := Ground.phase }, { on := 11, ground := Ground.phase }, { on := 12, ground := Ground.phase }, { on := 13, ground := Ground.phase }, { on := 14, ground := Ground.phase }, { on := 15, ground := Ground.phase }, { on := 16, ground := Ground.phase }, { on := 17, ground := Ground.phase }, { on := 18, ground := Ground.phase }], guard := none } : Oper)) rfl (fun K hK => ?_)
                go_simp
                refine hK.out _ _ (fun _ => SS.out _ g1H.out) ?_
                clear hK K
                (try simp only [Act.put, List.setIfInBounds_toArray, List.set_cons_zero, List.set_cons_succ])
                refine until_one (i := 21) (by kernel_rfl) ?_
                refine comes (o := ({ dst := none, op := Op.store 26 (Operand.tmp 86) (Operand.tmp 84), type := 0, pos := "ref.go:26", after := #[{ on := 20, ground := Ground.data }, { on := 18, ground := Ground.data }, { on := 18, ground := Ground.chain }, { on := 0, ground := Ground.phase }, { on := 1, ground := Ground.phase }, { on := 2, ground := Ground.phase }, { on := 3, ground := Ground.phase }, { on := 4, ground := Ground.phase }, { on := 5, ground := Ground.phase }, { on := 6, ground := Ground.phase }, { on := 7, ground := Ground.phase }, { on := 8, ground := Ground.phase }, { on := 9, ground := Ground.phase }, { on := 10, ground := Ground.phase }, { on := 11, ground := Ground.phase }, { on := 12, ground := Ground.phase }, { on := 13, ground := Ground.phase }, { on := 14, ground := Ground.phase }, { on := 15, ground := Ground.phase }, { on := 16, ground := Ground.phase }, { on := 17, ground := Ground.phase }, { on := 18, ground := Ground.phase }], guard := none } : Oper)) rfl (fun K hK => ?_)
                go_simp
                refine hK.out _ _ (fun q => absurd rfl q) ?_
                clear hK K
                (try simp only [Act.put, List.setIfInBounds_toArray, List.set_cons_zero, List.set_cons_succ])
                refine until_done (by kernel_rfl) ?_ _
                go_wp2
                all_goals
                  go_ret
                  exact ⟨rfl, LFH.out⟩
              case bDa =>
                refine comes (o := ({ dst := some 76, op := Op.buildSlice 26 1 #[(0, Operand.tmp 75)], type := 26, pos := "ref.go:26", after := #[{ on := 9, ground := Ground.data }], guard := none } : Oper)) rfl (fun K hK => ?_)
                go_simp
                refine hK.out _ _ (fun _ => SS.out _ (by first | exact Below.refl _ _ | exact bel_allocJ (Below.refl _ _) (Nat.le_refl _) _ | exact bel_allocJ (bel_allocJ (Below.refl _ _) (Nat.le_refl _) _) (Nat.le_refl _) _)) ?_
                clear hK K
                (try simp only [Act.put, List.setIfInBounds_toArray, List.set_cons_zero, List.set_cons_succ])
                refine until_one (i := 8) (by kernel_rfl) ?_
                refine comes (o := ({ dst := some 74, op := Op.call { callee := Callee.builtin Builtin.append, args := #[Operand.tmp 67, Operand.tmp 73], argTypes := #[26, 26] }, type := 26, pos := "ref.go:26", after := #[{ on := 1, ground := Ground.data }, { on := 7, ground := Ground.data }], guard := none } : Oper)) rfl (fun K hK => ?_)
                refine step_append_jobs (by rfl) _ _ (by rfl) _ 0 [] rfl (by rfl) (own_emptyJ (by first | exact alloc_atJ (by simp) | exact alloc_farJ (alloc_atJ (by simp)))) (fun _ => True) (some ⟨pb, off, none⟩) p c (x.take p) LTK.out (by rfl) (SA.out _ (by first | exact Below.refl _ _ | exact bel_allocJ (Below.refl _ _) (Nat.le_refl _) _ | exact bel_allocJ (bel_allocJ (Below.refl _ _) (Nat.le_refl _) _) (Nat.le_refl _) _)) H0A.out (by omega) ?_
                intro va wa hown hgrow hat
                have QF := apJF (H := Wd.heap.size) (w0 := Wd) (by first | exact alloc_atJ (by simp) | exact alloc_farJ (alloc_atJ (by simp))) (by first | (dsimp only; omega) | (simp; done)) (by first | exact Below.refl _ _ | exact bel_allocJ (Below.refl _ _) (Nat.le_refl _) _ | exact bel_allocJ (bel_allocJ (Below.refl _ _) (Nat.le_refl _) _) (Nat.le_refl _) _) (Nat.le_refl _) hown hgrow hat
                clear hown hgrow hat
                refine hK.out _ _ (fun _ => SS.out _ QF.below) ?_
                clear hK K
                (try simp only [Act.put, List.setIfInBounds_toArray, List.set_cons_zero, List.set_cons_succ])
                refine until_one (i := 11) (by kernel_rfl) ?_
                refine comes (o := ({ dst := some 77, op := Op.call { callee := Callee.builtin Builtin.append, args := #[Operand.tmp 74, Operand.tmp 76], argTypes := #[26, 26] }, type := 26, pos := "ref.go:26", after := #[{ on := 8, ground := Ground.data }, { on := 10, ground := Ground.data }, { on := 8, ground := Ground.chain }], guard := none } : Oper)) rfl (fun K hK => ?_)
                refine step_append_jobs (by rfl) _ _ (by rfl) va p (x.take p) LTK.out (by rfl) QF.own (fun _ => True) (some ⟨Wd.heap.size + 1, 0, none⟩) 1 1 [(⟨b0, b1, b2, b3, b4, b5, b6⟩ : Jb)] rfl (by rfl) ((js_block (l := [(⟨b0, b1, b2, b3, b4, b5, b6⟩ : Jb)]) (QF.keep _ _ (by first | exact alloc_atJ (by simp) | exact alloc_farJ (alloc_atJ (by simp))) (by simp [jcells, jcell])) (c := 1) (by simp)).mono (fun _ _ => trivial)) (fun h => by cases h) (by omega) ?_
                intro vb wb hown hgrow hat
                have QG := apJG QF QF.below (Nat.le_refl _) hown hgrow hat
                clear hown hgrow hat
                refine hK.out _ _ (fun _ => SS.out _ QG.below) ?_
                clear hK K
                (try simp only [Act.put, List.setIfInBounds_toArray, List.set_cons_zero, List.set_cons_succ])
                refine until_one (i := 18) (by kernel_rfl) ?_
                refine comes (o := ({ dst := some 84, op := Op.call { callee := Callee.builtin Builtin.append, args := #[Operand.tmp 77, Operand.tmp 83], argTypes := #[26, 26] }, type := 26, pos := "ref.go:26", after := #[{ on := 11, ground := Ground.data }, { on := 17, ground := Ground.data }, { on := 11, ground := Ground.chain }], guard := none } : Oper)) rfl (fun K hK => ?_)
                refine step_append_jobs (by rfl) _ _ (by rfl) vb (p + 1) (x.take p ++ [(⟨b0, b1, b2, b3, b4, b5, b6⟩ : Jb)]) LN1.out (by rfl) QG.own (fun _ => True) (if c = p then some ⟨pb, off, none⟩ else some ⟨pb, off + p * 7, none⟩) (L - p) (c - p) (x.drop p) LDR.out (by rfl) (SB.out _ QG.below) H0B.out (by omega) ?_
                intro vc wc hown hgrow hat
                obtain ⟨g1, g2⟩ := grownJ hgrow hat QG.below (Nat.le_refl _) QG.ge
                obtain ⟨oa, oc, e, _⟩ := ownsRow_form hown
                subst e
                obtain ⟨⟨l1, l2⟩, LF⟩ := FN.out wc oa oc hown g1 g2
                have LFH := Hid.intro LF
                have g1H := Hid.intro g1
                clear hown hgrow hat g2 LF QG
                refine hK.out _ _ (fun _ => SS.out _ g1) ?_
                clear hK K g1
                (try simp only [Act.put, List.setIfInBounds_toArray, List.set_cons_zero, List.set_cons_succ])
                refine until_one (i := 19) (by kernel_rfl) ?_
                refine comes (o := ({ dst := some 85, op := Op.nilCheck (Operand.tmp 66), type := 0, pos := "ref.go:26", after := #[{ on := 0, ground := Ground.data }, { on := 0, ground := Ground.phase }, { on := 1, ground := Ground.phase }, { on := 2, ground := Ground.phase }, { on := 3, ground := Ground.phase }, { on := 4, ground := Ground.phase }, { on := 5, ground := Ground.phase }, { on := 6, ground := Ground.phase }, { on := 7, ground := Ground.phase }, { on := 8, ground := Ground.phase }, { on := 9, ground := Ground.phase }, { on := 10, ground := Ground.phase }, { on := 11, ground := Ground.phase }, { on := 12, ground := Ground.phase }, { on := 13, ground := Ground.phase }, { on := 14, ground := Ground.phase }, { on := 15, ground := Ground.phase }, { on := 16, ground := Ground.phase }, { on := 17, ground := Ground.phase }, { on := 18, ground := Ground.phase }], guard := none } : Oper)) rfl (fun K hK => ?_)
                go_simp
                refine hK.out _ _ (fun _ => SS.out _ g1H.out) ?_
                clear hK K
                (try simp only [Act.put, List.setIfInBounds_toArray, List.set_cons_zero, List.set_cons_succ])
                refine until_one (i := 20) (by kernel_rfl) ?_
                refine comes (o := ({ dst := some 86, op := Op.fieldAddr 41 (Operand.tmp 85) 0, type := 0, pos := "ref.go:26", after := #[{ on := 19, ground := Ground.data }, { on := 0, ground := Ground.phase }, { on := 1, ground := Ground.phase }, { on := 2, ground := Ground.phase }, { on := 3, ground := Ground.phase }, { on := 4, ground := Ground.phase }, { on := 5, ground := Ground.phase }, { on := 6, ground := Ground.phase }, { on := 7, ground := Ground.phase }, { on := 8, ground := Ground.phase }, { on := 9, ground := Ground.phase }, { on := 10, ground := Ground.phase }, { on := 11, ground := Ground.phase }, { on := 12, ground := Ground.phase }, { on := 13, ground := Ground.phase }, { on := 14, ground := Ground.phase }, { on := 15, ground := Ground.phase }, { on := 16, ground := Ground.phase }, { on := 17, ground := Ground.phase }, { on := 18, ground := Ground.phase }], guard := none } : Oper)) rfl (fun K hK => ?_)
                go_simp
                refine hK.out _ _ (fun _ => SS.out _ g1H.out) ?_
                clear hK K
                (try simp only [Act.put, List.setIfInBounds_toArray, List.set_cons_zero, List.set_cons_succ])
                refine until_one (i := 21) (by kernel_rfl) ?_
                refine comes (o := ({ dst := none, op := Op.store 26 (Operand.tmp 86) (Operand.tmp 84), type := 0, pos := "ref.go:26", after := #[{ on := 20, ground := Ground.data }, { on := 18, ground := Ground.data }, { on := 18, ground := Ground.chain }, { on := 0, ground := Ground.phase }, { on := 1, ground := Ground.phase }, { on := 2, ground := Ground.phase }, { on := 3, ground := Ground.phase }, { on := 4, ground := Ground.phase }, { on := 5, ground := Ground.phase }, { on := 6, ground := Ground.phase }, { on := 7, ground := Ground.phase }, { on := 8, ground := Ground.phase }, { on := 9, ground := Ground.phase }, { on := 10, ground := Ground.phase }, { on := 11, ground := Ground.phase }, { on := 12, ground := Ground.phase }, { on := 13, ground := Ground.phase }, { on := 14, ground := Ground.phase }, { on := 15, ground := Ground.phase }, { on := 16, ground := Ground.phase }, { on := 17, ground := Ground.phase }, { on := 18, ground := Ground.phase }], guard := none } : Oper)) rfl (fun K hK => ?_)
                go_simp
                refine hK.out _ _ (fun q => absurd rfl q) ?_
                clear hK K
                (try simp only [Act.put, List.setIfInBounds_toArray, List.set_cons_zero, List.set_cons_succ])
                refine until_done (by kernel_rfl) ?_ _
                go_wp2
                all_goals
                  go_ret
                  exact ⟨rfl, LFH.out⟩
            case bBa =>
              refine comes (o := ({ dst := some 76, op := Op.buildSlice 26 1 #[(0, Operand.tmp 75)], type := 26, pos := "ref.go:26", after := #[{ on := 9, ground := Ground.data }], guard := none } : Oper)) rfl (fun K hK => ?_)
              go_simp
              refine hK.out _ _ (fun _ => SS.out _ (by first | exact Below.refl _ _ | exact bel_allocJ (Below.refl _ _) (Nat.le_refl _) _ | exact bel_allocJ (bel_allocJ (Below.refl _ _) (Nat.le_refl _) _) (Nat.le_refl _) _)) ?_
              clear hK K
              (try simp only [Act.put, List.setIfInBounds_toArray, List.set_cons_zero, List.set_cons_succ])
              refine until_one (i := 1) (by kernel_rfl) ?_
              refine comes (o := ({ dst := some 67, op := Op.buildSlice 26 0 #[], type := 26, pos := "ref.go:26", after := #[], guard := none } : Oper)) rfl (fun K hK => ?_)
              go_simp
              refine hK.out _ _ (fun _ => SS.out _ (by first | exact Below.refl _ _ | exact bel_allocJ (Below.refl _ _) (Nat.le_refl _) _ | exact bel_allocJ (bel_allocJ (Below.refl _ _) (Nat.le_refl _) _) (Nat.le_refl _) _)) ?_
              clear hK K
              (try simp only [Act.put, List.setIfInBounds_toArray, List.set_cons_zero, List.set_cons_succ])
              refine until_one (i := 8) (by kernel_rfl) ?_
              refine comes (o := ({ dst := some 74, op := Op.call { callee := Callee.builtin Builtin.append, args := #[Operand.tmp 67, Operand.tmp 73], argTypes := #[26, 26] }, type := 26, pos := "ref.go:26", after := #[{ on := 1, ground := Ground.data }, { on := 7, ground := Ground.data }], guard := none } : Oper)) rfl (fun K hK => ?_)
              refine step_append_jobs (by rfl) _ _ (by rfl) _ 0 [] rfl (by rfl) (own_emptyJ (by first | exact alloc_atJ (by simp) | exact alloc_farJ (alloc_atJ (by simp)))) (fun _ => True) (some ⟨pb, off, none⟩) p c (x.take p) LTK.out (by rfl) (SA.out _ (by first | exact Below.refl _ _ | exact bel_allocJ (Below.refl _ _) (Nat.le_refl _) _ | exact bel_allocJ (bel_allocJ (Below.refl _ _) (Nat.le_refl _) _) (Nat.le_refl _) _)) H0A.out (by omega) ?_
              intro va wa hown hgrow hat
              have QF := apJF (H := Wd.heap.size) (w0 := Wd) (by first | exact alloc_atJ (by simp) | exact alloc_farJ (alloc_atJ (by simp))) (by first | (dsimp only; omega) | (simp; done)) (by first | exact Below.refl _ _ | exact bel_allocJ (Below.refl _ _) (Nat.le_refl _) _ | exact bel_allocJ (bel_allocJ (Below.refl _ _) (Nat.le_refl _) _) (Nat.le_refl _) _) (Nat.le_refl _) hown hgrow hat
              clear hown hgrow hat
              refine hK.out _ _ (fun _ => SS.out _ QF.below) ?_
              clear hK K
              (try simp only [Act.put, List.setIfInBounds_toArray, List.set_cons_zero, List.set_cons_succ])
              refine until_one (i := 11) (by kernel_rfl) ?_
              refine comes (o := ({ dst := some 77, op := Op.call { callee := Callee.builtin Builtin.append, args := #[Operand.tmp 74, Operand.tmp 76], argTypes := #[26, 26] }, type := 26, pos := "ref.go:26", after := #[{ on := 8, ground := Ground.data }, { on := 10, ground := Ground.data }, { on := 8, ground := Ground.chain }], guard := none } : Oper)) rfl (fun K hK => ?_)
              refine step_append_jobs (by rfl) _ _ (by rfl) va p (x.take p) LTK.out (by rfl) QF.own (fun _ => True) (some ⟨Wd.heap.size, 0, none⟩) 1 1 [(⟨b0, b1, b2, b3, b4, b5, b6⟩ : Jb)] rfl (by rfl) ((js_block (l := [(⟨b0, b1, b2, b3, b4, b5, b6⟩ : Jb)]) (QF.keep _ _ (by first | exact alloc_atJ (by simp) | exact alloc_farJ (alloc_atJ (by simp))) (by simp [jcells, jcell])) (c := 1) (by simp)).mono (fun _ _ => trivial)) (fun h => by cases h) (by omega) ?_
              intro vb wb hown hgrow hat
              have QG := apJG QF QF.below (Nat.le_refl _) hown hgrow hat
              clear hown hgrow hat
              refine hK.out _ _ (fun _ => SS.out _ QG.below) ?_
              clear hK K
              (try simp only [Act.put, List.setIfInBounds_toArray, List.set_cons_zero, List.set_cons_succ])
              refine until_one (i := 18) (by kernel_rfl) ?_
              refine comes (o := ({ dst := some 84, op := Op.call { callee := Callee.builtin Builtin.append, args := #[Operand.tmp 77, Operand.tmp 83], argTypes := #[26, 26] }, type := 26, pos := "ref.go:26", after := #[{ on := 11, ground := Ground.data }, { on := 17, ground := Ground.data }, { on := 11, ground := Ground.chain }], guard := none } : Oper)) rfl (fun K hK => ?_)
              refine step_append_jobs (by rfl) _ _ (by rfl) vb (p + 1) (x.take p ++ [(⟨b0, b1, b2, b3, b4, b5, b6⟩ : Jb)]) LN1.out (by rfl) QG.own (fun _ => True) (if c = p then some ⟨pb, off, none⟩ else some ⟨pb, off + p * 7, none⟩) (L - p) (c - p) (x.drop p) LDR.out (by rfl) (SB.out _ QG.below) H0B.out (by omega) ?_
              intro vc wc hown hgrow hat
              obtain ⟨g1, g2⟩ := grownJ hgrow hat QG.below (Nat.le_refl _) QG.ge
              obtain ⟨oa, oc, e, _⟩ := ownsRow_form hown
              subst e
              obtain ⟨⟨l1, l2⟩, LF⟩ := FN.out wc oa oc hown g1 g2
              have LFH := Hid.intro LF
              have g1H := Hid.intro g1
              clear hown hgrow hat g2 LF QG
              refine hK.out _ _ (fun _ => SS.out _ g1) ?_
              clear hK K g1
              (try simp only [Act.put, List.setIfInBounds_toArray, List.set_cons_zero, List.set_cons_succ])
              refine until_one (i := 19) (by kernel_rfl) ?_
              refine comes (o := ({ dst := some 85, op := Op.nilCheck (Operand.tmp 66), type := 0, pos := "ref.go:26", after := #[{ on := 0, ground := Ground.data }, { on := 0, ground := Ground.phase }, { on := 1, ground := Ground.phase }, { on := 2, ground := Ground.phase }, { on := 3, ground := Ground.phase }, { on := 4, ground := Ground.phase }, { on := 5, ground := Ground.phase }, { on := 6, ground := Ground.phase }, { on := 7, ground := Ground.phase }, { on := 8, ground := Ground.phase }, { on := 9, ground := Ground.phase }, { on := 10, ground := Ground.phase }, { on := 11, ground := Ground.phase }, { on := 12, ground := Ground.phase }, { on := 13, ground := Ground.phase }, { on := 14, ground := Ground.phase }, { on := 15, ground := Ground.phase }, { on := 16, ground := Ground.phase }, { on := 17, ground := Ground.phase }, { on := 18, ground := Ground.phase }], guard := none } : Oper)) rfl (fun K hK => ?_)
              go_simp
              refine hK.out _ _ (fun _ => SS.out _ g1H.out) ?_
              clear hK K
              (try simp only [Act.put, List.setIfInBounds_toArray, List.set_cons_zero, List.set_cons_succ])
              refine until_one (i := 20) (by kernel_rfl) ?_
              refine comes (o := ({ dst := some 86, op := Op.fieldAddr 41 (Operand.tmp 85) 0, type := 0, pos := "ref.go:26", after := #[{ on := 19, ground := Ground.data }, { on := 0, ground := Ground.phase }, { on := 1, ground := Ground.phase }, { on := 2, ground := Ground.phase }, { on := 3, ground := Ground.phase }, { on := 4, ground := Ground.phase }, { on := 5, ground := Ground.phase }, { on := 6, ground := Ground.phase }, { on := 7, ground := Ground.phase }, { on := 8, ground := Ground.phase }, { on := 9, ground := Ground.phase }, { on := 10, ground := Ground.phase }, { on := 11, ground := Ground.phase }, { on := 12, ground := Ground.phase }, { on := 13, ground := Ground.phase }, { on := 14, ground := Ground.phase }, { on := 15, ground := Ground.phase }, { on := 16, ground := Ground.phase }, { on := 17, ground := Ground.phase }, { on := 18, ground := Ground.phase }], guard := none } : Oper)) rfl (fun K hK => ?_)
              go_simp
              refine hK.out _ _ (fun _ => SS.out _ g1H.out) ?_
              clear hK K
              (try simp only [Act.put, List.setIfInBounds_toArray, List.set_cons_zero, List.set_cons_succ])
              refine until_one (i := 21) (by kernel_rfl) ?_
              refine comes (o := ({ dst := none, op := Op.store 26 (Operand.tmp 86) (Operand.tmp 84), type := 0, pos := "ref.go:26", after := #[{ on := 20, ground := Ground.data }, { on := 18, ground := Ground.data }, { on := 18, ground := Ground.chain }, { on := 0, ground := Ground.phase }, { on := 1, ground := Ground.phase }, { on := 2, ground := Ground.phase }, { on := 3, ground := Ground.phase }, { on := 4, ground := Ground.phase }, { on := 5, ground := Ground.phase }, { on := 6, ground := Ground.phase }, { on := 7, ground := Ground.phase }, { on := 8, ground := Ground.phase }, { on := 9, ground := Ground.phase }, { on := 10, ground := Ground.phase }, { on := 11, ground := Ground.phase }, { on := 12, ground := Ground.phase }, { on := 13, ground := Ground.phase }, { on := 14, ground := Ground.phase }, { on := 15, ground := Ground.phase }, { on := 16, ground := Ground.phase }, { on := 17, ground := Ground.phase }, { on := 18, ground := Ground.phase }], guard := none } : Oper)) rfl (fun K hK => ?_)
              go_simp
              refine hK.out _ _ (fun q => absurd rfl q) ?_
              clear hK K
              (try simp only [Act.put, List.setIfInBounds_toArray, List.set_cons_zero, List.set_cons_succ])
              refine until_done (by kernel_rfl) ?_ _
              go_wp2
              all_goals
                go_ret
                exact ⟨rfl, LFH.out⟩
        · have NAH0 : ahJ (⟨b0, b1, b2, b3, b4, b5, b6⟩ : Jb) x[s] = false := by rw [AD.out]; simp [c1, c2]
          have c2b : (b5 == dl) = false := by rw [beq_eq_false_iff_ne]; exact c2
          have NAH : Hid (ahJ (⟨b0, b1, b2, b3, b4, b5, b6⟩ : Jb) x[s] = false) := NAH0
          have HSP := Hid.intro hs
          have p1 : (p : Int) ≤ (c : Int) := by omega
          have p2 : (0 : Int) ≤ (p : Int) := by omega
          have p3 : (p : Int) ≤ (L : Int) := by omega
          have p4 : (L : Int) ≤ (c : Int) := by omega
          clear AD NXT hxd hxb hs NAH0
          go_wp2_with fail
          have c1' : ¬ b5 < dl := by omega
          go_big_quiet (fail)
          go_wp2_with fail
          have BD : Hid (Below A.heap.size A (wr.drewN nq).drew) := ⟨BR.out.os, BR.out.tape, BR.out.output, BR.out.size, BR.out.block⟩
          have HS : ((fun W => W.cell? ⟨rb, 0, none⟩ = some (.slice (some ⟨pb, off, none⟩) L c) ∧ (W.cell? ⟨w.heap.size, 0, none⟩ = some (.int .i64 b0) ∧ W.cell? ⟨w.heap.size, 1, none⟩ = some (.int .i64 b1) ∧ W.cell? ⟨w.heap.size, 2, none⟩ = some (.int .i64 b2) ∧ W.cell? ⟨w.heap.size, 3, none⟩ = some (.int .i64 b3) ∧ W.cell? ⟨w.heap.size, 4, none⟩ = some (.int .i64 b4) ∧ W.cell? ⟨w.heap.size, 5, none⟩ = some (.int .i64 b5) ∧ W.cell? ⟨w.heap.size, 6, none⟩ = some (.int .i64 b6))) : World → Prop) (wr.drewN nq).drew := ⟨KQ.out _ BD.out, KB.out _ BD.out⟩
          refine until_start (S := (fun W => W.cell? ⟨rb, 0, none⟩ = some (.slice (some ⟨pb, off, none⟩) L c) ∧ (W.cell? ⟨w.heap.size, 0, none⟩ = some (.int .i64 b0) ∧ W.cell? ⟨w.heap.size, 1, none⟩ = some (.int .i64 b1) ∧ W.cell? ⟨w.heap.size, 2, none⟩ = some (.int .i64 b2) ∧ W.cell? ⟨w.heap.size, 3, none⟩ = some (.int .i64 b3) ∧ W.cell? ⟨w.heap.size, 4, none⟩ = some (.int .i64 b4) ∧ W.cell? ⟨w.heap.size, 5, none⟩ = some (.int .i64 b5) ∧ W.cell? ⟨w.heap.size, 6, none⟩ = some (.int .i64 b6)))) (z := 21) (by kernel_rfl) ?_
          generalize (wr.drewN nq).drew = Wd at *
          have BWD := Hid.intro (BAH.out.trans (BD.out.mono BAH.out.size))
          have SS : Hid (∀ X, Below Wd.heap.size Wd X → ((fun W => W.cell? ⟨rb, 0, none⟩ = some (.slice (some ⟨pb, off, none⟩) L c) ∧ (W.cell? ⟨w.heap.size, 0, none⟩ = some (.int .i64 b0) ∧ W.cell? ⟨w.heap.size, 1, none⟩ = some (.int .i64 b1) ∧ W.cell? ⟨w.heap.size, 2, none⟩ = some (.int .i64 b2) ∧ W.cell? ⟨w.heap.size, 3, none⟩ = some (.int .i64 b3) ∧ W.cell? ⟨w.heap.size, 4, none⟩ = some (.int .i64 b4) ∧ W.cell? ⟨w.heap.size, 5, none⟩ = some (.int .i64 b5) ∧ W.cell? ⟨w.heap.size, 6, none⟩ = some (.int .i64 b6))) : World → Prop) X) := fun X hX => ⟨KQ.out _ (BD.out.trans (hX.mono BD.out.size)), KB.out _ (BD.out.trans (hX.mono BD.out.size))⟩
          have JW : Hid (JsAt (fun _ => True) Wd (.slice (some ⟨pb, off, none⟩) L c) x) := by
            have q := (RH.out.js.mono (R' := fun _ => True) (fun _ _ => trivial)).below BWD.out
            rw [← HL.out] at q
            exact q
          have LTK : Hid (p = (x.take p).length) := by rw [Hid, List.length_take]; have := HL.out; omega
          have LDR : Hid ((L - p) = (x.drop p).length) := by rw [Hid, List.length_drop]; have := HL.out; omega
          have LN1 : Hid (p + 1 = (x.take p ++ [(⟨b0, b1, b2, b3, b4, b5, b6⟩ : Jb)]).length) := by rw [Hid, List.length_append, ← LTK.out]; rfl
          have SA : Hid (∀ X, Below Wd.heap.size Wd X → JsAt (fun _ => True) X (.slice (some ⟨pb, off, none⟩) p c) (x.take p)) := fun X hX => by have q := js_takeJ JW.out (k := p) (by have := HL.out; omega); exact q.below hX
          have SB : Hid (∀ X, Below Wd.heap.size Wd X → JsAt (fun _ => True) X (.slice (if c = p then some ⟨pb, off, none⟩ else some ⟨pb, off + p * 7, none⟩) (L - p) (c - p)) (x.drop p)) := fun X hX => (js_dropJ JW.out (k := p) (by have := HL.out; omega) (by have := HL.out; omega) (by omega)).below hX
          have H0A : Hid (((some ⟨pb, off, none⟩) : Option Addr) = none → c = 0) := hroom.2
          have H0B : Hid (((if c = p then some ⟨pb, off, none⟩ else some ⟨pb, off + p * 7, none⟩) : Option Addr) = none → (c - p) = 0) := fun q => by first | (have := hroom.2 q; omega) | (exfalso; revert q; split <;> intro q <;> cases q)
          have EQT : Hid (T = x.take p ++ [(⟨b0, b1, b2, b3, b4, b5, b6⟩ : Jb)] ++ x.drop p) := by rw [Hid, HT.out]; exact ins_at SR.out (⟨b0, b1, b2, b3, b4, b5, b6⟩ : Jb) (by have := HL.out; omega) AH.out (fun s2 hs2 _ => by have e := HSP.out; obtain rfl : s2 = s := (by omega); exact NAH.out)
          have FN : Hid (∀ (wc : World) (oa : Option Addr) (oc : Nat), wc.ownsRow 0 38 7 (.slice oa (p + 1 + (L - p)) oc) (p + 1 + (L - p)) (jcells (x.take p ++ [(⟨b0, b1, b2, b3, b4, b5, b6⟩ : Jb)] ++ x.drop p)) → Below Wd.heap.size Wd wc → (∀ k, (Value.slice oa (p + 1 + (L - p)) oc).ownBlock = some k → Wd.heap.size ≤ k) → (wc.cell? ⟨rb, 0, none⟩ = some (.slice (some ⟨pb, off, none⟩) L c) ∧ wc.frozen? ⟨rb, 0, none⟩ = false) ∧ LeftR S w (wc.setCell ⟨rb, 0, none⟩ (.slice oa (p + 1 + (L - p)) oc)) rb T) := fun wc oa oc hown hB hge => by
            have BW := BWD.out.trans (hB.mono BWD.out.size)
            have hs := BWD.out.size
            have mk : Mk w.heap.size wc (.slice oa (p + 1 + (L - p)) oc) (p + 1 + (L - p)) T := by
              rw [EQT.out]
              exact ⟨by rw [List.length_append, ← LDR.out, ← LN1.out], hown, fun k hk => Nat.le_trans hs (hge k hk)⟩
            obtain ⟨q1, q2, q3⟩ := RH.out.laid BW mk OKT.out
            rw [← HL.out] at q1
            exact ⟨q1, _, ⟨_, q2⟩, q3, fun k hk => by
              rcases hk with e | e
              · subst e; exact .inl RH.out.inB
              · exact .inr (Nat.le_trans hs (hge k e))⟩
          have few2 : p + 1 + (L - p) ≤ 1000 := by omega
          clear KQ KB KJ HP BR HWR AH e0 e1 e2 e3 e4 e5 e6 cr
          refine until_take (i := 0) (oi := ({ dst := some 66, op := Op.move (Operand.tmp 0), type := 64, pos := "ref.go:26", after := #[], guard := none } : Oper)) (oz := ({ dst := none, op := Op.store 26 (Operand.tmp 86) (Operand.tmp 84), type := 0, pos := "ref.go:26", after := #[{ on := 20, ground := Ground.data }, { on := 18, ground := Ground.data }, { on := 18, ground := Ground.chain }, { on := 0, ground := Ground.phase }, { on := 1, ground := Ground.phase }, { on := 2, ground := Ground.phase }, { on := 3, ground := Ground.phase }, { on := 4, ground := Ground.phase }, { on := 5, ground := Ground.phase }, { on := 6, ground := Ground.phase }, { on := 7, ground := Ground.phase }, { on := 8, ground := Ground.phase }, { on := 9, ground := Ground.phase }, { on := 10, ground := Ground.phase }, { on := 11, ground := Ground.phase }, { on := 12, ground := Ground.phase }, { on := 13, ground := Ground.phase }, { on := 14, ground := Ground.phase }, { on := 15, ground := Ground.phase }, { on := 16, ground := Ground.phase }, { on := 17, ground := Ground.phase }, { on := 18, ground := Ground.phase }], guard := none } : Oper)) (v := ?v0b) rfl rfl (by kernel_rfl) (by kernel_rfl) (fun _ _ _ h => h) (Region.free_spec rfl (by kernel_rfl)) (of_containsL (by kernel_rfl)) (Or.inl ⟨by rfl, ?y0b⟩) HS ?r0b
          case y0b => (intro w hSw; (try dsimp only at hSw); go_simp; first | done | with_reducible rfl)
          (try simp only [Act.put, List.setIfInBounds_toArray, List.set_cons_zero, List.set_cons_succ])
          refine until_take (i := 2) (oi := ({ dst := some 68, op := Op.move (Operand.tmp 0), type := 64, pos := "ref.go:26", after := #[], guard := none } : Oper)) (oz := ({ dst := none, op := Op.store 26 (Operand.tmp 86) (Operand.tmp 84), type := 0, pos := "ref.go:26", after := #[{ on := 20, ground := Ground.data }, { on := 18, ground := Ground.data }, { on := 18, ground := Ground.chain }, { on := 0, ground := Ground.phase }, { on := 1, ground := Ground.phase }, { on := 2, ground := Ground.phase }, { on := 3, ground := Ground.phase }, { on := 4, ground := Ground.phase }, { on := 5, ground := Ground.phase }, { on := 6, ground := Ground.phase }, { on := 7, ground := Ground.phase }, { on := 8, ground := Ground.phase }, { on := 9, ground := Ground.phase }, { on := 10, ground := Ground.phase }, { on := 11, ground := Ground.phase }, { on := 12, ground := Ground.phase }, { on := 13, ground := Ground.phase }, { on := 14, ground := Ground.phase }, { on := 15, ground := Ground.phase }, { on := 16, ground := Ground.phase }, { on := 17, ground := Ground.phase }, { on := 18, ground := Ground.phase }], guard := none } : Oper)) (v := ?v2b) rfl rfl (by kernel_rfl) (by kernel_rfl) (fun _ _ _ h => h) (Region.free_spec rfl (by kernel_rfl)) (of_containsL (by kernel_rfl)) (Or.inl ⟨by rfl, ?y2b⟩) HS ?r2b
          case y2b => (intro w hSw; (try dsimp only at hSw); go_simp; first | done | with_reducible rfl)
          (try simp only [Act.put, List.setIfInBounds_toArray, List.set_cons_zero, List.set_cons_succ])
          refine until_take (i := 3) (oi := ({ dst := some 69, op := Op.nilCheck (Operand.tmp 68), type := 0, pos := "ref.go:26", after := #[{ on := 2, ground := Ground.data }], guard := none } : Oper)) (oz := ({ dst := none, op := Op.store 26 (Operand.tmp 86) (Operand.tmp 84), type := 0, pos := "ref.go:26", after := #[{ on := 20, ground := Ground.data }, { on := 18, ground := Ground.data }, { on := 18, ground := Ground.chain }, { on := 0, ground := Ground.phase }, { on := 1, ground := Ground.phase }, { on := 2, ground := Ground.phase }, { on := 3, ground := Ground.phase }, { on := 4, ground := Ground.phase }, { on := 5, ground := Ground.phase }, { on := 6, ground := Ground.phase }, { on := 7, ground := Ground.phase }, { on := 8, ground := Ground.phase }, { on := 9, ground := Ground.phase }, { on := 10, ground := Ground.phase }, { on := 11, ground := Ground.phase }, { on := 12, ground := Ground.phase }, { on := 13, ground := Ground.phase }, { on := 14, ground := Ground.phase }, { on := 15, ground := Ground.phase }, { on := 16, ground := Ground.phase }, { on := 17, ground := Ground.phase }, { on := 18, ground := Ground.phase }], guard := none } : Oper)) (v := ?v3b) rfl rfl (by kernel_rfl) (by kernel_rfl) (fun _ _ _ h => h) (Region.free_spec rfl (by kernel_rfl)) (of_containsL (by kernel_rfl)) (Or.inl ⟨by rfl, ?y3b⟩) HS ?r3b
          case y3b => (intro w hSw; (try dsimp only at hSw); go_simp; first | done | with_reducible rfl)
          (try simp only [Act.put, List.setIfInBounds_toArray, List.set_cons_zero, List.set_cons_succ])
          refine until_take (i := 4) (oi := ({ dst := some 70, op := Op.fieldAddr 41 (Operand.tmp 69) 0, type := 0, pos := "ref.go:26", after := #[{ on := 3, ground := Ground.data }], guard := none } : Oper)) (oz := ({ dst := none, op := Op.store 26 (Operand.tmp 86) (Operand.tmp 84), type := 0, pos := "ref.go:26", after := #[{ on := 20, ground := Ground.data }, { on := 18, ground := Ground.data }, { on := 18, ground := Ground.chain }, { on := 0, ground := Ground.phase }, { on := 1, ground := Ground.phase }, { on := 2, ground := Ground.phase }, { on := 3, ground := Ground.phase }, { on := 4, ground := Ground.phase }, { on := 5, ground := Ground.phase }, { on := 6, ground := Ground.phase }, { on := 7, ground := Ground.phase }, { on := 8, ground := Ground.phase }, { on := 9, ground := Ground.phase }, { on := 10, ground := Ground.phase }, { on := 11, ground := Ground.phase }, { on := 12, ground := Ground.phase }, { on := 13, ground := Ground.phase }, { on := 14, ground := Ground.phase }, { on := 15, ground := Ground.phase }, { on := 16, ground := Ground.phase }, { on := 17, ground := Ground.phase }, { on := 18, ground := Ground.phase }], guard := none } : Oper)) (v := ?v4b) rfl rfl (by kernel_rfl) (by kernel_rfl) (fun _ _ _ h => h) (Region.free_spec rfl (by kernel_rfl)) (of_containsL (by kernel_rfl)) (Or.inl ⟨by rfl, ?y4b⟩) HS ?r4b
          case y4b => (intro w hSw; (try dsimp only at hSw); go_simp; first | done | with_reducible rfl)
          (try simp only [Act.put, List.setIfInBounds_toArray, List.set_cons_zero, List.set_cons_succ])
          refine until_take (i := 5) (oi := ({ dst := some 71, op := Op.load 26 (Operand.tmp 70), type := 26, pos := "ref.go:26", after := #[{ on := 4, ground := Ground.data }], guard := none } : Oper)) (oz := ({ dst := none, op := Op.store 26 (Operand.tmp 86) (Operand.tmp 84), type := 0, pos := "ref.go:26", after := #[{ on := 20, ground := Ground.data }, { on := 18, ground := Ground.data }, { on := 18, ground := Ground.chain }, { on := 0, ground := Ground.phase }, { on := 1, ground := Ground.phase }, { on := 2, ground := Ground.phase }, { on := 3, ground := Ground.phase }, { on := 4, ground := Ground.phase }, { on := 5, ground := Ground.phase }, { on := 6, ground := Ground.phase }, { on := 7, ground := Ground.phase }, { on := 8, ground := Ground.phase }, { on := 9, ground := Ground.phase }, { on := 10, ground := Ground.phase }, { on := 11, ground := Ground.phase }, { on := 12, ground := Ground.phase }, { on := 13, ground := Ground.phase }, { on := 14, ground := Ground.phase }, { on := 15, ground := Ground.phase }, { on := 16, ground := Ground.phase }, { on := 17, ground := Ground.phase }, { on := 18, ground := Ground.phase }], guard := none } : Oper)) (v := ?v5b) rfl rfl (by kernel_rfl) (by kernel_rfl) (fun _ _ _ h => h) (Region.free_spec rfl (by kernel_rfl)) (of_containsL (by kernel_rfl)) (Or.inl ⟨by rfl, ?y5b⟩) HS ?r5b
          case y5b => (intro w hSw; (try dsimp only at hSw); go_simp; first | done | with_reducible rfl)
          (try simp only [Act.put, List.setIfInBounds_toArray, List.set_cons_zero, List.set_cons_succ])
          refine until_take (i := 6) (oi := ({ dst := some 72, op := Op.move (Operand.tmp 5), type := 3, pos := "ref.go:26", after := #[], guard := none } : Oper)) (oz := ({ dst := none, op := Op.store 26 (Operand.tmp 86) (Operand.tmp 84), type := 0, pos := "ref.go:26", after := #[{ on := 20, ground := Ground.data }, { on := 18, ground := Ground.data }, { on := 18, ground := Ground.chain }, { on := 0, ground := Ground.phase }, { on := 1, ground := Ground.phase }, { on := 2, ground := Ground.phase }, { on := 3, ground := Ground.phase }, { on := 4, ground := Ground.phase }, { on := 5, ground := Ground.phase }, { on := 6, ground := Ground.phase }, { on := 7, ground := Ground.phase }, { on := 8, ground := Ground.phase }, { on := 9, ground := Ground.phase }, { on := 10, ground := Ground.phase }, { on := 11, ground := Ground.phase }, { on := 12, ground := Ground.phase }, { on := 13, ground := Ground.phase }, { on := 14, ground := Ground.phase }, { on := 15, ground := Ground.phase }, { on := 16, ground := Ground.phase }, { on := 17, ground := Ground.phase }, { on := 18, ground := Ground.phase }], guard := none } : Oper)) (v := ?v6b) rfl rfl (by kernel_rfl) (by kernel_rfl) (fun _ _ _ h => h) (Region.free_spec rfl (by kernel_rfl)) (of_containsL (by kernel_rfl)) (Or.inl ⟨by rfl, ?y6b⟩) HS ?r6b
          case y6b => (intro w hSw; (try dsimp only at hSw); go_simp; first | done | with_reducible rfl)
          (try simp only [Act.put, List.setIfInBounds_toArray, List.set_cons_zero, List.set_cons_succ])
          refine until_take (i := 7) (oi := ({ dst := some 73, op := Op.slice 26 (Operand.tmp 71) none (some (Operand.tmp 72)) none, type := 26, pos := "ref.go:26", after := #[{ on := 5, ground := Ground.data }, { on := 6, ground := Ground.data }], guard := none } : Oper)) (oz := ({ dst := none, op := Op.store 26 (Operand.tmp 86) (Operand.tmp 84), type := 0, pos := "ref.go:26", after := #[{ on := 20, ground := Ground.data }, { on := 18, ground := Ground.data }, { on := 18, ground := Ground.chain }, { on := 0, ground := Ground.phase }, { on := 1, ground := Ground.phase }, { on := 2, ground := Ground.phase }, { on := 3, ground := Ground.phase }, { on := 4, ground := Ground.phase }, { on := 5, ground := Ground.phase }, { on := 6, ground := Ground.phase }, { on := 7, ground := Ground.phase }, { on := 8, ground := Ground.phase }, { on := 9, ground := Ground.phase }, { on := 10, ground := Ground.phase }, { on := 11, ground := Ground.phase }, { on := 12, ground := Ground.phase }, { on := 13, ground := Ground.phase }, { on := 14, ground := Ground.phase }, { on := 15, ground := Ground.phase }, { on := 16, ground := Ground.phase }, { on := 17, ground := Ground.phase }, { on := 18, ground := Ground.phase }], guard := none } : Oper)) (v := ?v7b) rfl rfl (by kernel_rfl) (by kernel_rfl) (fun _ _ _ h => h) (Region.free_spec rfl (by kernel_rfl)) (of_containsL (by kernel_rfl)) (Or.inl ⟨by rfl, ?y7b⟩) HS ?r7b
          case y7b => (intro w hSw; (try dsimp only at hSw); go_simp; first | done | with_reducible rfl)
          (try simp only [Act.put, List.setIfInBounds_toArray, List.set_cons_zero, List.set_cons_succ])
          refine until_take (i := 9) (oi := ({ dst := some 75, op := Op.load 38 (Operand.tmp 3), type := 38, pos := "ref.go:26", after := #[], guard := none } : Oper)) (oz := ({ dst := none, op := Op.store 26 (Operand.tmp 86) (Operand.tmp 84), type := 0, pos := "ref.go:26", after := #[{ on := 20, ground := Ground.data }, { on := 18, ground := Ground.data }, { on := 18, ground := Ground.chain }, { on := 0, ground := Ground.phase }, { on := 1, ground := Ground.phase }, { on := 2, ground := Ground.phase }, { on := 3, ground := Ground.phase }, { on := 4, ground := Ground.phase }, { on := 5, ground := Ground.phase }, { on := 6, ground := Ground.phase }, { on := 7, ground := Ground.phase }, { on := 8, ground := Ground.phase }, { on := 9, ground := Ground.phase }, { on := 10, ground := Ground.phase }, { on := 11, ground := Ground.phase }, { on := 12, ground := Ground.phase }, { on := 13, ground := Ground.phase }, { on := 14, ground := Ground.phase }, { on := 15, ground := Ground.phase }, { on := 16, ground := Ground.phase }, { on := 17, ground := Ground.phase }, { on := 18, ground := Ground.phase }], guard := none } : Oper)) (v := ?v9b) rfl rfl (by kernel_rfl) (by kernel_rfl) (fun _ _ _ h => h) (Region.free_spec rfl (by kernel_rfl)) (of_containsL (by kernel_rfl)) (Or.inl ⟨by rfl, ?y9b⟩) HS ?r9b
          case y9b => (intro w hSw; (try dsimp only at hSw); go_simp; first | done | with_reducible rfl)
          (try simp only [Act.put, List.setIfInBounds_toArray, List.set_cons_zero, List.set_cons_succ])
          refine until_take (i := 12) (oi := ({ dst := some 78, op := Op.move (Operand.tmp 0), type := 64, pos := "ref.go:26", after := #[], guard := none } : Oper)) (oz := ({ dst := none, op := Op.store 26 (Operand.tmp 86) (Operand.tmp 84), type := 0, pos := "ref.go:26", after := #[{ on := 20, ground := Ground.data }, { on := 18, ground := Ground.data }, { on := 18, ground := Ground.chain }, { on := 0, ground := Ground.phase }, { on := 1, ground := Ground.phase }, { on := 2, ground := Ground.phase }, { on := 3, ground := Ground.phase }, { on := 4, ground := Ground.phase }, { on := 5, ground := Ground.phase }, { on := 6, ground := Ground.phase }, { on := 7, ground := Ground.phase }, { on := 8, ground := Ground.phase }, { on := 9, ground := Ground.phase }, { on := 10, ground := Ground.phase }, { on := 11, ground := Ground.phase }, { on := 12, ground := Ground.phase }, { on := 13, ground := Ground.phase }, { on := 14, ground := Ground.phase }, { on := 15, ground := Ground.phase }, { on := 16, ground := Ground.phase }, { on := 17, ground := Ground.phase }, { on := 18, ground := Ground.phase }], guard := none } : Oper)) (v := ?v12b) rfl rfl (by kernel_rfl) (by kernel_rfl) (fun _ _ _ h => h) (Region.free_spec rfl (by kernel_rfl)) (of_containsL (by kernel_rfl)) (Or.inl ⟨by rfl, ?y12b⟩) HS ?r12b
          case y12b => (intro w hSw; (try dsimp only at hSw); go_simp; first | done | with_reducible rfl)
          (try simp only [Act.put, List.setIfInBounds_toArray, List.set_cons_zero, List.set_cons_succ])
          refine until_take (i := 13) (oi := ({ dst := some 79, op := Op.nilCheck (Operand.tmp 78), type := 0, pos := "ref.go:26", after := #[{ on := 12, ground := Ground.data }], guard := none } : Oper)) (oz := ({ dst := none, op := Op.store 26 (Operand.tmp 86) (Operand.tmp 84), type := 0, pos := "ref.go:26", after := #[{ on := 20, ground := Ground.data }, { on := 18, ground := Ground.data }, { on := 18, ground := Ground.chain }, { on := 0, ground := Ground.phase }, { on := 1, ground := Ground.phase }, { on := 2, ground := Ground.phase }, { on := 3, ground := Ground.phase }, { on := 4, ground := Ground.phase }, { on := 5, ground := Ground.phase }, { on := 6, ground := Ground.phase }, { on := 7, ground := Ground.phase }, { on := 8, ground := Ground.phase }, { on := 9, ground := Ground.phase }, { on := 10, ground := Ground.phase }, { on := 11, ground := Ground.phase }, { on := 12, ground := Ground.phase }, { on := 13, ground := Ground.phase }, { on := 14, ground := Ground.phase }, { on := 15, ground := Ground.phase }, { on := 16, ground := Ground.phase }, { on := 17, ground := Ground.phase }, { on := 18, ground := Ground.phase }], guard := none } : Oper)) (v := ?v13b) rfl rfl (by kernel_rfl) (by kernel_rfl) (fun _ _ _ h => h) (Region.free_spec rfl (by kernel_rfl)) (of_containsL (by kernel_rfl)) (Or.inl ⟨by rfl, ?y13b⟩) HS ?r13b
          case y13b => (intro w hSw; (try dsimp only at hSw); go_simp; first | done | with_reducible rfl)
          (try simp only [Act.put, List.setIfInBounds_toArray, List.set_cons_zero, List.set_cons_succ])
          refine until_take (i := 14) (oi := ({ dst := some 80, op := Op.fieldAddr 41 (Operand.tmp 79) 0, type := 0, pos := "ref.go:26", after := #[{ on := 13, ground := Ground.data }], guard := none } : Oper)) (oz := ({ dst := none, op := Op.store 26 (Operand.tmp 86) (Operand.tmp 84), type := 0, pos := "ref.go:26", after := #[{ on := 20, ground := Ground.data }, { on := 18, ground := Ground.data }, { on := 18, ground := Ground.chain }, { on := 0, ground := Ground.phase }, { on := 1, ground := Ground.phase }, { on := 2, ground := Ground.phase }, { on := 3, ground := Ground.phase }, { on := 4, ground := Ground.phase }, { on := 5, ground := Ground.phase }, { on := 6, ground := Ground.phase }, { on := 7, ground := Ground.phase }, { on := 8, ground := Ground.phase }, { on := 9, ground := Ground.phase }, { on := 10, ground := Ground.phase }, { on := 11, ground := Ground.phase }, { on := 12, ground := Ground.phase }, { on := 13, ground := Ground.phase }, { on := 14, ground := Ground.phase }, { on := 15, ground := Ground.phase }, { on := 16, ground := Ground.phase }, { on := 17, ground := Ground.phase }, { on := 18, ground := Ground.phase }], guard := none } : Oper)) (v := ?v14b) rfl rfl (by kernel_rfl) (by kernel_rfl) (fun _ _ _ h => h) (Region.free_spec rfl (by kernel_rfl)) (of_containsL (by kernel_rfl)) (Or.inl ⟨by rfl, ?y14b⟩) HS ?r14b
          case y14b => (intro w hSw; (try dsimp only at hSw); go_simp; first | done | with_reducible rfl)
          (try simp only [Act.put, List.setIfInBounds_toArray, List.set_cons_zero, List.set_cons_succ])
          refine until_take (i := 15) (oi := ({ dst := some 81, op := Op.load 26 (Operand.tmp 80), type := 26, pos := "ref.go:26", after := #[{ on := 14, ground := Ground.data }], guard := none } : Oper)) (oz := ({ dst := none, op := Op.store 26 (Operand.tmp 86) (Operand.tmp 84), type := 0, pos := "ref.go:26", after := #[{ on := 20, ground := Ground.data }, { on := 18, ground := Ground.data }, { on := 18, ground := Ground.chain }, { on := 0, ground := Ground.phase }, { on := 1, ground := Ground.phase }, { on := 2, ground := Ground.phase }, { on := 3, ground := Ground.phase }, { on := 4, ground := Ground.phase }, { on := 5, ground := Ground.phase }, { on := 6, ground := Ground.phase }, { on := 7, ground := Ground.phase }, { on := 8, ground := Ground.phase }, { on := 9, ground := Ground.phase }, { on := 10, ground := Ground.phase }, { on := 11, ground := Ground.phase }, { on := 12, ground := Ground.phase }, { on := 13, ground := Ground.phase }, { on := 14, ground := Ground.phase }, { on := 15, ground := Ground.phase }, { on := 16, ground := Ground.phase }, { on := 17, ground := Ground.phase }, { on := 18, ground := Ground.phase }], guard := none } : Oper)) (v := ?v15b) rfl rfl (by kernel_rfl) (by kernel_rfl) (fun _ _ _ h => h) (Region.free_spec rfl (by kernel_rfl)) (of_containsL (by kernel_rfl)) (Or.inl ⟨by rfl, ?y15b⟩) HS ?r15b
          case y15b => (intro w hSw; (try dsimp only at hSw); go_simp; first | done | with_reducible rfl)
          (try simp only [Act.put, List.setIfInBounds_toArray, List.set_cons_zero, List.set_cons_succ])
          refine until_take (i := 16) (oi := ({ dst := some 82, op := Op.move (Operand.tmp 5), type := 3, pos := "ref.go:26", after := #[], guard := none } : Oper)) (oz := ({ dst := none, op := Op.store 26 (Operand.tmp 86) (Operand.tmp 84), type := 0, pos := "ref.go:26", after := #[{ on := 20, ground := Ground.data }, { on := 18, ground := Ground.data }, { on := 18, ground := Ground.chain }, { on := 0, ground := Ground.phase }, { on := 1, ground := Ground.phase }, { on := 2, ground := Ground.phase }, { on := 3, ground := Ground.phase }, { on := 4, ground := Ground.phase }, { on := 5, ground := Ground.phase }, { on := 6, ground := Ground.phase }, { on := 7, ground := Ground.phase }, { on := 8, ground := Ground.phase }, { on := 9, ground := Ground.phase }, { on := 10, ground := Ground.phase }, { on := 11, ground := Ground.phase }, { on := 12, ground := Ground.phase }, { on := 13, ground := Ground.phase }, { on := 14, ground := Ground.phase }, { on := 15, ground := Ground.phase }, { on := 16, ground := Ground.phase }, { on := 17, ground := Ground.phase }, { on := 18, ground := Ground.phase }], guard := none } : Oper)) (v := ?v16b) rfl rfl (by kernel_rfl) (by kernel_rfl) (fun _ _ _ h => h) (Region.free_spec rfl (by kernel_rfl)) (of_containsL (by kernel_rfl)) (Or.inl ⟨by rfl, ?y16b⟩) HS ?r16b
          case y16b => (intro w hSw; (try dsimp only at hSw); go_simp; first | done | with_reducible rfl)
          (try simp only [Act.put, List.setIfInBounds_toArray, List.set_cons_zero, List.set_cons_succ])
          refine until_take (i := 17) (oi := ({ dst := some 83, op := Op.slice 26 (Operand.tmp 81) (some (Operand.tmp 82)) none none, type := 26, pos := "ref.go:26", after := #[{ on := 15, ground := Ground.data }, { on := 16, ground := Ground.data }], guard := none } : Oper)) (oz := ({ dst := none, op := Op.store 26 (Operand.tmp 86) (Operand.tmp 84), type := 0, pos := "ref.go:26", after := #[{ on := 20, ground := Ground.data }, { on := 18, ground := Ground.data }, { on := 18, ground := Ground.chain }, { on := 0, ground := Ground.phase }, { on := 1, ground := Ground.phase }, { on := 2, ground := Ground.phase }, { on := 3, ground := Ground.phase }, { on := 4, ground := Ground.phase }, { on := 5, ground := Ground.phase }, { on := 6, ground := Ground.phase }, { on := 7, ground := Ground.phase }, { on := 8, ground := Ground.phase }, { on := 9, ground := Ground.phase }, { on := 10, ground := Ground.phase }, { on := 11, ground := Ground.phase }, { on := 12, ground := Ground.phase }, { on := 13, ground := Ground.phase }, { on := 14, ground := Ground.phase }, { on := 15, ground := Ground.phase }, { on := 16, ground := Ground.phase }, { on := 17, ground := Ground.phase }, { on := 18, ground := Ground.phase }], guard := none } : Oper)) (v := ?v17b) rfl rfl (by kernel_rfl) (by kernel_rfl) (fun _ _ _ h => h) (Region.free_spec rfl (by kernel_rfl)) (of_containsL (by kernel_rfl)) (Or.inl ⟨by rfl, ?y17b⟩) HS ?r17b
          case y17b => (intro w hSw; (try dsimp only at hSw); go_simp; first | done | with_reducible rfl)
          (try simp only [Act.put, List.setIfInBounds_toArray, List.set_cons_zero, List.set_cons_succ])
          refine until_two (i := 1) (k := 10) (by kernel_rfl) ?bAb ?bBb
          case bAb =>
            refine comes (o := ({ dst := some 67, op := Op.buildSlice 26 0 #[], type := 26, pos := "ref.go:26", after := #[], guard := none } : Oper)) rfl (fun K hK => ?_)
            go_simp
            refine hK.out _ _ (fun _ => SS.out _ (by first | exact Below.refl _ _ | exact bel_allocJ (Below.refl _ _) (Nat.le_refl _) _ | exact bel_allocJ (bel_allocJ (Below.refl _ _) (Nat.le_refl _) _) (Nat.le_refl _) _)) ?_
            clear hK K
            (try simp only [Act.put, List.setIfInBounds_toArray, List.set_cons_zero, List.set_cons_succ])
            refine until_two (i := 8) (k := 10) (by kernel_rfl) ?bCb ?bDb
            case bCb =>
              refine comes (o := ({ dst := some 74, op := Op.call { callee := Callee.builtin Builtin.append, args := #[Operand.tmp 67, Operand.tmp 73], argTypes := #[26, 26] }, type := 26, pos := "ref.go:26", after := #[{ on := 1, ground := Ground.data }, { on := 7, ground := Ground.data }], guard := none } : Oper)) rfl (fun K hK => ?_)
              refine step_append_jobs (by rfl) _ _ (by rfl) _ 0 [] rfl (by rfl) (own_emptyJ (by first | exact alloc_atJ (by simp) | exact alloc_farJ (alloc_atJ (by simp)))) (fun _ => True) (some ⟨pb, off, none⟩) p c (x.take p) LTK.out (by rfl) (SA.out _ (by first | exact Below.refl _ _ | exact bel_allocJ (Below.refl _ _) (Nat.le_refl _) _ | exact bel_allocJ (bel_allocJ (Below.refl _ _) (Nat.le_refl _) _) (Nat.le_refl _) _)) H0A.out (by omega) ?_
              intro va wa hown hgrow hat
              have QF := apJF (H := Wd.heap.size) (w0 := Wd) (by first | exact alloc_atJ (by simp) | exact alloc_farJ (alloc_atJ (by simp))) (by first | (dsimp only; omega) | (simp; done)) (by first | exact Below.refl _ _ | exact bel_allocJ (Below.refl _ _) (Nat.le_refl _) _ | exact bel_allocJ (bel_allocJ (Below.refl _ _) (Nat.le_refl _) _) (Nat.le_refl _) _) (Nat.le_refl _) hown hgrow hat
              clear hown hgrow hat
              refine hK.out _ _ (fun _ => SS.out _ QF.below) ?_
              clear hK K
              (try simp only [Act.put, List.setIfInBounds_toArray, List.set_cons_zero, List.set_cons_succ])
              refine until_one (i := 10) (by kernel_rfl) ?_
              refine comes (o := ({ dst := some 76, op := Op.buildSlice 26 1 #[(0, Operand.tmp 75)], type := 26, pos := "ref.go:26", after := #[{ on := 9, ground := Ground.data }], guard := none } : Oper)) rfl (fun K hK => ?_)
              go_simp
              refine hK.out _ _ (fun _ => SS.out _ (bel_allocJ QF.below (Nat.le_refl _) _)) ?_
              clear hK K
              (try simp only [Act.put, List.setIfInBounds_toArray, List.set_cons_zero, List.set_cons_succ])
              refine until_one (i := 11) (by kernel_rfl) ?_
              refine comes (o := ({ dst := some 77, op := Op.call { callee := Callee.builtin Builtin.append, args := #[Operand.tmp 74, Operand.tmp 76], argTypes := #[26, 26] }, type := 26, pos := "ref.go:26", after := #[{ on := 8, ground := Ground.data }, { on := 10, ground := Ground.data }, { on := 8, ground := Ground.chain }], guard := none } : Oper)) rfl (fun K hK => ?_)
              refine step_append_jobs (by rfl) _ _ (by rfl) va p (x.take p) LTK.out (by rfl) (QF.own.alloc _) (fun _ => True) (some ⟨wa.heap.size, 0, none⟩) 1 1 [(⟨b0, b1, b2, b3, b4, b5, b6⟩ : Jb)] rfl (by rfl) ((js_block (l := [(⟨b0, b1, b2, b3, b4, b5, b6⟩ : Jb)]) (alloc_atJ rfl) (c := 1) (by simp)).mono (fun _ _ => trivial)) (fun h => by cases h) (by omega) ?_
              intro vb wb hown hgrow hat
              have QG := apJG QF (bel_allocJ QF.below (Nat.le_refl _) _) (Nat.le_refl _) hown hgrow hat
              clear hown hgrow hat
              refine hK.out _ _ (fun _ => SS.out _ QG.below) ?_
              clear hK K
              (try simp only [Act.put, List.setIfInBounds_toArray, List.set_cons_zero, List.set_cons_succ])
              refine until_one (i := 18) (by kernel_rfl) ?_
              refine comes (o := ({ dst := some 84, op := Op.call { callee := Callee.builtin Builtin.append, args := #[Operand.tmp 77, Operand.tmp 83], argTypes := #[26, 26] }, type := 26, pos := "ref.go:26", after := #[{ on := 11, ground := Ground.data }, { on := 17, ground := Ground.data }, { on := 11, ground := Ground.chain }], guard := none } : Oper)) rfl (fun K hK => ?_)
              refine step_append_jobs (by rfl) _ _ (by rfl) vb (p + 1) (x.take p ++ [(⟨b0, b1, b2, b3, b4, b5, b6⟩ : Jb)]) LN1.out (by rfl) QG.own (fun _ => True) (if c = p then some ⟨pb, off, none⟩ else some ⟨pb, off + p * 7, none⟩) (L - p) (c - p) (x.drop p) LDR.out (by rfl) (SB.out _ QG.below) H0B.out (by omega) ?_
              intro vc wc hown hgrow hat
              obtain ⟨g1, g2⟩ := grownJ hgrow hat QG.below (Nat.le_refl _) QG.ge
              obtain ⟨oa, oc, e, _⟩ := ownsRow_form hown
              subst e
              obtain ⟨⟨l1, l2⟩, LF⟩ := FN.out wc oa oc hown g1 g2
              have LFH := Hid.intro LF
              have g1H := Hid.intro g1
              clear hown hgrow hat g2 LF QG
              refine hK.out _ _ (fun _ => SS.out _ g1) ?_
              clear hK K g1
              (try simp only [Act.put, List.setIfInBounds_toArray, List.set_cons_zero, List.set_cons_succ])
              refine until_one (i := 19) (by kernel_rfl) ?_
              refine comes (o := ({ dst := some 85, op := Op.nilCheck (Operand.tmp 66), type := 0, pos := "ref.go:26", after := #[{ on := 0, ground := Ground.data }, { on := 0, ground := Ground.phase }, { on := 1, ground := Ground.phase }, { on := 2, ground := Ground.phase }, { on := 3, ground := Ground.phase }, { on := 4, ground := Ground.phase }, { on := 5, ground := Ground.phase }, { on := 6, ground := Ground.phase }, { on := 7, ground := Ground.phase }, { on := 8, ground := Ground.phase }, { on := 9, ground := Ground.phase }, { on := 10, ground := Ground.phase }, { on := 11, ground := Ground.phase }, { on := 12, ground := Ground.phase }, { on := 13, ground := Ground.phase }, { on := 14, ground := Ground.phase }, { on := 15, ground := Ground.phase }, { on := 16, ground := Ground.phase }, { on := 17, ground := Ground.phase }, { on := 18, ground := Ground.phase }], guard := none } : Oper)) rfl (fun K hK => ?_)
              go_simp
              refine hK.out _ _ (fun _ => SS.out _ g1H.out) ?_
              clear hK K
              (try simp only [Act.put, List.setIfInBounds_toArray, List.set_cons_zero, List.set_cons_succ])
              refine until_one (i := 20) (by kernel_rfl) ?_
              refine comes (o := ({ dst := some 86, op := Op.fieldAddr 41 (Operand.tmp 85) 0, type := 0, pos := "ref.go:26", after := #[{ on := 19, ground := Ground.data }, { on := 0, ground := Ground.phase }, { on := 1, ground := Ground.phase }, { on := 2, ground := Ground.phase }, { on := 3, ground := Ground.phase }, { on := 4, ground := Ground.phase }, { on := 5, ground := Ground.phase }, { on := 6, ground := Ground.phase }, { on := 7, ground := Ground.phase }, { on := 8, ground := Ground.phase }, { on := 9, ground := Ground.phase }, { on := 10, ground := Ground.phase }, { on := 11, ground := Ground.phase }, { on := 12, ground := Ground.phase }, { on := 13, ground := Ground.phase }, { on := 14, ground := Ground.phase }, { on := 15, ground := Ground.phase }, { on := 16, ground := Ground.phase }, { on := 17, ground := Ground.phase }, { on := 18, ground := Ground.phase }], guard := none } : Oper)) rfl (fun K hK => ?_)
              go_simp
              refine hK.out _ _ (fun _ => SS.out _ g1H.out) ?_
              clear hK K
              (try simp only [Act.put, List.setIfInBounds_toArray, List.set_cons_zero, List.set_cons_succ])
              refine until_one (i := 21) (by kernel_rfl) ?_
              refine comes (o := ({ dst := none, op := Op.store 26 (Operand.tmp 86) (Operand.tmp 84), type := 0, pos := "ref.go:26", after := #[{ on := 20, ground := Ground.data }, { on := 18, ground := Ground.data }, { on := 18, ground := Ground.chain }, { on := 0, ground := Ground.phase }, { on := 1, ground := Ground.phase }, { on := 2, ground := Ground.phase }, { on := 3, ground := Ground.phase }, { on := 4, ground := Ground.phase }, { on := 5, ground := Ground.phase }, { on := 6, ground := Ground.phase }, { on := 7, ground := Ground.phase }, { on := 8, ground := Ground.phase }, { on := 9, ground := Ground.phase }, { on := 10, ground := Ground.phase }, { on := 11, ground := Ground.phase }, { on := 12, ground := Ground.phase }, { on := 13, ground := Ground.phase }, { on := 14, ground := Ground.phase }, { on := 15, ground := Ground.phase }, { on := 16, ground := Ground.phase }, { on := 17, ground := Ground.phase }, { on := 18, ground := Ground.phase }], guard := none } : Oper)) rfl (fun K hK => ?_)
              go_simp
              refine hK.out _ _ (fun q => absurd rfl q) ?_
              clear hK K
              (try simp only [Act.put, List.setIfInBounds_toArray, List.set_cons_zero, List.set_cons_succ])
              refine until_done (by kernel_rfl) ?_ _
              go_wp2
              all_goals
                go_ret
                exact ⟨rfl, LFH.out⟩
            case bDb =>
              refine comes (o := ({ dst := some 76, op := Op.buildSlice 26 1 #[(0, Operand.tmp 75)], type := 26, pos := "ref.go:26", after := #[{ on := 9, ground := Ground.data }], guard := none } : Oper)) rfl (fun K hK => ?_)
              go_simp
              refine hK.out _ _ (fun _ => SS.out _ (by first | exact Below.refl _ _ | exact bel_allocJ (Below.refl _ _) (Nat.le_refl _) _ | exact bel_allocJ (bel_allocJ (Below.refl _ _) (Nat.le_refl _) _) (Nat.le_refl _) _)) ?_
              clear hK K
              (try simp only [Act.put, List.setIfInBounds_toArray, List.set_cons_zero, List.set_cons_succ])
              refine until_one (i := 8) (by kernel_rfl) ?_
              refine comes (o := ({ dst := some 74, op := Op.call { callee := Callee.builtin Builtin.append, args := #[Operand.tmp 67, Operand.tmp 73], argTypes := #[26, 26] }, type := 26, pos := "ref.go:26", after := #[{ on := 1, ground := Ground.data }, { on := 7, ground := Ground.data }], guard := none } : Oper)) rfl (fun K hK => ?_)
              refine step_append_jobs (by rfl) _ _ (by rfl) _ 0 [] rfl (by rfl) (own_emptyJ (by first | exact alloc_atJ (by simp) | exact alloc_farJ (alloc_atJ (by simp)))) (fun _ => True) (some ⟨pb, off, none⟩) p c (x.take p) LTK.out (by rfl) (SA.out _ (by first | exact Below.refl _ _ | exact bel_allocJ (Below.refl _ _) (Nat.le_refl _) _ | exact bel_allocJ (bel_allocJ (Below.refl _ _) (Nat.le_refl _) _) (Nat.le_refl _) _)) H0A.out (by omega) ?_
              intro va wa hown hgrow hat
              have QF := apJF (H := Wd.heap.size) (w0 := Wd) (by first | exact alloc_atJ (by simp) | exact alloc_farJ (alloc_atJ (by simp))) (by first | (dsimp only; omega) | (simp; done)) (by first | exact Below.refl _ _ | exact bel_allocJ (Below.refl _ _) (Nat.le_refl _) _ | exact bel_allocJ (bel_allocJ (Below.refl _ _) (Nat.le_refl _) _) (Nat.le_refl _) _) (Nat.le_refl _) hown hgrow hat
              clear hown hgrow hat
              refine hK.out _ _ (fun _ => SS.out _ QF.below) ?_
              clear hK K
              (try simp only [Act.put, List.setIfInBounds_toArray, List.set_cons_zero, List.set_cons_succ])
              refine until_one (i := 11) (by kernel_rfl) ?_
              refine comes (o := ({ dst := some 77, op := Op.call { callee := Callee.builtin Builtin.append, args := #[Operand.tmp 74, Operand.tmp 76], argTypes := #[26, 26] }, type := 26, pos := "ref.go:26", after := #[{ on := 8, ground := Ground.data }, { on := 10, ground := Ground.data }, { on := 8, ground := Ground.chain }], guard := none } : Oper)) rfl (fun K hK => ?_)
              refine step_append_jobs (by rfl) _ _ (by rfl) va p (x.take p) LTK.out (by rfl) QF.own (fun _ => True) (some ⟨Wd.heap.size + 1, 0, none⟩) 1 1 [(⟨b0, b1, b2, b3, b4, b5, b6⟩ : Jb)] rfl (by rfl) ((js_block (l := [(⟨b0, b1, b2, b3, b4, b5, b6⟩ : Jb)]) (QF.keep _ _ (by first | exact alloc_atJ (by simp) | exact alloc_farJ (alloc_atJ (by simp))) (by simp [jcells, jcell])) (c := 1) (by simp)).mono (fun _ _ => trivial)) (fun h => by cases h) (by omega) ?_
              intro vb wb hown hgrow hat
              have QG := apJG QF QF.below (Nat.le_refl _) hown hgrow hat
              clear hown hgrow hat
              refine hK.out _ _ (fun _ => SS.out _ QG.below) ?_
              clear hK K
              (try simp only [Act.put, List.setIfInBounds_toArray, List.set_cons_zero, List.set_cons_succ])
              refine until_one (i := 18) (by kernel_rfl) ?_
              refine comes (o := ({ dst := some 84, op := Op.call { callee := Callee.builtin Builtin.append, args := #[Operand.tmp 77, Operand.tmp 83], argTypes := #[26, 26] }, type := 26, pos := "ref.go:26", after := #[{ on := 11, ground := Ground.data }, { on := 17, ground := Ground.data }, { on := 11, ground := Ground.chain }], guard := none } : Oper)) rfl (fun K hK => ?_)
              refine step_append_jobs (by rfl) _ _ (by rfl) vb (p + 1) (x.take p ++ [(⟨b0, b1, b2, b3, b4, b5, b6⟩ : Jb)]) LN1.out (by rfl) QG.own (fun _ => True) (if c = p then some ⟨pb, off, none⟩ else some ⟨pb, off + p * 7, none⟩) (L - p) (c - p) (x.drop p) LDR.out (by rfl) (SB.out _ QG.below) H0B.out (by omega) ?_
              intro vc wc hown hgrow hat
              obtain ⟨g1, g2⟩ := grownJ hgrow hat QG.below (Nat.le_refl _) QG.ge
              obtain ⟨oa, oc, e, _⟩ := ownsRow_form hown
              subst e
              obtain ⟨⟨l1, l2⟩, LF⟩ := FN.out wc oa oc hown g1 g2
              have LFH := Hid.intro LF
              have g1H := Hid.intro g1
              clear hown hgrow hat g2 LF QG
              refine hK.out _ _ (fun _ => SS.out _ g1) ?_
              clear hK K g1
              (try simp only [Act.put, List.setIfInBounds_toArray, List.set_cons_zero, List.set_cons_succ])
              refine until_one (i := 19) (by kernel_rfl) ?_
              refine comes (o := ({ dst := some 85, op := Op.nilCheck (Operand.tmp 66), type := 0, pos := "ref.go:26", after := #[{ on := 0, ground := Ground.data }, { on := 0, ground := Ground.phase }, { on := 1, ground := Ground.phase }, { on := 2, ground := Ground.phase }, { on := 3, ground := Ground.phase }, { on := 4, ground := Ground.phase }, { on := 5, ground := Ground.phase }, { on := 6, ground := Ground.phase }, { on := 7, ground := Ground.phase }, { on := 8, ground := Ground.phase }, { on := 9, ground := Ground.phase }, { on := 10, ground := Ground.phase }, { on := 11, ground := Ground.phase }, { on := 12, ground := Ground.phase }, { on := 13, ground := Ground.phase }, { on := 14, ground := Ground.phase }, { on := 15, ground := Ground.phase }, { on := 16, ground := Ground.phase }, { on := 17, ground := Ground.phase }, { on := 18, ground := Ground.phase }], guard := none } : Oper)) rfl (fun K hK => ?_)
              go_simp
              refine hK.out _ _ (fun _ => SS.out _ g1H.out) ?_
              clear hK K
              (try simp only [Act.put, List.setIfInBounds_toArray, List.set_cons_zero, List.set_cons_succ])
              refine until_one (i := 20) (by kernel_rfl) ?_
              refine comes (o := ({ dst := some 86, op := Op.fieldAddr 41 (Operand.tmp 85) 0, type := 0, pos := "ref.go:26", after := #[{ on := 19, ground := Ground.data }, { on := 0, ground := Ground.phase }, { on := 1, ground := Ground.phase }, { on := 2, ground := Ground.phase }, { on := 3, ground := Ground.phase }, { on := 4, ground := Ground.phase }, { on := 5, ground := Ground.phase }, { on := 6, ground := Ground.phase }, { on := 7, ground := Ground.phase }, { on := 8, ground := Ground.phase }, { on := 9, ground := Ground.phase }, { on := 10, ground := Ground.phase }, { on := 11, ground := Ground.phase }, { on := 12, ground := Ground.phase }, { on := 13, ground := Ground.phase }, { on := 14, ground := Ground.phase }, { on := 15, ground := Ground.phase }, { on := 16, ground := Ground.phase }, { on := 17, ground := Ground.phase }, { on := 18, ground := Ground.phase }], guard := none } : Oper)) rfl (fun K hK => ?_)
              go_simp
              refine hK.out _ _ (fun _ => SS.out _ g1H.out) ?_
              clear hK K
              (try simp only [Act.put, List.setIfInBounds_toArray, List.set_cons_zero, List.set_cons_succ])
              refine until_one (i := 21) (by kernel_rfl) ?_
              refine comes (o := ({ dst := none, op := Op.store 26 (Operand.tmp 86) (Operand.tmp 84), type := 0, pos := "ref.go:26", after := #[{ on := 20, ground := Ground.data }, { on := 18, ground := Ground.data }, { on := 18, ground := Ground.chain }, { on := 0, ground := Ground.phase }, { on := 1, ground := Ground.phase }, { on := 2, ground := Ground.phase }, { on := 3, ground := Ground.phase }, { on := 4, ground := Ground.phase }, { on := 5, ground := Ground.phase }, { on := 6, ground := Ground.phase }, { on := 7, ground := Ground.phase }, { on := 8, ground := Ground.phase }, { on := 9, ground := Ground.phase }, { on := 10, ground := Ground.phase }, { on := 11, ground := Ground.phase }, { on := 12, ground := Ground.phase }, { on := 13, ground := Ground.phase }, { on := 14, ground := Ground.phase }, { on := 15, ground := Ground.phase }, { on := 16, ground := Ground.phase }, { on := 17, ground := Ground.phase }, { on := 18, ground := Ground.phase }], guard := none } : Oper)) rfl (fun K hK => ?_)
              go_simp
              refine hK.out _ _ (fun q => absurd rfl q) ?_
              clear hK K
              (try simp only [Act.put, List.setIfInBounds_toArray, List.set_cons_zero, List.set_cons_succ])
              refine until_done (by kernel_rfl) ?_ _
              go_wp2
              all_goals
                go_ret
                exact ⟨rfl, LFH.out⟩
          case bBb =>
            refine comes (o := ({ dst := some 76, op := Op.buildSlice 26 1 #[(0, Operand.tmp 75)], type := 26, pos := "ref.go:26", after := #[{ on := 9, ground := Ground.data }], guard := none } : Oper)) rfl (fun K hK => ?_)
            go_simp
            refine hK.out _ _ (fun _ => SS.out _ (by first | exact Below.refl _ _ | exact bel_allocJ (Below.refl _ _) (Nat.le_refl _) _ | exact bel_allocJ (bel_allocJ (Below.refl _ _) (Nat.le_refl _) _) (Nat.le_refl _) _)) ?_
            clear hK K
            (try simp only [Act.put, List.setIfInBounds_toArray, List.set_cons_zero, List.set_cons_succ])
            refine until_one (i := 1) (by kernel_rfl) ?_
            refine comes (o := ({ dst := some 67, op := Op.buildSlice 26 0 #[], type := 26, pos := "ref.go:26", after := #[], guard := none } : Oper)) rfl (fun K hK => ?_)
            go_simp
            refine hK.out _ _ (fun _ => SS.out _ (by first | exact Below.refl _ _ | exact bel_allocJ (Below.refl _ _) (Nat.le_refl _) _ | exact bel_allocJ (bel_allocJ (Below.refl _ _) (Nat.le_refl _) _) (Nat.le_refl _) _)) ?_
            clear hK K
            (try simp only [Act.put, List.setIfInBounds_toArray, List.set_cons_zero, List.set_cons_succ])
            refine until_one (i := 8) (by kernel_rfl) ?_
            refine comes (o := ({ dst := some 74, op := Op.call { callee := Callee.builtin Builtin.append, args := #[Operand.tmp 67, Operand.tmp 73], argTypes := #[26, 26] }, type := 26, pos := "ref.go:26", after := #[{ on := 1, ground := Ground.data }, { on := 7, ground := Ground.data }], guard := none } : Oper)) rfl (fun K hK => ?_)
            refine step_append_jobs (by rfl) _ _ (by rfl) _ 0 [] rfl (by rfl) (own_emptyJ (by first | exact alloc_atJ (by simp) | exact alloc_farJ (alloc_atJ (by simp)))) (fun _ => True) (some ⟨pb, off, none⟩) p c (x.take p) LTK.out (by rfl) (SA.out _ (by first | exact Below.refl _ _ | exact bel_allocJ (Below.refl _ _) (Nat.le_refl _) _ | exact bel_allocJ (bel_allocJ (Below.refl _ _) (Nat.le_refl _) _) (Nat.le_refl _) _)) H0A.out (by omega) ?_
            intro va wa hown hgrow hat
            have QF := apJF (H := Wd.heap.size) (w0 := Wd) (by first | exact alloc_atJ (by simp) | exact alloc_farJ (alloc_atJ (by simp))) (by first | (dsimp only; omega) | (simp; done)) (by first | exact Below.refl _ _ | exact bel_allocJ (Below.refl _ _) (Nat.le_refl _) _ | exact bel_allocJ (bel_allocJ (Below.refl _ _) (Nat.le_refl _) _) (Nat.le_refl _) _) (Nat.le_refl _) hown hgrow hat
            clear hown hgrow hat
            refine hK.out _ _ (fun _ => SS.out _ QF.below) ?_
            clear hK K
            (try simp only [Act.put, List.setIfInBounds_toArray, List.set_cons_zero, List.set_cons_succ])
            refine until_one (i := 11) (by kernel_rfl) ?_
            refine comes (o := ({ dst := some 77, op := Op.call { callee := Callee.builtin Builtin.append, args := #[Operand.tmp 74, Operand.tmp 76], argTypes := #[26, 26] }, type := 26, pos := "ref.go:26", after := #[{ on := 8, ground := Ground.data }, { on := 10, ground := Ground.data }, { on := 8, ground := Ground.chain }], guard := none } : Oper)) rfl (fun K hK => ?_)
            refine step_append_jobs (by rfl) _ _ (by rfl) va p (x.take p) LTK.out (by rfl) QF.own (fun _ => True) (some ⟨Wd.heap.size, 0, none⟩) 1 1 [(⟨b0, b1, b2, b3, b4, b5, b6⟩ : Jb)] rfl (by rfl) ((js_block (l := [(⟨b0, b1, b2, b3, b4, b5, b6⟩ : Jb)]) (QF.keep _ _ (by first | exact alloc_atJ (by simp) | exact alloc_farJ (alloc_atJ (by simp))) (by simp [jcells, jcell])) (c := 1) (by simp)).mono (fun _ _ => trivial)) (fun h => by cases h) (by omega) ?_
            intro vb wb hown hgrow hat
            have QG := apJG QF QF.below (Nat.le_refl _) hown hgrow hat
            clear hown hgrow hat
            refine hK.out _ _ (fun _ => SS.out _ QG.below) ?_
            clear hK K
            (try simp only [Act.put, List.setIfInBounds_toArray, List.set_cons_zero, List.set_cons_succ])
            refine until_one (i := 18) (by kernel_rfl) ?_
            refine comes (o := ({ dst := some 84, op := Op.call { callee := Callee.builtin Builtin.append, args := #[Operand.tmp 77, Operand.tmp 83], argTypes := #[26, 26] }, type := 26, pos := "ref.go:26", after := #[{ on := 11, ground := Ground.data }, { on := 17, ground := Ground.data }, { on := 11, ground := Ground.chain }], guard := none } : Oper)) rfl (fun K hK => ?_)
            refine step_append_jobs (by rfl) _ _ (by rfl) vb (p + 1) (x.take p ++ [(⟨b0, b1, b2, b3, b4, b5, b6⟩ : Jb)]) LN1.out (by rfl) QG.own (fun _ => True) (if c = p then some ⟨pb, off, none⟩ else some ⟨pb, off + p * 7, none⟩) (L - p) (c - p) (x.drop p) LDR.out (by rfl) (SB.out _ QG.below) H0B.out (by omega) ?_
            intro vc wc hown hgrow hat
            obtain ⟨g1, g2⟩ := grownJ hgrow hat QG.below (Nat.le_refl _) QG.ge
            obtain ⟨oa, oc, e, _⟩ := ownsRow_form hown
            subst e
            obtain ⟨⟨l1, l2⟩, LF⟩ := FN.out wc oa oc hown g1 g2
            have LFH := Hid.intro LF
            have g1H := Hid.intro g1
            clear hown hgrow hat g2 LF QG
            refine hK.out _ _ (fun _ => SS.out _ g1) ?_
            clear hK K g1
            (try simp only [Act.put, List.setIfInBounds_toArray, List.set_cons_zero, List.set_cons_succ])
            refine until_one (i := 19) (by kernel_rfl) ?_
            refine comes (o := ({ dst := some 85, op := Op.nilCheck (Operand.tmp 66), type := 0, pos := "ref.go:26", after := #[{ on := 0, ground := Ground.data }, { on := 0, ground := Ground.phase }, { on := 1, ground := Ground.phase }, { on := 2, ground := Ground.phase }, { on := 3, ground := Ground.phase }, { on := 4, ground := Ground.phase }, { on := 5, ground := Ground.phase }, { on := 6, ground := Ground.phase }, { on := 7, ground := Ground.phase }, { on := 8, ground := Ground.phase }, { on := 9, ground := Ground.phase }, { on := 10, ground := Ground.phase }, { on := 11, ground := Ground.phase }, { on := 12, ground := Ground.phase }, { on := 13, ground := Ground.phase }, { on := 14, ground := Ground.phase }, { on := 15, ground := Ground.phase }, { on := 16, ground := Ground.phase }, { on := 17, ground := Ground.phase }, { on := 18, ground := Ground.phase }], guard := none } : Oper)) rfl (fun K hK => ?_)
            go_simp
            refine hK.out _ _ (fun _ => SS.out _ g1H.out) ?_
            clear hK K
            (try simp only [Act.put, List.setIfInBounds_toArray, List.set_cons_zero, List.set_cons_succ])
            refine until_one (i := 20) (by kernel_rfl) ?_
            refine comes (o := ({ dst := some 86, op := Op.fieldAddr 41 (Operand.tmp 85) 0, type := 0, pos := "ref.go:26", after := #[{ on := 19, ground := Ground.data }, { on := 0, ground := Ground.phase }, { on := 1, ground := Ground.phase }, { on := 2, ground := Ground.phase }, { on := 3, ground := Ground.phase }, { on := 4, ground := Ground.phase }, { on := 5, ground := Ground.phase }, { on := 6, ground := Ground.phase }, { on := 7, ground := Ground.phase }, { on := 8, ground := Ground.phase }, { on := 9, ground := Ground.phase }, { on := 10, ground := Ground.phase }, { on := 11, ground := Ground.phase }, { on := 12, ground := Ground.phase }, { on := 13, ground := Ground.phase }, { on := 14, ground := Ground.phase }, { on := 15, ground := Ground.phase }, { on := 16, ground := Ground.phase }, { on := 17, ground := Ground.phase }, { on := 18, ground := Ground.phase }], guard := none } : Oper)) rfl (fun K hK => ?_)
            go_simp
            refine hK.out _ _ (fun _ => SS.out _ g1H.out) ?_
            clear hK K
            (try simp only [Act.put, List.setIfInBounds_toArray, List.set_cons_zero, List.set_cons_succ])
            refine until_one (i := 21) (by kernel_rfl) ?_
            refine comes (o := ({ dst := none, op := Op.store 26 (Operand.tmp 86) (Operand.tmp 84), type := 0, pos := "ref.go:26", after := #[{ on := 20, ground := Ground.data }, { on := 18, ground := Ground.data }, { on := 18, ground := Ground.chain }, { on := 0, ground := Ground.phase }, { on := 1, ground := Ground.phase }, { on := 2, ground := Ground.phase }, { on := 3, ground := Ground.phase }, { on := 4, ground := Ground.phase }, { on := 5, ground := Ground.phase }, { on := 6, ground := Ground.phase }, { on := 7, ground := Ground.phase }, { on := 8, ground := Ground.phase }, { on := 9, ground := Ground.phase }, { on := 10, ground := Ground.phase }, { on := 11, ground := Ground.phase }, { on := 12, ground := Ground.phase }, { on := 13, ground := Ground.phase }, { on := 14, ground := Ground.phase }, { on := 15, ground := Ground.phase }, { on := 16, ground := Ground.phase }, { on := 17, ground := Ground.phase }, { on := 18, ground := Ground.phase }], guard := none } : Oper)) rfl (fun K hK => ?_)
            go_simp
            refine hK.out _ _ (fun q => absurd rfl q) ?_
            clear hK K
            (try simp only [Act.put, List.setIfInBounds_toArray, List.set_cons_zero, List.set_cons_succ])
            refine until_done (by kernel_rfl) ?_ _
            go_wp2
            all_goals
              go_ret
              exact ⟨rfl, LFH.out⟩

theorem refPush12_any (rb : Nat) (j : Jb) (S : Nat → Prop) (x : List Jb) (w : World) (hc : RQue S w rb x) :
    Calls Try.prog 18 #[.pointer (some ⟨rb, 0, none⟩), Jv j] w fun e w' => e = .returned (.int .i64 (pushE' x j)) ∧ LeftR S w w' rb (pushQ x j) := refPush12_in rb j.bed j.kind j.tick j.value j.since j.dl j.left S x w hc

end Go.Proofs.Ytgcpkploeobafaa
