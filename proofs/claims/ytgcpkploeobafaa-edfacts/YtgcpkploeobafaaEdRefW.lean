/- The document's own Work of layer 12: unit by unit. -/
import Derived.Test.YtgcpkploeobafaaEdRefD
namespace Go.Proofs.Ytgcpkploeobafaa
open Go.RowKit
open Bt

theorem work_one_done {j : Jb} {r : List Jb} (h : j.left = 1) : workD (j :: r) 1 = [zeroJ j] ∧ workR (j :: r) 1 = r := by
  have q : j.left ≤ ((1 : Nat) : Int) := by omega
  have z : (1 : Nat) - j.left.toNat = 0 := by omega
  exact ⟨by rw [workD, if_neg (show ¬ (1 : Nat) = 0 by decide), if_pos q, z, (work_zero r).1], by rw [workR, if_neg (show ¬ (1 : Nat) = 0 by decide), if_pos q, z, (work_zero r).2.1]⟩

theorem work_one_less {j : Jb} {r : List Jb} (h : 1 < j.left) : workD (j :: r) 1 = [] ∧ workR (j :: r) 1 = { j with left := j.left - 1 } :: r := by
  have q : ¬ j.left ≤ ((1 : Nat) : Int) := by omega
  exact ⟨by rw [workD, if_neg (show ¬ (1 : Nat) = 0 by decide), if_neg q], by rw [workR, if_neg (show ¬ (1 : Nat) = 0 by decide), if_neg q]; rfl⟩

theorem workN_one {j : Jb} {r : List Jb} (h : 1 ≤ j.left) : workN (j :: r) 1 = 0 := by
  rw [workN, if_neg (by decide)]
  split
  · have z : (1 : Nat) - j.left.toNat = 0 := by omega
    rw [z, (work_zero r).2.2]
  · rfl

theorem workN_step {x r : List Jb} {j : Jb} {i : Nat} (hx : AllJ x) (h0 : workN x i = 0) (hr : workR x i = j :: r) (hj : AllJ (j :: r)) : workN x (i + 1) = 0 := by
  have a := work_sum hx i
  have b := work_sum hx (i + 1)
  have c := work_sum hj 1
  have d := (work_add hx i 1).2
  have e := workN_one (r := r) (mayJ_true (hj j (by simp))).1.1
  rw [hr] at a d
  rw [d] at b
  rw [e] at c
  rw [h0] at a
  omega

theorem workD_len' (x : List Jb) (u : Nat) : (workD x u).length ≤ x.length := by
  induction x generalizing u with
  | nil => simp [workD]
  | cons j x ih =>
    unfold workD
    split
    · simp
    · split
      · simp only [List.length_cons]
        have := ih (u - j.left.toNat)
        omega
      · simp

theorem work_end {x : List Jb} {i U : Nat} (hx : AllJ x) (h0 : workN x i = 0) (hr : workR x i = []) (hi : i ≤ U) : workD x U = workD x i ∧ workR x U = [] ∧ workN x U = U - i := by
  obtain ⟨d, rfl⟩ : ∃ d, U = i + d := ⟨U - i, by omega⟩
  have a := work_add hx i d
  rw [hr] at a
  have e1 : workD ([] : List Jb) d = [] := rfl
  have e2 : workR ([] : List Jb) d = [] := rfl
  rw [e1, e2, List.append_nil] at a
  have b := work_sum hx (i + d)
  have c := work_sum hx i
  rw [a.2] at b
  rw [hr, h0] at c
  exact ⟨a.1, a.2, by omega⟩

/-- How a queue with a first job lies. -/
theorem RQ.first {S : Nat → Prop} {w : World} {rb : Nat} {v : Value} {j : Jb} {r : List Jb} (h : RQ S w rb v (j :: r)) : ∃ g off c cur, v = .slice (some ⟨g, off, none⟩) (r.length + 1) c ∧ r.length + 1 ≤ c ∧ S g ∧ g ≠ rb ∧ w.heap[g]? = some (.cells cur 38 (0, 0)) ∧ JobAt w g off j ∧ ∀ t, (ht : t < r.length) → JobAt w g (off + 7 + t * 7) r[t] := by
  obtain ⟨ao, c, rfl, hr, hp⟩ := h.js
  obtain ⟨g, off, rfl, ⟨s1, s2, cur, s3⟩, hc⟩ := hp (by simp)
  have j0 := hc 0 (by simp)
  rw [Nat.zero_mul, Nat.add_zero] at j0
  refine ⟨g, off, c, cur, rfl, hr.1, s1, s2, s3, j0, fun t ht => ?_⟩
  have q := hc (t + 1) (by simpa using ht)
  rw [show off + 7 + t * 7 = off + (t + 1) * 7 by omega]
  exact q

theorem cell_near {w : World} {g o p : Nat} {u v : Value} (h : w.cell? ⟨g, p, none⟩ = some v) (hne : p ≠ o) : (w.setCell ⟨g, o, none⟩ u).cell? ⟨g, p, none⟩ = some v := by
  rw [World.cell?_setCell_other _ _ _ _ (fun q => hne (by have := congrArg Addr.off q; simpa using this.symm))]
  exact h

/-- The first job has a unit less. -/
theorem RQ.less {S : Nat → Prop} {w : World} {rb g off c : Nat} {cur : Array Value} {j : Jb} {r : List Jb} (h : RQ S w rb (.slice (some ⟨g, off, none⟩) (r.length + 1) c) (j :: r)) (hne : g ≠ rb) (hb : w.heap[g]? = some (.cells cur 38 (0, 0))) (hj : JobAt w g off j) (hr : ∀ t, (ht : t < r.length) → JobAt w g (off + 7 + t * 7) r[t]) (k : Int) :
    (w.setCell ⟨g, off + 6, none⟩ (.int .i64 k)).heap[rb]? = some (.cells #[.slice (some ⟨g, off, none⟩) (r.length + 1) c] 41 (0, 0)) ∧ JobAt (w.setCell ⟨g, off + 6, none⟩ (.int .i64 k)) g off { j with left := k } ∧ (∀ t, (ht : t < r.length) → JobAt (w.setCell ⟨g, off + 6, none⟩ (.int .i64 k)) g (off + 7 + t * 7) r[t]) ∧ (∃ cur', (w.setCell ⟨g, off + 6, none⟩ (.int .i64 k)).heap[g]? = some (.cells cur' 38 (0, 0))) := by
  obtain ⟨c0, c1, c2, c3, c4, c5, c6⟩ := hj
  refine ⟨(heap_setCell_other w ⟨g, off + 6, none⟩ rb _ (by simpa using fun q => hne q.symm)).trans h.head, ⟨cell_near c0 (by omega), cell_near c1 (by omega), cell_near c2 (by omega), cell_near c3 (by omega), cell_near c4 (by omega), cell_near c5 (by omega), World.cell?_setCell_same _ _ _ c6⟩, fun t ht => ?_, ⟨_, heap_setCell_same w g (off + 6) _ _ _ hb⟩⟩
  obtain ⟨e0, e1, e2, e3, e4, e5, e6⟩ := hr t ht
  exact ⟨cell_near e0 (by omega), cell_near e1 (by omega), cell_near e2 (by omega), cell_near e3 (by omega), cell_near e4 (by omega), cell_near e5 (by omega), cell_near e6 (by omega)⟩

/-- A tick of work under way. -/
structure WkR (S : Nat → Prop) (w : World) (rb : Nat) (x : List Jb) (i m : Nat) (dv qv : Value) (ws : World) : Prop where
  que : RQ S ws rb qv (workR x i)
  dn : Mk w.heap.size ws dv m (workD x i)
  chg : Chg S w ws
  non : workN x i = 0

/-- The queue is as it was, but for a unit of its first. -/
theorem WkR.less {S : Nat → Prop} {w ws : World} {rb i m g off c : Nat} {x r : List Jb} {j : Jb} {dv : Value} {cur : Array Value} (hx : QOk x) (hS : ∀ k, S k → k < w.heap.size) (h : WkR S w rb x i m dv (.slice (some ⟨g, off, none⟩) (r.length + 1) c) ws) (hr0 : workR x i = j :: r) (hcap : r.length + 1 ≤ c) (hSg : S g) (hne : g ≠ rb) (hb : ws.heap[g]? = some (.cells cur 38 (0, 0))) (hj : JobAt ws g off j) (hr : ∀ t, (ht : t < r.length) → JobAt ws g (off + 7 + t * 7) r[t]) (h1 : 1 < j.left) :
    WkR S w rb x (i + 1) m dv (.slice (some ⟨g, off, none⟩) (r.length + 1) c) (ws.setCell ⟨g, off + 6, none⟩ (.int .i64 (j.left - 1))) := by
  have hq := h.que
  rw [hr0] at hq
  obtain ⟨a1, a2, a3, cur', a4⟩ := hq.less hne hb hj hr (j.left - 1)
  have add := work_add hx.all i 1
  have one := work_one_less (r := r) h1
  rw [hr0, one.1, one.2, List.append_nil] at add
  have C : Chg (fun k => k = g) ws (ws.setCell ⟨g, off + 6, none⟩ (.int .i64 (j.left - 1))) := Chg.setCell (S := fun k => k = g) (Chg.refl _ ws) (fun _ => rfl) _
  have hsz := h.chg.size
  refine ⟨?_, ?_, h.chg.trans C (fun k hk _ => by subst hk; exact hSg), workN_step hx.all h.non hr0 (by rw [← hr0]; exact (workR_ok hx i).all)⟩
  · have ok' := workR_ok hx (i + 1)
    rw [add.2] at ok' ⊢
    refine ⟨a1, h.que.inB, ⟨some ⟨g, off, none⟩, c, rfl, ⟨hcap, fun q => by cases q⟩, fun _ => ⟨g, off, rfl, ⟨hSg, hne, cur', a4⟩, fun t ht => ?_⟩⟩, fun k hk => Nat.lt_of_lt_of_le (h.que.lt k hk) C.size, ok'⟩
    cases t with
    | zero => rw [Nat.zero_mul, Nat.add_zero]; exact a2
    | succ t =>
      rw [show off + (t + 1) * 7 = off + 7 + t * 7 by omega]
      exact a3 t (by simpa using ht)
  · rw [add.1]
    exact ⟨h.dn.len, ownsRow_keep h.dn.own fun k hk => C.block k (World.ownsRow.lt h.dn.own k hk).2 (fun q => by have := h.dn.new k hk; have := hS g hSg; omega), h.dn.new⟩

/-- The first one is done, and goes. -/
theorem WkR.done {S : Nat → Prop} {w ws wb : World} {rb i m g off c : Nat} {x r : List Jb} {j : Jb} {dv v' : Value} {cur : Array Value} (hx : QOk x) (hS : ∀ k, S k → k < w.heap.size) (h : WkR S w rb x i m dv (.slice (some ⟨g, off, none⟩) (r.length + 1) c) ws) (hr0 : workR x i = j :: r) (hcap : r.length + 1 ≤ c) (hSg : S g) (hne : g ≠ rb) (hb : ws.heap[g]? = some (.cells cur 38 (0, 0))) (hj : JobAt ws g off j) (hr : ∀ t, (ht : t < r.length) → JobAt ws g (off + 7 + t * 7) r[t]) (h1 : j.left = 1)
    (o : Obj) (hown : wb.ownsRow 0 38 7 v' (m + 1) (jcells (workD x i ++ [zeroJ j]))) (hgrow : ((ws.setCell ⟨g, off + 6, none⟩ (.int .i64 0)).alloc o).grownBy wb dv.ownBlock) (hat : v'.ownBlock = dv.ownBlock ∨ v'.ownBlock = some ((ws.setCell ⟨g, off + 6, none⟩ (.int .i64 0)).alloc o).heap.size)
    (ao : Option Addr) (hao : 0 < r.length → ao = some ⟨g, off + 7, none⟩) (hnn : ao = none → c - 1 = 0) :
    (wb.cell? ⟨rb, 0, none⟩ = some (.slice (some ⟨g, off, none⟩) (r.length + 1) c) ∧ wb.frozen? ⟨rb, 0, none⟩ = false) ∧ WkR S w rb x (i + 1) (m + 1) v' (.slice ao r.length (c - 1)) (wb.setCell ⟨rb, 0, none⟩ (.slice ao r.length (c - 1))) := by
  have hq := h.que
  rw [hr0] at hq
  obtain ⟨a1, a2, a3, cur', a4⟩ := hq.less hne hb hj hr 0
  have add := work_add hx.all i 1
  have one := work_one_done (r := r) h1
  rw [hr0, one.1, one.2] at add
  have hsz := h.chg.size
  have C : Chg (fun k => k = g) ws (ws.setCell ⟨g, off + 6, none⟩ (.int .i64 0)) := Chg.setCell (S := fun k => k = g) (Chg.refl _ ws) (fun _ => rfl) _
  have C2 : Chg (fun k => dv.ownBlock = some k) (ws.setCell ⟨g, off + 6, none⟩ (.int .i64 0)) wb := ((Chg.refl _ _).alloc o).grown hgrow (fun k hk _ => hk)
  have hdv : ∀ k, dv.ownBlock = some k → ¬ S k := fun k hk q => by have := h.dn.new k hk; have := hS k q; omega
  have hrb := hS rb h.que.inB
  have hg := hS g hSg
  have n1 := (C2.block rb (lt_of_heap a1) (fun q => hdv rb q h.que.inB)).trans a1
  have n2 := (C2.block g (lt_of_heap a4) (fun q => hdv g q hSg)).trans a4
  have C3 : Chg (fun k => k = rb) wb (wb.setCell ⟨rb, 0, none⟩ (.slice ao r.length (c - 1))) := Chg.setCell (S := fun k => k = rb) (Chg.refl _ wb) (fun _ => rfl) _
  have h3 := heap_setCell_same wb rb 0 _ _ (.slice ao r.length (c - 1)) n1
  have CW : Chg S w wb := (h.chg.trans C (fun k hk _ => by subst hk; exact hSg)).trans C2 (fun k hk hk2 => by have := h.dn.new k hk; omega)
  have hnew : ∀ k, v'.ownBlock = some k → w.heap.size ≤ k := fun k hk => by
    rcases hat with e | e
    · rw [e] at hk; exact h.dn.new k hk
    · rw [e] at hk
      have e1 := Option.some.inj hk
      have := C.size
      rw [World.size_alloc] at e1
      omega
  refine ⟨⟨by rw [cell_of_row _ _ 0 _ _ _ n1]; rfl, frozen_of_row wb rb 0 _ _ n1⟩, ?_, ?_, CW.trans C3 (fun k hk _ => by subst hk; exact h.que.inB), workN_step hx.all h.non hr0 (by rw [← hr0]; exact (workR_ok hx i).all)⟩
  · have ok' := workR_ok hx (i + 1)
    rw [add.2] at ok' ⊢
    refine ⟨by rw [h3]; rfl, h.que.inB, ⟨ao, c - 1, rfl, ⟨by omega, hnn⟩, fun h0 => ⟨g, off + 7, hao h0, ⟨hSg, hne, cur', (C3.block g (lt_of_heap n2) hne).trans n2⟩, fun t ht => ?_⟩⟩, fun k hk => Nat.lt_of_lt_of_le (hS k hk) (Nat.le_trans CW.size C3.size), ok'⟩
    exact ((a3 t ht).chg C2 (fun q => hdv g q hSg)).chg C3 hne
  · rw [add.1]
    refine ⟨by rw [List.length_append, h.dn.len]; rfl, ownsRow_keep hown fun k hk => C3.block k (World.ownsRow.lt hown k hk).2 (fun q => by have := hnew k hk; omega), hnew⟩

set_option maxRecDepth 100000 in
set_option maxHeartbeats 4000000 in
theorem refWork12_nat (rb : Nat) (U : Nat) (hU : U ≤ 100000) (S : Nat → Prop) (x : List Jb) (w : World) (hc : RQue S w rb x) :
    Calls Try.prog 21 #[.pointer (some ⟨rb, 0, none⟩), .int .i64 (U : Int)] w fun e w' => ∃ v, e = .returned (.tuple #[v, .int .i64 (workN x U : Int)]) ∧ LeftRJ S w w' rb (workR x U) v (workD x U) := by
  obtain ⟨v, h⟩ := hc
  have OK := Hid.intro h.ok
  have HLT := Hid.intro h.lt
  have few := h.ok.few
  have ST : Hid (WkR S w rb x 0 0 (.slice none 0 0) v w) := ⟨by rw [(work_zero x).2.1]; exact h, by rw [(work_zero x).1]; exact mk_start _ _, Chg.refl _ _, (work_zero x).2.2⟩
  obtain ⟨NU, hNU⟩ : ∃ NU, NU = workN x U := ⟨_, rfl⟩
  rw [← hNU]
  have HNU := Hid.intro hNU
  clear h hNU
  go_enter Try.func21, Try.ntmps21
  go_wp2_with fail
  go_loopw [1, 6] (fun uv dv ws => ∃ (i m n : Nat) (qv : Value), i + n = U ∧ uv = .int .i64 (n : Int) ∧ WkR S w rb x i m dv qv ws) (fun uv _ _ => (intOf uv).toNat)
  case atStart => exact ⟨0, 0, U, v, by omega, rfl, ST.out⟩
  case round =>
    obtain ⟨i, m, n, qv, hin, rfl, hW⟩ := hrel
    have WH := Hid.intro hW
    have cq := hW.que.cell
    obtain ⟨da, dc, rfl⟩ := hW.dn.form
    have mlen : m ≤ 40 := by
      have a := hW.dn.len
      have b := workD_len' x i
      omega
    obtain ⟨qa, qc, hqv, hroom, _⟩ := hW.que.js
    have FIN : Hid (∀ y, y = workR x i → (n = 0 ∨ y = []) → NU = n ∧ LeftRJ S w wr rb (workR x U) (.slice da m dc) (workD x U)) := fun y hy hor => by
      have key : workD x U = workD x i ∧ workR x U = workR x i ∧ workN x U = n := by
        rcases hor with q | q
        · obtain rfl : i = U := by omega
          exact ⟨rfl, rfl, by rw [WH.out.non, q]⟩
        · rw [q] at hy
          obtain ⟨k1, k2, k3⟩ := work_end OK.out.all WH.out.non hy.symm (show i ≤ U by omega)
          exact ⟨k1, by rw [k2, ← hy], by rw [k3]; omega⟩
      refine ⟨by rw [HNU.out]; exact key.2.2, ?_⟩
      rw [key.1, key.2.1]
      have own := WH.out.dn.own
      have e := WH.out.dn.len
      refine ⟨S, js_of_owns (by rw [← e]; exact own) (fun k hk => ⟨WH.out.dn.new k hk, (World.ownsRow.lt own k hk).2, fun q => by have := HLT.out k q; have := WH.out.dn.new k hk; omega⟩), ⟨qv, WH.out.que⟩, WH.out.chg, fun k hk => .inl hk⟩
    clear hW
    cases hy : workR x i with
    | nil =>
      rw [hy] at hqv
      subst hqv
      obtain ⟨hn2, LF⟩ := FIN.out [] hy.symm (.inr rfl)
      subst hn2
      have LH := Hid.intro LF
      simp only [List.length_nil] at cq
      clear hy FIN LF hroom WH
      by_cases hn : 0 < NU
      · have n1 : (0 : Int) < (NU : Int) := by omega
        go_wp2
        go_ret2
        exact ⟨_, rfl, LH.out⟩
      · obtain rfl : NU = 0 := by omega
        go_wp2
        go_ret2
        exact ⟨_, rfl, LH.out⟩
    | cons j r =>
      rw [hy] at hqv hroom
      by_cases hn : n = 0
      · subst hn
        obtain ⟨rfl, LF⟩ := FIN.out _ hy.symm (.inl rfl)
        have LH := Hid.intro LF
        clear hy FIN LF hroom WH hqv
        go_wp2
        go_ret2
        exact ⟨_, rfl, LH.out⟩
      · have n1 : (0 : Int) < (n : Int) := by omega
        have HY := Hid.intro hy
        have hq := WH.out.que
        rw [hy] at hq
        obtain ⟨g, off, c, cur, hv2, hcap, hSg, hne, hb, hj, hrr⟩ := hq.first
        subst hv2
        have j1 := mayJ_true (hq.ok.all j (by simp))
        have rl : r.length + 1 ≤ 40 := by have := hq.ok.few; simpa using this
        have HB := Hid.intro hb
        have HJ := Hid.intro hj
        have HR := Hid.intro hrr
        obtain ⟨n', rfl⟩ : ∃ n', n = n' + 1 := ⟨n - 1, by omega⟩
        obtain ⟨b0, b1, b2, b3, b4, b5, b6⟩ := j
        obtain ⟨c0, c1, c2, c3, c4, c5, c6⟩ := hj
        simp only at c0 c1 c2 c3 c4 c5 c6 j1
        have f6 : wr.frozen? ⟨g, off + 6, none⟩ = false := frozen_of_row wr g (off + 6) _ _ hb
        have cr : ∀ u, (wr.setCell ⟨g, off + 6, none⟩ u).cell? ⟨rb, 0, none⟩ = some (.slice (some ⟨g, off, none⟩) (r.length + 1) c) := fun u => by
          rw [World.cell?_setCell_other _ _ _ _ (fun q => hne (congrArg Addr.block q))]
          exact cq
        have LESS := Hid.intro (fun (e : 1 < b6) => WH.out.less OK.out HLT.out HY.out hcap hSg hne HB.out HJ.out HR.out e)
        have DONE := Hid.intro (fun (e : b6 = 1) (wb : World) (v' : Value) (o : Obj) hown hgrow hat ao hao hnn => WH.out.done (wb := wb) (v' := v') OK.out HLT.out HY.out hcap hSg hne HB.out HJ.out HR.out e o hown hgrow hat ao hao hnn)
        have MK := Hid.intro WH.out.dn
        clear FIN hy hq hb hrr WH hqv hroom HR
        obtain ⟨R, hR⟩ : ∃ R, R = r.length := ⟨_, rfl⟩
        have HRL := Hid.intro hR
        rw [← hR] at cq cr LESS DONE rl hcap
        by_cases h1 : b6 = 1
        · subst h1
          have D1 : Hid _ := DONE.out rfl
          have w0 := cell_near (u := .int .i64 0) c0 (show off ≠ off + 6 by omega)
          have w1 := cell_near (u := .int .i64 0) c1 (show off + 1 ≠ off + 6 by omega)
          have w2 := cell_near (u := .int .i64 0) c2 (show off + 2 ≠ off + 6 by omega)
          have w3 := cell_near (u := .int .i64 0) c3 (show off + 3 ≠ off + 6 by omega)
          have w4 := cell_near (u := .int .i64 0) c4 (show off + 4 ≠ off + 6 by omega)
          have w5 := cell_near (u := .int .i64 0) c5 (show off + 5 ≠ off + 6 by omega)
          have w6 := World.cell?_setCell_same _ _ (.int .i64 0) c6
          have wq := cr (.int .i64 0)
          have C1 : Chg (fun k => k = g) wr (wr.setCell ⟨g, off + 6, none⟩ (.int .i64 0)) := Chg.setCell (S := fun k => k = g) (Chg.refl _ wr) (fun _ => rfl) _
          have ML := Hid.intro MK.out.len
          have OWN : Hid ((wr.setCell ⟨g, off + 6, none⟩ (.int .i64 0)).ownsRow 0 38 7 (.slice da m dc) m (jcells (workD x i))) := ownsRow_keep MK.out.own fun k hk => C1.block k (World.ownsRow.lt MK.out.own k hk).2 (fun q => by have := MK.out.new k hk; have := HLT.out g hSg; omega)
          have ON := Hid.intro (OWN.out.alloc (.cells #[.int .i64 b0, .int .i64 b1, .int .i64 b2, .int .i64 b3, .int .i64 b4, .int .i64 b5, .int .i64 0] 38))
          have GR0 := (js_block (l := [⟨b0, b1, b2, b3, b4, b5, 0⟩]) (heap_alloc_new (wr.setCell ⟨g, off + 6, none⟩ (.int .i64 0)) (.cells #[.int .i64 b0, .int .i64 b1, .int .i64 b2, .int .i64 b3, .int .i64 b4, .int .i64 b5, .int .i64 0] 38)) (c := 1) (by simp)).mono (R' := fun _ => True) (fun _ _ => trivial)
          rw [show (wr.setCell ⟨g, off + 6, none⟩ (.int .i64 0)).heap.size = wr.heap.size by simp] at GR0
          have GR := Hid.intro GR0
          clear GR0
          have i1 : (1 : Int) ≤ ((R + 1 : Nat) : Int) := by omega
          generalize workD x i = wd at *
          by_cases hc1 : c = 1
          · subst hc1
            obtain rfl : R = 0 := by omega
            have D2 := Hid.intro (fun (wb : World) (v' : Value) hown hgrow hat => D1.out wb v' (.cells #[.int .i64 b0, .int .i64 b1, .int .i64 b2, .int .i64 b3, .int .i64 b4, .int .i64 b5, .int .i64 0] 38) hown hgrow hat (some ⟨g, off, none⟩) (fun q => absurd q (by omega)) (fun q => by cases q))
            clear LESS DONE D1 MK OWN C1 hR c0 c1 c2 c3 c4 c5 cr
            go_wp2_with (first | (refine append_jobs (by rfl) _ _ (by rfl) (.slice da m dc) m wd ML.out (by rfl) ON.out (fun _ => True) (some ⟨wr.heap.size, 0, none⟩) 1 1 [⟨b0, b1, b2, b3, b4, b5, 0⟩] rfl (by rfl) GR.out (fun h => by cases h) (by omega) ?_; intro v' wb hown hgrow hat; obtain ⟨⟨l1, l2⟩, WN⟩ := D2.out wb v' hown hgrow hat; have WNH := Hid.intro WN; clear WN hown hgrow hat))
            exact ⟨⟨i + 1, m + 1, n', _, by omega, by go_num, WNH.out⟩, by simp [intOf]⟩
          · have D2 := Hid.intro (fun (wb : World) (v' : Value) hown hgrow hat => D1.out wb v' (.cells #[.int .i64 b0, .int .i64 b1, .int .i64 b2, .int .i64 b3, .int .i64 b4, .int .i64 b5, .int .i64 0] 38) hown hgrow hat (some ⟨g, off + 7, none⟩) (fun _ => rfl) (fun q => by cases q))
            have c2' : (1 : Int) ≤ (c : Int) := by omega
            have c3' : ¬ c - 1 = 0 := by omega
            clear LESS DONE D1 MK OWN C1 hR c0 c1 c2 c3 c4 c5 cr
            go_wp2_with (first | (refine append_jobs (by rfl) _ _ (by rfl) (.slice da m dc) m wd ML.out (by rfl) ON.out (fun _ => True) (some ⟨wr.heap.size, 0, none⟩) 1 1 [⟨b0, b1, b2, b3, b4, b5, 0⟩] rfl (by rfl) GR.out (fun h => by cases h) (by omega) ?_; intro v' wb hown hgrow hat; obtain ⟨⟨l1, l2⟩, WN⟩ := D2.out wb v' hown hgrow hat; have WNH := Hid.intro WN; clear WN hown hgrow hat))
            exact ⟨⟨i + 1, m + 1, n', _, by omega, by go_num, WNH.out⟩, by simp [intOf]⟩
        · have hb6 : 1 < b6 := by omega
          have LS0 := LESS.out hb6
          obtain ⟨k, hk⟩ : ∃ k : Int, k = b6 - 1 := ⟨_, rfl⟩
          rw [show (⟨b0, b1, b2, b3, b4, b5, b6⟩ : Jb).left - 1 = b6 - 1 from rfl, ← hk] at LS0
          have LS := Hid.intro LS0
          have bk : b6 - 1 = k := hk.symm
          have cs := World.cell?_setCell_same _ _ (.int .i64 k) c6
          have wq := cr (.int .i64 k)
          have zb : (k == 0) = false := by rw [beq_eq_false_iff_ne]; omega
          have kb : 0 < k ∧ k ≤ 1000 := by omega
          clear LESS DONE MK c0 c1 c2 c3 c4 c5 j1 cr h1 LS0 hk hb6
          go_wp2
          go_roundw
          case rel => exact ⟨i + 1, m, n', _, by omega, by go_num, LS.out⟩
          case measure => simp [intOf]

set_option maxRecDepth 100000 in
set_option maxHeartbeats 1000000 in
theorem refWork12_any (rb : Nat) (u : Int) (hu : u ≤ 100000) (S : Nat → Prop) (x : List Jb) (w : World) (hc : RQue S w rb x) :
    Calls Try.prog 21 #[.pointer (some ⟨rb, 0, none⟩), .int .i64 u] w fun e w' => ∃ v, e = .returned (.tuple #[v, .int .i64 (workN x u.toNat : Int)]) ∧ LeftRJ S w w' rb (workR x u.toNat) v (workD x u.toNat) := by
  by_cases h0 : 0 ≤ u
  · obtain ⟨U, rfl⟩ := Int.eq_ofNat_of_zero_le h0
    rw [show ((U : Int)).toNat = U from Int.toNat_natCast U]
    exact refWork12_nat rb U (by omega) S x w hc
  · have z : u.toNat = 0 := by omega
    rw [z, (work_zero x).1, (work_zero x).2.1, (work_zero x).2.2]
    have FIN : Hid (LeftRJ S w w rb x (.slice none 0 0) []) := ⟨S, js_nil _ _, hc, Chg.refl _ _, fun k hk => .inl hk⟩
    have u1 : ¬ 0 < u := by omega
    have u2 : u < 0 := by omega
    clear hc z h0
    go_enter Try.func21, Try.ntmps21
    go_wp2_with fail
    go_loop [1, 6] (fun uv dv => uv = .int .i64 u ∧ dv = .slice none 0 0) (fun _ _ => 0)
    case atStart => exact ⟨rfl, rfl⟩
    case round =>
      obtain ⟨rfl, rfl⟩ := hrel
      go_wp2
      go_ret2
      exact ⟨_, rfl, FIN.out⟩

end Go.Proofs.Ytgcpkploeobafaa
