/- The document's own table of layer 9 in memory, as it is written, too. -/
import Derived.Test.YtohedeeajcdjcaaDoorRoK6
import Derived.Laws.AppendOwnNone
namespace Go.Proofs.YtohedeeajcdjcaaDoor
open Go.RowKit
open Bt

/-- The document's table: its own block, and its list's. -/
structure RS (S : Nat → Prop) (w : World) (b : Nat) (v : Value) (x : Tab) : Prop where
  head : w.heap[b]? = some (.cells #[.int .i64 (x.room : Int), .int .i64 (x.age : Int), .int .i64 (x.margin : Int), v] 39 (0, 0))
  own : w.ownsRow 0 41 4 v x.l.length (scells x.l)
  inB : S b
  inV : ∀ k, v.ownBlock = some k → S k ∧ k ≠ b
  lt : ∀ k, S k → k < w.heap.size
  ok : x.Ok

def RTab (S : Nat → Prop) (w : World) (b : Nat) (x : Tab) : Prop := ∃ v, RS S w b v x

variable {S : Nat → Prop} {w w' : World} {b : Nat} {v : Value} {x : Tab}

theorem RS.kept {T : Nat → Prop} (h : RS S w b v x) (hc : Chg T w w') (hT : ∀ k, S k → ¬ T k) : RS S w' b v x :=
  ⟨(hc.block b (h.lt b h.inB) (hT b h.inB)).trans h.head, ownsRow_keep h.own fun k hk => hc.block k (World.ownsRow.lt h.own k hk).2 (hT k (h.inV k hk).1),
    h.inB, h.inV, fun k hk => Nat.lt_of_lt_of_le (h.lt k hk) hc.size, h.ok⟩

theorem RS.below (h : RS S w b v x) (hb : Below w.heap.size w w') : RS S w' b v x := h.kept (below_chg hb) (fun _ _ => id)

theorem RTab.ok (h : RTab S w b x) : x.Ok := by
  obtain ⟨v, h⟩ := h
  exact h.ok

theorem RTab.lt (h : RTab S w b x) : ∀ k, S k → k < w.heap.size := by
  obtain ⟨v, h⟩ := h
  exact h.lt

theorem RTab.kept {T : Nat → Prop} (h : RTab S w b x) (hc : Chg T w w') (hT : ∀ k, S k → ¬ T k) : RTab S w' b x := by
  obtain ⟨v, h⟩ := h
  exact ⟨v, h.kept hc hT⟩

/-- What a call leaves: but for the table's own blocks, and new ones, all as it was. -/
def LeftR (S : Nat → Prop) (w w' : World) (b : Nat) (x : Tab) : Prop := ∃ S', RTab S' w' b x ∧ Chg S w w' ∧ ∀ k, S' k → S k ∨ w.heap.size ≤ k

theorem LeftR.same (h : RS S w b v x) (hb : Below w.heap.size w w') : LeftR S w w' b x :=
  ⟨S, ⟨v, h.below hb⟩, (below_chg hb).mono (fun _ q _ => q.elim), fun _ q => .inl q⟩

theorem LeftR.over {w5 : World} (h : LeftR S w5 w' b x) (hb : Below w.heap.size w w5) : LeftR S w w' b x := by
  obtain ⟨S', h1, h2, h3⟩ := h
  refine ⟨S', h1, ((below_chg hb).mono (fun _ q _ => q.elim)).trans h2 (fun _ q _ => q), fun k hk => ?_⟩
  have := hb.size
  rcases h3 k hk with q | q
  · exact .inl q
  · exact .inr (by omega)

theorem RS.cells (h : RS S w b v x) : w.cell? ⟨b, 0, none⟩ = some (.int .i64 (x.room : Int)) ∧ w.cell? ⟨b, 1, none⟩ = some (.int .i64 (x.age : Int)) ∧ w.cell? ⟨b, 2, none⟩ = some (.int .i64 (x.margin : Int)) ∧ w.cell? ⟨b, 3, none⟩ = some v :=
  ⟨by rw [cell_of_row w _ 0 _ _ _ h.head]; rfl, by rw [cell_of_row w _ 1 _ _ _ h.head]; rfl, by rw [cell_of_row w _ 2 _ _ _ h.head]; rfl, by rw [cell_of_row w _ 3 _ _ _ h.head]; rfl⟩

theorem RS.form (h : RS S w b v x) : ∃ ao c, v = .slice ao x.l.length c ∧ (x.l.length = 0 ∨ ∃ g, ao = some ⟨g, 0, none⟩) := ownsRow_form h.own

theorem RS.sen {g c : Nat} (h : RS S w b (.slice (some ⟨g, 0, none⟩) x.l.length c) x) {i : Nat} (hi : i < x.l.length) : w.cell? ⟨g, i * 4, none⟩ = some (.int .i64 x.l[i].tx) ∧ w.cell? ⟨g, i * 4 + 1, none⟩ = some (.int .i64 x.l[i].ant) ∧ w.cell? ⟨g, i * 4 + 2, none⟩ = some (.int .i64 x.l[i].rssi) ∧ w.cell? ⟨g, i * 4 + 3, none⟩ = some (.int .i64 x.l[i].last) := by
  have hl := scells_length x.l
  have q : ∀ j, j < 4 → w.cell? ⟨g, i * 4 + j, none⟩ = (scell x.l[i])[j]? := fun j hj => by
    rw [h.own.cellAt (i * 4 + j) (by omega)]
    exact scells_at x.l hi hj
  exact ⟨q 0 (by omega), q 1 (by omega), q 2 (by omega), q 3 (by omega)⟩

theorem RS.more (h : RS S w b v x) {s : Sen} (hok : (moreT x s).Ok) {W wb : World} {gz cz : Nat} (B : Below w.heap.size w W)
    (own : wb.ownsRow 0 41 4 (.slice (some ⟨gz, 0, none⟩) (x.l.length + 1) cz) (x.l.length + 1) (scells x.l ++ [.int .i64 s.tx, .int .i64 s.ant, .int .i64 s.rssi, .int .i64 s.last]))
    (hgrow : W.grownBy wb v.ownBlock) (hat : v.ownBlock = some gz ∨ gz = W.heap.size) :
    (wb.cell? ⟨b, 3, none⟩ = some v ∧ wb.frozen? ⟨b, 3, none⟩ = false) ∧ LeftR S w (wb.setCell ⟨b, 3, none⟩ (.slice (some ⟨gz, 0, none⟩) (x.l.length + 1) cz)) b (moreT x s) := by
  have hb := h.lt b h.inB
  have CB : Chg (fun k => v.ownBlock = some k) w wb := ((below_chg B).mono (fun _ q _ => q.elim)).grown hgrow (fun q hq _ => hq)
  have hsb := CB.size
  have hsW := B.size
  have hov : ∀ k, v.ownBlock = some k → k < w.heap.size ∧ S k ∧ k ≠ b := fun k hk => ⟨h.lt k (h.inV k hk).1, h.inV k hk⟩
  have hgz : (v.ownBlock = some gz ∧ gz < w.heap.size) ∨ w.heap.size ≤ gz := by
    rcases hat with q | q
    · exact .inl ⟨q, (hov gz q).1⟩
    · exact .inr (by omega)
  have hgb : gz ≠ b := by
    rcases hgz with q | q
    · exact (hov gz q.1).2.2
    · omega
  have hb3 := (CB.block b hb (fun q => (hov b q).2.2 rfl)).trans h.head
  have h3 := heap_setCell_same wb b 3 _ _ (.slice (some ⟨gz, 0, none⟩) (x.l.length + 1) cz) hb3
  have C3 : Chg (fun k => k = b) wb (wb.setCell ⟨b, 3, none⟩ (.slice (some ⟨gz, 0, none⟩) (x.l.length + 1) cz)) := Chg.setCell (S := fun k => k = b) (Chg.refl _ wb) (fun _ => rfl) _
  have hgl : gz < wb.heap.size := (World.ownsRow.lt own gz rfl).2
  refine ⟨⟨by rw [cell_of_row _ _ 3 _ _ _ hb3]; rfl, frozen_of_row wb b 3 _ _ hb3⟩, fun k => S k ∨ (w.heap.size ≤ k ∧ k < wb.heap.size), ⟨.slice (some ⟨gz, 0, none⟩) (x.l.length + 1) cz, by rw [h3]; rfl, ?_, .inl h.inB, fun k hk => ?_, fun k hk => ?_, hok⟩, ?_, fun k hk => ?_⟩
  · have e : scells (moreT x s).l = scells x.l ++ [.int .i64 s.tx, .int .i64 s.ant, .int .i64 s.rssi, .int .i64 s.last] := by
      show scells (x.l ++ [s]) = _
      rw [scells_append, scells_one]; rfl
    have e2 : (moreT x s).l.length = x.l.length + 1 := by show (x.l ++ [s]).length = _; simp
    rw [e, e2]
    exact ownsRow_keep own fun k hk => C3.block k (World.ownsRow.lt own k hk).2 (fun q => by
      have : gz = k := by simpa [Value.ownBlock] using hk
      omega)
  · obtain rfl : gz = k := by simpa [Value.ownBlock] using hk
    refine ⟨?_, hgb⟩
    rcases hgz with q2 | q2
    · exact .inl (hov gz q2.1).2.1
    · exact .inr ⟨q2, hgl⟩
  · have := C3.size
    rcases hk with q | q
    · have := h.lt k q; omega
    · omega
  · exact (CB.mono (fun k q _ => (hov k q).2.1)).trans C3 (fun k q _ => by rw [q]; exact h.inB)
  · rcases hk with q | q
    · exact .inl q
    · exact .inr q.1

/-- One is written anew: what is written lies in the list's block. -/
theorem RS.wrote {g c t : Nat} {s : Sen} (h : RS S w b (.slice (some ⟨g, 0, none⟩) x.l.length c) x) (hok : ({ x with l := x.l.set t s } : Tab).Ok) {W W' : World} (B : Below w.heap.size w W) (hC : Chg (fun k => k = g) W W')
    (own : W'.ownsRow 0 41 4 (.slice (some ⟨g, 0, none⟩) x.l.length c) x.l.length (scells (x.l.set t s))) : LeftR S w W' b { x with l := x.l.set t s } := by
  have hg := h.inV g rfl
  have C : Chg (fun k => k = g) w W' := ((below_chg B).mono (fun _ q _ => q.elim)).trans hC (fun _ q _ => q)
  refine ⟨S, ⟨.slice (some ⟨g, 0, none⟩) x.l.length c, (C.block b (h.lt b h.inB) (fun q => hg.2 q.symm)).trans h.head, ?_, h.inB, h.inV, fun k hk => Nat.lt_of_lt_of_le (h.lt k hk) C.size, hok⟩, C.mono (fun k q _ => by rw [q]; exact hg.1), fun k hk => .inl hk⟩
  show W'.ownsRow 0 41 4 _ (x.l.set t s).length (scells (x.l.set t s))
  rw [List.length_set]
  exact own

/-- What is kept is laid down. -/
theorem RS.forgot {F : Nat → Prop} {wr : World} {gv kv : Value} {now : Int} (h : RS F w b v x) (hB : Below w.heap.size w wr) (hG : FgAt w.heap.size wr gv kv (goneX x now) (forgetX x now).l) :
    (wr.cell? ⟨b, 3, none⟩ = some v ∧ wr.frozen? ⟨b, 3, none⟩ = false) ∧ ∃ F', NumsAt (fun k => w.heap.size ≤ k ∧ k < (wr.setCell ⟨b, 3, none⟩ kv).heap.size ∧ ¬ F' k) (wr.setCell ⟨b, 3, none⟩ kv) gv (goneX x now) ∧ RTab F' (wr.setCell ⟨b, 3, none⟩ kv) b (forgetX x now) ∧ Chg F w (wr.setCell ⟨b, 3, none⟩ kv) ∧ ∀ k, F' k → F k ∨ w.heap.size ≤ k := by
  have hb := h.lt b h.inB
  have hb3 := (hB.block b hb).trans h.head
  have h3 := heap_setCell_same wr b 3 _ _ kv hb3
  have C : Chg (fun k => k = b) wr (wr.setCell ⟨b, 3, none⟩ kv) := Chg.setCell (S := fun k => k = b) (Chg.refl _ wr) (fun _ => rfl) _
  have hs := hB.size
  have hs2 := C.size
  refine ⟨⟨by rw [cell_of_row _ _ 3 _ _ _ hb3]; rfl, frozen_of_row wr b 3 _ _ hb3⟩, fun k => k = b ∨ kv.ownBlock = some k, ?_, ⟨kv, by rw [h3]; rfl, ?_, .inl rfl, fun k hk => ⟨.inr hk, ?_⟩, fun k hk => ?_, forgetX_ok h.ok now⟩, ?_, fun k hk => ?_⟩
  · have q : NumsAt (fun k => gv.ownBlock = some k) wr gv (goneX x now) := nums_of_owns hG.own1 (fun k hk => hk)
    refine (q.kept C (fun k hk e => ?_)).mono (fun k hk => ⟨hG.new1 k hk, ?_, fun e => ?_⟩)
    · have := hG.new1 k hk
      omega
    · have := (World.ownsRow.lt hG.own1 k hk).2
      omega
    · rcases e with e | e
      · have := hG.new1 k hk
        omega
      · exact hG.apart k hk e
  · exact ownsRow_keep hG.own2 fun k hk => C.block k (World.ownsRow.lt hG.own2 k hk).2 (fun q => by have := hG.new2 k hk; omega)
  · have := hG.new2 k hk
    omega
  · rcases hk with q | q
    · omega
    · have := (World.ownsRow.lt hG.own2 k q).2
      omega
  · exact ((below_chg hB).mono (fun _ q _ => q.elim)).trans C (fun k q _ => by rw [q]; exact h.inB)
  · rcases hk with q | q
    · exact .inl (by rw [q]; exact h.inB)
    · exact .inr (hG.new2 k q)

/-- Another list, of new memory, is laid down. -/
theorem RS.fresh (h : RS S w b v x) {y : Tab} (hy : y.room = x.room ∧ y.age = x.age ∧ y.margin = x.margin) (hok : y.Ok) {wb : World} (B : Below w.heap.size w wb) {v2 : Value}
    (own : wb.ownsRow 0 41 4 v2 y.l.length (scells y.l)) (new : ∀ k, v2.ownBlock = some k → w.heap.size ≤ k) :
    (wb.cell? ⟨b, 3, none⟩ = some v ∧ wb.frozen? ⟨b, 3, none⟩ = false) ∧ LeftR S w (wb.setCell ⟨b, 3, none⟩ v2) b y := by
  have hb := h.lt b h.inB
  have hb3 := (B.block b hb).trans h.head
  have h3 := heap_setCell_same wb b 3 _ _ v2 hb3
  have C : Chg (fun k => k = b) wb (wb.setCell ⟨b, 3, none⟩ v2) := Chg.setCell (S := fun k => k = b) (Chg.refl _ wb) (fun _ => rfl) _
  have hs := B.size
  have hs2 := C.size
  refine ⟨⟨by rw [cell_of_row _ _ 3 _ _ _ hb3]; rfl, frozen_of_row wb b 3 _ _ hb3⟩, fun k => k = b ∨ v2.ownBlock = some k, ⟨v2, by rw [h3, hy.1, hy.2.1, hy.2.2]; rfl, ?_, .inl rfl, fun k hk => ⟨.inr hk, ?_⟩, fun k hk => ?_, hok⟩, ?_, fun k hk => ?_⟩
  · exact ownsRow_keep own fun k hk => C.block k (World.ownsRow.lt own k hk).2 (fun q => by have := new k hk; omega)
  · have := new k hk
    omega
  · rcases hk with q | q
    · omega
    · have := (World.ownsRow.lt own k q).2
      omega
  · exact ((below_chg B).mono (fun _ q _ => q.elim)).trans C (fun k q _ => by rw [q]; exact h.inB)
  · rcases hk with q | q
    · exact .inl (by rw [q]; exact h.inB)
    · exact .inr (new k q)

/-- Those of a list appended to an empty row of one's own. -/
theorem append_seen {w : World} {ops : Array Oper} {rest : List Oper} {o : Oper} {a : Act} {Q : Exit → Act → World → Prop} (hgd : o.guard = none) (s x : Operand)
    (ho : o.op = .call { callee := .builtin .append, args := #[s, x], argTypes := #[35, 35] })
    (v0 : Value) (hs : a.eval s = v0) (hown : w.ownsRow 0 41 4 v0 0 []) (v : Value) (l : List Sen) (hx : a.eval x = v) (hv : w.ownsRow 0 41 4 v l.length (scells l)) (hl : l.length ≤ 100)
    (h : ∀ v' w', w'.ownsRow 0 41 4 v' l.length (scells l) → w.grownBy w' v0.ownBlock → (v'.ownBlock = v0.ownBlock ∨ v'.ownBlock = some w.heap.size) → wpList Tryd.prog ops Q rest (a.put o.dst v') w') :
    wpList Tryd.prog ops Q (o :: rest) a w := by
  obtain ⟨iF, hiF, hzF0, hzF1, hzF2⟩ := info_parts info_seen
  rcases hv.2 with ⟨hv0, h0⟩ | ⟨g, cap, cur, hv0, _⟩
  · have e : l = [] := List.eq_nil_of_length_eq_zero h0
    subst e
    refine wpList_append_own_none hgd s x 35 ho 0 41 iF 4 Tryd.underlying35 hiF v0 0 [] hs hown (by rw [hx]; exact hv0) ?_
    exact h v0 w hown ⟨rfl, rfl, rfl, Nat.le_refl _, fun _ _ _ => rfl⟩ (.inl rfl)
  · subst hv0
    refine wpList_append_own_at w hgd s x 35 ho 0 41 iF (.agg #[.int .i64 0, .int .i64 0, .int .i64 0, .int .i64 0]) 4 32 Tryd.underlying35 hiF hzF0 hzF1 hzF2 rfl (by decide) v0 0 [] hs hown ⟨g, 0, none⟩ l.length cap (scells l) hx (scells_length l) (World.ownsRow.cells hv (g := g) rfl) (scells_onecell l) (by unfold maxLen; omega) (by omega) (Nat.zero_le _) ?_
    intro v' w' h1 h2 _ h4
    rw [Nat.zero_add, List.nil_append] at h1
    exact h v' w' h1 h2 h4

end Go.Proofs.YtohedeeajcdjcaaDoor
