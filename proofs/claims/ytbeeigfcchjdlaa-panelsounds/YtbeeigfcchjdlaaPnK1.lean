/- Package panel: letGo, Drop's closure, Silence, Sounds. -/
import Derived.Test.YtbeeigfcchjdlaaPnFd
import Derived.BigQuiet
namespace Go.Proofs.Ytbeeigfcchjdlaa
open Go.RowKit Go.Shelf
open Pn

/-- A panel's own block and its row, whatever its list is. -/
structure RawP (w : World) (b : Nat) (v : Value) (L : List Al) (u : Int) : Prop where
  head : w.heap[b]? = some (.cells #[v, .int .i64 u] 47 (0, 0))
  own : w.ownsRow 0 48 5 v L.length (acells L)

theorem RawP.cells {w : World} {b : Nat} {v : Value} {L : List Al} {u : Int} (h : RawP w b v L u) : w.cell? ⟨b, 0, none⟩ = some v ∧ w.frozen? ⟨b, 0, none⟩ = false ∧ w.cell? ⟨b, 1, none⟩ = some (.int .i64 u) ∧ w.frozen? ⟨b, 1, none⟩ = false :=
  ⟨by rw [cell_of_row w _ 0 _ _ _ h.head]; rfl, frozen_of_row w b 0 _ _ h.head, by rw [cell_of_row w _ 1 _ _ _ h.head]; rfl, frozen_of_row w b 1 _ _ h.head⟩

theorem RawP.apart {w : World} {b : Nat} {v : Value} {L : List Al} {u : Int} (h : RawP w b v L u) : v.ownBlock ≠ some b := row_not_block h.own h.head (by decide)

theorem RawP.below {w w' : World} {b : Nat} {v : Value} {L : List Al} {u : Int} (h : RawP w b v L u) (hb : Below w.heap.size w w') : RawP w' b v L u :=
  ⟨(hb.block b (lt_of_heap h.head)).trans h.head, ownsRow_keep h.own fun k hk => hb.block k (World.ownsRow.lt h.own k hk).2⟩

/-- Behind a deletion, its row stored anew. -/
theorem RawP.cut {w w1 : World} {b : Nat} {v v' : Value} {L L' : List Al} {u : Int} (h : RawP w b v L u) (hD : DelEA w w1 v v' L') :
    (w1.cell? ⟨b, 0, none⟩ = some v ∧ w1.frozen? ⟨b, 0, none⟩ = false) ∧ RawP (w1.setCell ⟨b, 0, none⟩ v') b v' L' u ∧ Chg (fun k => k = b ∨ v.ownBlock = some k) w (w1.setCell ⟨b, 0, none⟩ v') := by
  obtain ⟨hv, hown, hC⟩ := hD
  have hd : w1.heap[b]? = some (.cells #[v, .int .i64 u] 47 (0, 0)) := (hC.block b (lt_of_heap h.head) h.apart).trans h.head
  have C : Chg (fun k => k = b) w1 (w1.setCell ⟨b, 0, none⟩ v') := (Chg.refl _ w1).setCell (S := fun k => k = b) (p := ⟨b, 0, none⟩) (fun _ => rfl) _
  refine ⟨⟨by rw [cell_of_row w1 _ 0 _ _ _ hd]; rfl, frozen_of_row w1 b 0 _ _ hd⟩, ⟨by rw [heap_setCell_same w1 b 0 _ _ v' hd]; rfl, ?_⟩, (hC.mono (fun k q _ => .inr q)).trans C (fun k q _ => .inl q)⟩
  exact ownsRow_keep hown fun k hk => C.block k (World.ownsRow.lt hown k hk).2 (fun q => row_not_block hown hd (by decide) (by rw [← q]; exact hk))

set_option maxRecDepth 100000 in
set_option maxHeartbeats 1000000 in
theorem pletgo_any (gf : Nat) (cb : Array Value) (p : Al → Bool) (eg : ∀ args w, (callFunc gf args).run Try.prog w = .ok (.enter gf args) w) (b : Nat) (v : Value) (L : List Al) (u : Int) (w : World) (h : RawP w b v L u) (hl : L.length ≤ 100) (hp : Pred gf cb p (blkA v) w) :
    Calls Try.prog 27 #[.pointer (some ⟨b, 0, none⟩), .func (.func gf) #[] cb] w fun e w' => e = .returned (.int .i64 ((L.length : Int) - ((delA p L).length : Int))) ∧ ∃ v', v'.ownBlock = v.ownBlock ∧ RawP w' b v' (delA p L) u ∧ Chg (fun k => k = b ∨ v.ownBlock = some k) w w' := by
  have D1 := Hid.intro (pdel_any gf cb p eg v L hl w hp h.own)
  have HF := Hid.intro (fun (w1 : World) (v' : Value) (hD : DelEA w w1 v v' (delA p L)) => h.cut hD)
  have c0 := h.cells.1
  obtain ⟨ao, c, rfl, _⟩ := ownsRow_form h.own
  have hm : (delA p L).length ≤ L.length := List.length_filter_le _ _
  have m0 : (0 : Int) ≤ ((delA p L).length : Int) := by omega
  have m1 : ((delA p L).length : Int) ≤ (L.length : Int) := by omega
  have m2 : (L.length : Int) ≤ 100 := by omega
  clear h hp hm hl
  generalize delA p L = M at *
  generalize M.length = mm at *
  generalize L.length = n at *
  go_enter Try.func27, Try.ntmps27
  go_wp2_with fail
  refine D1.out.mono ?_
  rintro e w1 ⟨ao', c', rfl, hD⟩
  obtain ⟨⟨z1, z2⟩, z3, z4⟩ := HF.out w1 _ hD
  have Z3 := Hid.intro z3
  have Z4 := Hid.intro z4
  have Z5 := Hid.intro hD.1
  have z6 := z3.cells.1
  clear D1 HF hD z3 z4 c0
  go_wp2
  go_ret
  exact ⟨rfl, _, Z5.out, Z3.out, Z4.out⟩

/-- A panel whose row is another one, where it lay. -/
theorem PnS.raw {S : Nat → Prop} {w : World} {b : Nat} {v : Value} {L : List Al} {u : Int} (h : PnS 47 48 S w b v L u) : RawP w b v L u := ⟨h.head, h.own⟩

theorem PnS.anew {S : Nat → Prop} {w w' : World} {b : Nat} {v v' : Value} {L L' : List Al} {u u' : Int} (h : PnS 47 48 S w b v L u) (hc : Chg S w w') (hr : RawP w' b v' L' u') (hv : v'.ownBlock = v.ownBlock) (ok : OkA L') : LeftG (PK b L' u') S w w' :=
  ⟨S, ⟨v', ⟨hr.head, hr.own, h.inB, fun k hk => h.inV k (by rw [← hv]; exact hk), fun k hk => Nat.lt_of_lt_of_le (h.lt k hk) hc.size, ok, h.ne⟩⟩, hc, fun _ hk => .inl hk⟩

theorem psil_any (b : Nat) (x : Int) (S : Nat → Prop) (L : List Al) (u : Int) (w : World) (h : PK b L u S w) :
    Calls Try.prog 10 #[.pointer (some ⟨b, 0, none⟩), .int .i64 x] w fun e w' => e = .returned (.tuple #[]) ∧ LeftG (PK b L x) S w w' := by
  obtain ⟨v, h⟩ := h
  obtain ⟨_, _, c1, f1⟩ := h.cells
  have HU : Hid (LeftG (PK b L x) S w (w.setCell ⟨b, 1, none⟩ (.int .i64 x))) := by
    obtain ⟨q1, q2⟩ := h.until x
    exact ⟨S, ⟨v, q1⟩, q2, fun _ hk => .inl hk⟩
  clear h
  go_enter Try.func10, Try.ntmps10
  go_wp2
  go_end0
  exact ⟨rfl, HU.out⟩

theorem psil_nil (x : Int) (w : World) :
    Calls Try.prog 10 #[.pointer none, .int .i64 x] w fun e w' => e = .returned (.tuple #[]) ∧ w = w' := by
  go_enter Try.func10, Try.ntmps10
  go_wp2
  go_end0
  exact ⟨rfl, rfl⟩

theorem psound_nil (x : Int) (w : World) :
    Calls Try.prog 14 #[.pointer none, .int .i64 x] w fun e w' => e = .returned (.bool false) ∧ Below w.heap.size w w' := by
  go_enter Try.func14, Try.ntmps14
  go_wp2
  go_ret
  exact ⟨rfl, Below.refl _ _⟩

theorem unack_pred (g : Nat) (w : World) : Pred 30 #[] (fun x => !x.acked) g w := fun a W _ => punack_any a W

theorem over_pred (g : Nat) (w : World) : Pred 28 #[] overA g w := fun a W _ => pover_any a W

set_option maxRecDepth 100000 in
set_option maxHeartbeats 1000000 in
theorem psound_any (b : Nat) (x : Int) (S : Nat → Prop) (L : List Al) (u : Int) (w : World) (h : PK b L u S w) :
    Calls Try.prog 14 #[.pointer (some ⟨b, 0, none⟩), .int .i64 x] w fun e w' => e = .returned (.bool (soundA L u x)) ∧ Below w.heap.size w w' := by
  obtain ⟨v, h⟩ := h
  have hf := h.ok.few
  have IX := Hid.intro (fun (W : World) (hW : Below w.heap.size w W) => pcfunc_all 30 #[] (fun x => !x.acked) (enters_of Try.func30 (by kernel_rfl) rfl) v L (by omega) W (unack_pred _ _) (h.below hW).own)
  have HB := Hid.intro (fun (W : World) (hW : Below w.heap.size w W) => (h.below hW).cells)
  obtain ⟨c0, f0, c1, f1⟩ := h.cells
  unfold soundA
  by_cases hu : u ≤ x
  · rw [decide_eq_true hu, Bool.true_and]
    obtain ⟨ao, c, rfl, _⟩ := ownsRow_form h.own
    clear h hf
    generalize (L.any fun x => !x.acked) = r at *
    generalize L.length = n at *
    go_enter Try.func14, Try.ntmps14
    go_wp2_with fail
    refine (IX.out w (Below.refl _ w)).mono ?_
    rintro e w1 ⟨rfl, B1⟩
    have BH := Hid.intro B1
    clear IX B1 HB c0 c1 f0 f1
    go_wp2
    go_ret
    exact ⟨rfl, BH.out⟩
  · rw [decide_eq_false hu, Bool.false_and]
    clear h hf IX
    go_enter Try.func14, Try.ntmps14
    go_wp2
    go_ret
    exact ⟨rfl, Below.refl _ _⟩

end Go.Proofs.Ytbeeigfcchjdlaa
