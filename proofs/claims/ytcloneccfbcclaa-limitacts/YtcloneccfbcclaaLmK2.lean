/- Package limit: a table in memory; New, find. -/
import Derived.Test.YtcloneccfbcclaaLmK1
import Derived.Test.YtcloneccfbcclaaRowTmp
namespace Go.Proofs.Ytcloneccfbcclaa
open Go.RowKit
open Bt

/-- A table: its own block, its map, its list of owners. -/
structure TS (S : Nat → Prop) (w : World) (b m : Nat) (v : Value) (L : List Kp) (n : Nat) : Prop where
  head : w.heap[b]? = some (.cells #[.map (some m), v] 60 (0, 0))
  map : MapAt ownV okO w m (fM L)
  own : w.ownsRow 0 62 2 v L.length (ocells (L.map keyK))
  inB : S b
  inM : S m
  inV : ∀ k, v.ownBlock = some k → S k
  lt : ∀ k, S k → k < w.heap.size
  ok : OkT L n

def Tab (S : Nat → Prop) (w : World) (b : Nat) (L : List Kp) (n : Nat) : Prop := ∃ m v, TS S w b m v L n

variable {S T : Nat → Prop} {w w' : World} {b m : Nat} {v : Value} {L : List Kp} {n : Nat}

theorem TS.kept (h : TS S w b m v L n) (hc : Chg T w w') (hT : ∀ k, S k → ¬ T k) : TS S w' b m v L n :=
  ⟨(hc.block b (h.lt b h.inB) (hT b h.inB)).trans h.head, h.map.kept (hc.block m (h.lt m h.inM) (hT m h.inM)), ownsRow_keep h.own fun k hk => hc.block k (World.ownsRow.lt h.own k hk).2 (hT k (h.inV k hk)), h.inB, h.inM, h.inV, fun k hk => Nat.lt_of_lt_of_le (h.lt k hk) hc.size, h.ok⟩

theorem TS.below (h : TS S w b m v L n) (hb : Below w.heap.size w w') : TS S w' b m v L n := h.kept (below_chg hb) (fun _ _ => id)

theorem Tab.kept (h : Tab S w b L n) (hc : Chg T w w') (hT : ∀ k, S k → ¬ T k) : Tab S w' b L n := by
  obtain ⟨m, v, h⟩ := h
  exact ⟨m, v, h.kept hc hT⟩

theorem Tab.below (h : Tab S w b L n) (hb : Below w.heap.size w w') : Tab S w' b L n := h.kept (below_chg hb) (fun _ _ => id)

theorem Tab.ok (h : Tab S w b L n) : OkT L n := by obtain ⟨m, v, h⟩ := h; exact h.ok

theorem Tab.lt (h : Tab S w b L n) : ∀ k, S k → k < w.heap.size := by obtain ⟨m, v, h⟩ := h; exact h.lt

theorem Tab.more (h : Tab S w b L n) {k : Nat} (hk : n ≤ k) : Tab S w b L k := by
  obtain ⟨m, v, h⟩ := h
  exact ⟨m, v, h.head, h.map, h.own, h.inB, h.inM, h.inV, h.lt, h.ok.more hk⟩

theorem TS.cells (h : TS S w b m v L n) : w.cell? ⟨b, 0, none⟩ = some (.map (some m)) ∧ w.cell? ⟨b, 1, none⟩ = some v ∧ ∀ j, w.frozen? ⟨b, j, none⟩ = false :=
  ⟨by rw [cell_of_row w _ 0 _ _ _ h.head]; rfl, by rw [cell_of_row w _ 1 _ _ _ h.head]; rfl, fun j => frozen_of_row w b j _ _ h.head⟩

/-- The blocks are three. -/
theorem TS.apart (h : TS S w b m v L n) : v.ownBlock ≠ some b ∧ v.ownBlock ≠ some m ∧ m ≠ b := by
  obtain ⟨es, clock, hm, _⟩ := h.map
  refine ⟨row_not_block h.own h.head (by decide), fun q => ?_, fun q => ?_⟩
  · rcases h.own.2 with ⟨hv, _⟩ | ⟨g, _, _, hv, _, hh, _⟩
    · rw [hv] at q; cases q
    · rw [hv] at q
      have e : g = m := by simpa [Value.ownBlock] using q
      rw [e, hm] at hh
      cases hh
  · rw [q, h.head] at hm
    cases hm

theorem TS.form (h : TS S w b m v L n) : ∃ ao c, v = .slice ao L.length c ∧ (L.length = 0 ∨ ∃ g, ao = some ⟨g, 0, none⟩) := ownsRow_form h.own

/-- What a call leaves: but for the table's own blocks, and new ones, all as it was. -/
def LeftT (S : Nat → Prop) (w w' : World) (b : Nat) (L : List Kp) (n : Nat) : Prop := ∃ S', Tab S' w' b L n ∧ Chg S w w' ∧ ∀ k, S' k → S k ∨ w.heap.size ≤ k

theorem LeftT.same (h : Tab S w b L n) (hb : Below w.heap.size w w') : LeftT S w w' b L n := ⟨S, h.below hb, (below_chg hb).mono (fun _ f _ => f.elim), fun _ => .inl⟩

/-- The map is turned. -/
theorem TS.turned (h : TS S w b m v L n) {L' : List Kp} {n' : Nat} {W W' : World} (hB : Below w.heap.size w W) (hM : MapAt ownV okO W' m (fM L')) (hC : Chg (fun k => k = m) W W') (hk : L'.map keyK = L.map keyK) (hok : OkT L' n') : LeftT S w W' b L' n' := by
  have h1 := h.below hB
  obtain ⟨_, a2, a3⟩ := h1.apart
  have hl : L'.length = L.length := by have := congrArg List.length hk; simpa using this
  refine ⟨S, ⟨m, v, (hC.block b (h1.lt b h1.inB) (fun q => a3 q.symm)).trans h1.head, hM, ?_, h.inB, h.inM, h.inV, fun k hk => Nat.lt_of_lt_of_le (h1.lt k hk) hC.size, hok⟩, ((below_chg hB).mono (fun _ f _ => f.elim)).trans hC (fun k hk _ => by rw [hk]; exact h.inM), fun _ => .inl⟩
  rw [hk, hl]
  exact ownsRow_keep h1.own fun k hk => hC.block k (World.ownsRow.lt h1.own k hk).2 (fun q => a2 (by rw [← q]; exact hk))

/-- Nothing kept. -/
def kz : Kp := ⟨⟨0, 0, 0, 0, 0⟩, 0⟩

theorem zero_kept (w : World) : (zeroValue 53).run Try.prog w = .ok (Kv kz) w := by kernel_rfl

theorem TS.look (h : TS S w b m v L n) (c : Bool) {bed kind : Int} (ho : okO (bed, kind)) :
    (Instr.lookup 57 (.map (some m)) (.agg #[.int .i64 bed, .int .i64 kind]) c).run Try.prog w = .ok (if c then .tuple #[Kv ((findK L bed kind).getD kz), .bool (findK L bed kind).isSome] else Kv ((findK L bed kind).getD kz)) w := by
  have q := h.map.look c own_by Try.underlying57 (zero_kept w) ho
  have e1 : (fM L (bed, kind)).getD (Kv kz) = Kv ((findK L bed kind).getD kz) := by
    unfold fM
    cases findK L bed kind <;> rfl
  have e2 : (fM L (bed, kind)).isSome = (findK L bed kind).isSome := by
    unfold fM
    cases findK L bed kind <;> rfl
  rw [e1, e2] at q
  exact q

theorem lnew_any (w : World) :
    Calls Try.prog 16 #[] w fun e w' => ∃ b F, e = .returned (.pointer (some ⟨b, 0, none⟩)) ∧ Tab F w' b [] 0 ∧ (∀ k, F k → w.heap.size ≤ k) ∧ Below w.heap.size w w' := by
  have mk : ∀ (t : TypeId) (W : World), (Instr.makeMap t none).run Try.prog W = .ok (.map (some W.heap.size)) (W.alloc (.map #[] 0)) := fun t W => rfl
  have B0 := (Below.refl _ w).alloc (Nat.le_refl _) (.map #[] 0)
  have B1 := B0.alloc B0.size (.cells #[.map (some w.heap.size), .slice none 0 0] 60)
  have HB := Hid.intro B1
  have sz : (w.alloc (.map #[] 0)).heap.size = w.heap.size + 1 := by simp
  have Q0 : Hid (Tab (fun k => k = w.heap.size ∨ k = w.heap.size + 1) ((w.alloc (.map #[] 0)).alloc (.cells #[.map (some w.heap.size), .slice none 0 0] 60)) (w.heap.size + 1) [] 0) :=
    ⟨w.heap.size, .slice none 0 0, by rw [← sz]; exact heap_alloc_new _ _, (mapAt_made ownV okO w).kept (Below.heap_alloc _ _ _ (by simp)), World.ownsRow_nil _ _ _ _, .inr rfl, .inl rfl, fun k hk => (by simp [Value.ownBlock] at hk), fun k hk => (by rcases hk with rfl | rfl <;> simp <;> omega), okT_nil 0⟩
  clear B0 B1 sz
  go_enter Try.func16, Try.ntmps16
  go_wp2
  go_ret
  exact ⟨_, _, rfl, Q0.out, fun k hk => by rcases hk with rfl | rfl <;> omega, HB.out⟩

theorem lfind_nil (bed kind : Int) (w : World) :
    Calls Try.prog 25 #[.pointer none, .int .i64 bed, .int .i64 kind] w fun e w' => e = .returned (.tuple #[Kv kz, .bool false]) ∧ Below w.heap.size w w' := by
  have HB := Hid.intro ((Below.refl _ w).alloc (Nat.le_refl _) (.cells #[.int .i64 0, .int .i64 0, .int .i64 0, .int .i64 0, .int .i64 0, .int .i64 0] 53))
  go_enter Try.func25, Try.ntmps25
  go_wp2
  refine bodyPost_ret (results_row_tmp rfl _ _ w.heap.size 53 #[.int .i64 0, .int .i64 0, .int .i64 0, .int .i64 0, .int .i64 0, .int .i64 0] (0, 0) _ rfl (heap_alloc_new w _) Try.underlying53 rfl (by kernel_rfl)) rfl ?_
  exact ⟨rfl, HB.out⟩

set_option maxRecDepth 100000 in
set_option maxHeartbeats 1000000 in
theorem lfind_any (b : Nat) (bed kind : Int) (ho : okO (bed, kind)) (S : Nat → Prop) (L : List Kp) (n : Nat) (w : World) (h : Tab S w b L n) :
    Calls Try.prog 25 #[.pointer (some ⟨b, 0, none⟩), .int .i64 bed, .int .i64 kind] w fun e w' => e = .returned (.tuple #[Kv ((findK L bed kind).getD kz), .bool (findK L bed kind).isSome]) ∧ Below w.heap.size w w' := by
  obtain ⟨m, v, h⟩ := h
  have B0 := (Below.refl _ w).alloc (Nat.le_refl _) (.cells #[.int .i64 0, .int .i64 0, .int .i64 0, .int .i64 0, .int .i64 0, .int .i64 0] 53)
  have h0 := h.below B0
  have c0 := h0.cells.1
  have LK := h0.look true ho
  rw [if_pos rfl] at LK
  obtain ⟨⟨⟨x0, x1, x2, x3, x4⟩, xn⟩, hx⟩ : ∃ x, x = (findK L bed kind).getD kz := ⟨_, rfl⟩
  rw [← hx] at LK ⊢
  generalize (findK L bed kind).isSome = R at *
  have B2 := (Below.refl w.heap.size w).alloc (Nat.le_refl _) (.cells #[.int .i64 x0, .int .i64 x1, .int .i64 x2, .int .i64 x3, .int .i64 x4, .int .i64 (xn : Int)] 53)
  have B3 := Hid.intro (B2.alloc B2.size (.cells #[.int .i64 x0, .int .i64 x1, .int .i64 x2, .int .i64 x3, .int .i64 x4, .int .i64 (xn : Int)] 53))
  have HN := Hid.intro ((Below.heap_alloc (w.alloc (.cells #[.int .i64 x0, .int .i64 x1, .int .i64 x2, .int .i64 x3, .int .i64 x4, .int .i64 (xn : Int)] 53)) (.cells #[.int .i64 x0, .int .i64 x1, .int .i64 x2, .int .i64 x3, .int .i64 x4, .int .i64 (xn : Int)] 53) w.heap.size (by simp)).trans (heap_alloc_new w (.cells #[.int .i64 x0, .int .i64 x1, .int .i64 x2, .int .i64 x3, .int .i64 x4, .int .i64 (xn : Int)] 53)))
  clear h h0 B0 hx B2
  go_enter Try.func25, Try.ntmps25
  go_wp2
  refine bodyPost_ret (results_row_tmp rfl _ _ w.heap.size 53 #[.int .i64 x0, .int .i64 x1, .int .i64 x2, .int .i64 x3, .int .i64 x4, .int .i64 (xn : Int)] (0, 0) _ rfl HN.out Try.underlying53 rfl (by kernel_rfl)) rfl ?_
  exact ⟨rfl, B3.out⟩

end Go.Proofs.Ytcloneccfbcclaa
