/- A sender among other things: the blocks that are not to be touched stay. -/
import Derived.Test.YteacdckfnmjojabDoorSnCon
import Derived.Laws.OwnMore
import Derived.Deep.OwnRows
namespace Go.Proofs.YteacdckfnmjojabDoor
open Go.RowKit
open Bt

/-- A sender whose own blocks lie outside F; what lies in F is as it was in w0. -/
def SL (F : Nat → Prop) (M : Nat) (w0 w : World) (b : Nat) (x : Snd) : Prop :=
  ∃ S, Sndr M S w b x ∧ (∀ k, S k → ¬ F k) ∧ (∀ k, F k → k < w0.heap.size) ∧ Chg (fun k => ¬ F k) w0 w

variable {F : Nat → Prop} {M : Nat} {w0 w w' : World} {b : Nat} {x : Snd}

theorem SL.ok (h : SL F M w0 w b x) : x.Ok M := by
  obtain ⟨S, h, _⟩ := h
  exact h.ok

theorem SL.chg (h : SL F M w0 w b x) : Chg (fun k => ¬ F k) w0 w := by
  obtain ⟨S, _, _, _, h⟩ := h
  exact h

theorem SL.cell (h : SL F M w0 w b x) {a : Addr} {v : Value} (hc : w0.cell? a = some v) (hF : F a.block) : w.cell? a = some v := cell_chg h.chg hc (fun q => q hF)

theorem SL.block (h : SL F M w0 w b x) {k : Nat} (hF : F k) : w.heap[k]? = w0.heap[k]? := by
  obtain ⟨S, _, _, h2, h3⟩ := h
  exact h3.block k (h2 k hF) (fun q => q hF)

theorem SL.wid (h : SL F M w0 w b x) (hW : Wid w0) (h0 : F 0) : Wid w := by
  obtain ⟨t, fr, hW⟩ := hW
  exact ⟨t, fr, (h.block h0).trans hW⟩

theorem SL.reads (h : SL F M w0 w b x) {ao : Option Addr} {bs : List Nat} (hr : Reads w0 ao bs) (hF : ∀ ad, ao = some ad → F ad.block) : Reads w ao bs :=
  hr.kept h.chg (fun ad ha q => q (hF ad ha))

theorem SL.below (h : SL F M w0 w b x) (hb : Below w.heap.size w w') : SL F M w0 w' b x := by
  obtain ⟨S, h1, h2, h3, h4⟩ := h
  exact ⟨S, h1.kept (below_chg hb) (fun _ _ => id), h2, h3, h4.trans (below_chg hb) (fun _ f _ => f.elim)⟩

theorem SL.here (h : SL F M w0 w b x) : SL F M w w b x := by
  obtain ⟨S, h1, h2, h3, h4⟩ := h
  exact ⟨S, h1, h2, fun k hk => Nat.lt_of_lt_of_le (h3 k hk) h4.size, Chg.refl _ _⟩

/-- Something that is held is written. -/
theorem SL.write (h : SL F M w0 w b x) {p : Addr} (hF : F p.block) (v : Value) : SL F M (w.setCell p v) (w.setCell p v) b x := by
  obtain ⟨S, h1, h2, h3, h4⟩ := h
  have hc : Chg (fun k => k = p.block) w (w.setCell p v) := Chg.setCell (S := fun k => k = p.block) (Chg.refl _ w) (fun _ => rfl) v
  refine ⟨S, h1.kept hc (fun k hk e => h2 k hk (e ▸ hF)), h2, fun k hk => ?_, Chg.refl _ _⟩
  have := h3 k hk
  have := h4.size
  have := hc.size
  omega

theorem SL.less {G : Nat → Prop} (h : SL F M w0 w b x) (hG : ∀ k, G k → F k) : SL G M w0 w b x := by
  obtain ⟨S, h1, h2, h3, h4⟩ := h
  exact ⟨S, h1, fun k hk q => h2 k hk (hG k q), fun k hk => h3 k (hG k hk), h4.mono (fun k hk _ q => hk (hG k q))⟩

theorem SL.more {M' : Nat} (h : SL F M w0 w b x) (hM : M ≤ M') : SL F M' w0 w b x := by
  obtain ⟨S, h1, h2⟩ := h
  exact ⟨S, h1.more hM, h2⟩

/-- Behind more memory, that is held, too. -/
theorem SL.grow (h : SL F M w0 w b x) (hb : Below w.heap.size w w') : SL (fun k => F k ∨ (w.heap.size ≤ k ∧ k < w'.heap.size)) M w' w' b x := by
  obtain ⟨S, h1, h2, h3, h4⟩ := h
  refine ⟨S, h1.kept (below_chg hb) (fun _ _ => id), fun k hk q => ?_, fun k q => ?_, Chg.refl _ _⟩
  · rcases q with q | ⟨q, _⟩
    · exact h2 k hk q
    · have := h1.lt k hk; omega
  · rcases q with q | ⟨_, q⟩
    · have := h3 k q
      have := h4.size
      have := hb.size
      omega
    · exact q

theorem SL.out (h : SL F M w0 w b x) {B : Nat} (hB : B ≤ w0.heap.size) (hF : ∀ k, k < B → F k) : Below B w0 w :=
  h.chg.below hB (fun k hk => by
    rcases Nat.lt_or_ge k B with q | q
    · exact absurd (hF k q) hk
    · exact q)

theorem SL.left {S : Nat → Prop} {M' : Nat} {y : Snd} (h2 : ∀ k, S k → ¬ F k) (h3 : ∀ k, F k → k < w0.heap.size) (h4 : Chg (fun k => ¬ F k) w0 w) (hl : LeftN M' S w w' b y) : SL F M' w0 w' b y := by
  obtain ⟨S', q1, q2, q3⟩ := hl
  refine ⟨S', q1, fun k hk hF => ?_, h3, h4.trans q2 (fun k hk _ => h2 k hk)⟩
  rcases q3 k hk with q | q
  · exact h2 k q hF
  · have := h3 k hF
    have := h4.size
    omega

theorem sl_new {S : Nat → Prop} (h : Sndr M S w' b x) (hS : ∀ k, S k → w.heap.size ≤ k) (hb : Below w.heap.size w w') : SL (fun k => k < w.heap.size) M w' w' b x :=
  ⟨S, h, fun k hk q => by have := hS k hk; omega, fun k hk => Nat.lt_of_lt_of_le hk hb.size, Chg.refl _ _⟩

theorem slpush (ao : Option Addr) (cap : Nat) (bs : List Nat) (hb : Byt bs) (hroom : Room ao cap bs.length) (hM : M ≤ 1000000) (h : SL F M w0 w b x) (hr : Reads w ao bs) (hF : 0 < bs.length → ∀ ad, ao = some ad → F ad.block) :
    Calls Tryd.prog 6 #[.pointer (some ⟨b, 0, none⟩), .slice ao bs.length cap] w fun e w' => e = .returned (.int .i64 (pushE x bs.length)) ∧ SL F M w0 w' b (pushC x bs) := by
  obtain ⟨S, h1, h2, h3, h4⟩ := h
  refine (npush_any M b ao cap bs hb hroom S x w hM h1 hr (fun h0 ad ha q => h2 _ q (hF h0 ad ha))).mono ?_
  rintro e w' ⟨rfl, hl⟩
  exact ⟨rfl, SL.left h2 h3 h4 hl⟩

theorem sltick (now : Int) (hn : -(2 ^ 40) ≤ now ∧ now ≤ 2 ^ 40) (hM : M ≤ 1000000) (h : SL F M w0 w b x) :
    Calls Tryd.prog 7 #[.pointer (some ⟨b, 0, none⟩), .int .i64 now] w fun e w' => ∃ v G, e = .returned v ∧ (∀ k, F k → G k) ∧ FrsAt G (fun _ => True) w' v (tickP x now) ∧ SL G (M + 1) w' w' b (tickC x now) ∧ SL F (M + 1) w0 w' b (tickC x now) := by
  obtain ⟨S, h1, h2, h3, h4⟩ := h
  refine (ntick_any M b now hn S x w hM h1).mono ?_
  rintro e w' ⟨v, F', rfl, hp, q1, q2, q3⟩
  have hsl : SL F (M + 1) w0 w' b (tickC x now) := SL.left h2 h3 h4 ⟨F', q1, q2, q3⟩
  have hF' : ∀ k, F' k → ¬ F k := fun k hk hf => by
    rcases q3 k hk with q | q
    · exact h2 k q hf
    · have := h3 k hf
      have := h4.size
      omega
  refine ⟨v, fun k => F k ∨ (w.heap.size ≤ k ∧ k < w'.heap.size ∧ ¬ F' k), rfl, fun k hk => .inl hk, hp.mono (fun k hk => .inr hk) (fun _ _ => trivial), ⟨F', q1, fun k hk q => ?_, fun k q => ?_, Chg.refl _ _⟩, hsl⟩
  · rcases q with q | q
    · exact hF' k hk q
    · exact q.2.2 hk
  · rcases q with q | q
    · have := h3 k q
      have := h4.size
      have := q2.size
      omega
    · exact q.2.1

theorem slhear (f : FrV) (a : Option Addr) (cap : Nat) (hY : Byt f.data) (hM : M ≤ 1000000) (h : SL F M w0 w b x) (hw : Wid w) (hr : Reads w a f.data) (hF : 0 < f.data.length → ∀ ad, a = some ad → F ad.block) :
    Calls Tryd.prog 8 #[.pointer (some ⟨b, 0, none⟩), Fr f.tx f.sq f.an f.rs f.kd a f.data.length cap] w fun e w' => e = .returned (.bool (hearA x f)) ∧ SL F (M + 4) w0 w' b (hearC x f) := by
  obtain ⟨S, h1, h2, h3, h4⟩ := h
  refine (nhear_any M b f a cap hY S x w hM hw h1 hr (fun h0 ad ha q => h2 _ q (hF h0 ad ha))).mono ?_
  rintro e w' ⟨rfl, hl⟩
  exact ⟨rfl, SL.left h2 h3 h4 hl⟩

theorem slhello (h : SL F M w0 w b x) :
    Calls Tryd.prog 12 #[.pointer (some ⟨b, 0, none⟩)] w fun e w' => ∃ a c, e = .returned (Fr x.tx ((16 * helloG x : Nat) : Int) 0 0 3 a 0 c) ∧ Below w.heap.size w w' := by
  obtain ⟨S, h1, _⟩ := h
  exact nhello_any M b S x w h1

theorem slroom (h : SL F M w0 w b x) :
    Calls Tryd.prog 10 #[.pointer (some ⟨b, 0, none⟩)] w fun e w' => e = .returned (.int .i64 ((4 - x.fl.length : Nat) : Int)) ∧ Below w.heap.size w w' := by
  obtain ⟨S, h1, _⟩ := h
  exact nroom_any M b S x w h1

theorem sllost (h : SL F M w0 w b x) :
    Calls Tryd.prog 9 #[.pointer (some ⟨b, 0, none⟩)] w fun e w' => e = .returned (.int .i64 (x.lost : Int)) ∧ Below w.heap.size w w' := by
  obtain ⟨S, h1, _⟩ := h
  exact nlost_any M b S x w h1

/-! ### Bytes that are made -/

/-- make([]byte, n). -/
theorem make_bytes (n : Nat) (hn : n ≤ 100000) (W : World) :
    (Instr.makeSlice 29 (.int .i64 (n : Int)) (.int .i64 (n : Int))).run Tryd.prog W = .ok (.slice (some ⟨W.heap.size, 0, none⟩) n n) (W.alloc (.cells (madeCells #[.int .u8 0] n) 5 (0, 0))) :=
  run_make_row' 29 5 (.int .u8 0) 1 Tryd.underlying29 info_u8 (by rfl) .i64 .i64 n (by omega) (by omega) W

theorem zeros_made (n : Nat) (W : World) : Reads (W.alloc (.cells (madeCells #[.int .u8 0] n) 5 (0, 0))) (some ⟨W.heap.size, 0, none⟩) (List.replicate n 0) := by
  intro _
  refine ⟨⟨W.heap.size, 0, none⟩, rfl, fun j u hu => ?_⟩
  have hadd : (⟨W.heap.size, 0, none⟩ : Addr).add j = ⟨W.heap.size, j, none⟩ := by unfold Addr.add; split <;> simp_all
  rw [hadd, cell_of_row _ _ j _ _ _ (heap_alloc_new W _), ← Array.getElem?_toList, toList_madeCells_one]
  rw [List.map_replicate] at hu
  exact hu

/-- []byte{x, y}. -/
theorem pair_made (x y : Nat) (W : World) : Reads (W.alloc (.cells #[.int .u8 (x : Int), .int .u8 (y : Int)] 5 (0, 0))) (some ⟨W.heap.size, 0, none⟩) [x, y] := by
  intro _
  refine ⟨⟨W.heap.size, 0, none⟩, rfl, fun j u hu => ?_⟩
  have hadd : (⟨W.heap.size, 0, none⟩ : Addr).add j = ⟨W.heap.size, j, none⟩ := by unfold Addr.add; split <;> simp_all
  rw [hadd, cell_of_row _ _ j _ _ _ (heap_alloc_new W _), ← Array.getElem?_toList]
  exact hu

theorem byt_pair {x y : Nat} (hx : x < 256) (hy : y < 256) : Byt [x, y] := fun z hz => by
  simp at hz
  rcases hz with rfl | rfl
  · exact hx
  · exact hy

theorem byt_zeros (n : Nat) : Byt (List.replicate n 0) := fun x hx => by rw [(List.mem_replicate.1 hx).2]; decide

end Go.Proofs.YteacdckfnmjojabDoor
