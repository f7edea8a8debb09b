/- The document's own answer of layer 15: Remove. -/
import Derived.Test.YtngfgahdiobcmaaWtRefB
import Derived.Test.YtngfgahdiobcmaaRgLast
namespace Go.Proofs.Ytngfgahdiobcmaa
open Go.RowKit
open Bt

theorem of_containsW {l : List Nat} {i : Nat} (h : l.contains i = true) : i ∈ l := by simpa using h

/-- Some of a row's beds, one behind the other. -/
theorem src_part15 {W : World} {g n c c' o m : Nat} {L : List Wb} (h : W.ownsRow 0 66 4 (.slice (some ⟨g, 0, none⟩) n c) n (wcells15 L)) (hm : o + m ≤ L.length) : SrcV W 4 (.slice (some ⟨g, o * 4, none⟩) m c') m (wcells15 ((L.drop o).take m)) := by
  have hn : L.length = n := by have := h.1; rw [wcells15_length] at this; omega
  have hl : ((L.drop o).take m).length = m := by rw [List.length_take, List.length_drop]; omega
  refine .inr ⟨_, _, rfl, by rw [wcells15_length, hl], fun j u hu => ?_⟩
  have hj : j < m * 4 := by have := (List.getElem?_eq_some_iff.1 hu).1; rw [wcells15_length, hl] at this; exact this
  have hj4 : j = (j / 4) * 4 + j % 4 := by omega
  have hq : j / 4 < m := by omega
  have hr : j % 4 < 4 := Nat.mod_lt _ (by decide)
  rw [hj4, wcells15_at _ (by rw [hl]; exact hq) hr] at hu
  rw [WideShapes.add_plain, h.cellAt (o * 4 + j) (by omega), show o * 4 + j = (o + j / 4) * 4 + j % 4 by omega, wcells15_at L (by omega) hr]
  have e : ((L.drop o).take m)[j / 4]'(by rw [hl]; exact hq) = L[o + j / 4]'(by omega) := by simp
  rw [← e]
  exact hu

theorem src_empty15 {W : World} {g c : Nat} : SrcV W 4 (.slice (some ⟨g, 0, none⟩) 0 c) 0 [] := .inr ⟨_, _, rfl, rfl, fun j u hu => by simp at hu⟩

theorem left_fromR {P : (Nat → Prop) → World → Prop} {S : Nat → Prop} {w w1 w2 : World} (hb : Below w.heap.size w w1) (h : LeftG P S w1 w2) : LeftG P S w w2 := by
  obtain ⟨S', h1, h2, h3⟩ := h
  exact ⟨S', h1, ((below_chg hb).mono (fun _ f _ => f.elim)).trans h2 (fun _ q _ => q), fun k hk => (h3 k hk).imp id (fun q => Nat.le_trans hb.size q)⟩

set_option maxRecDepth 100000 in
set_option maxHeartbeats 4000000 in
theorem refRem15_some (b g n c p : Nat) (bed : Int) (S : Nat → Prop) (L : List Wb) (w : World) (h : WtR S w b (.slice (some ⟨g, 0, none⟩) n c) L) (hn : L.length = n) (hp : p < n) (hf : posP (isWb bed) L = p) (hk : isWb bed (L[p]'(by omega)) = true) (hc2 : ¬ c = p + 1) :
    Calls Try.prog 19 #[.pointer (some ⟨b, 0, none⟩), .int .i64 bed] w fun e w' => e = .returned (.int .i64 0) ∧ LeftG (WR b (remWt L bed)) S w w' := by
  have FI := Hid.intro (refFind15_any b bed S _ L w h)
  rw [hf] at FI
  have hNc : n ≤ c ∧ c ≤ 9223372036854775807 := by
    rcases h.own.2 with ⟨hv, h0⟩ | ⟨g', cap, cur, hv, _, _, hc, hm, _⟩
    · cases hv
    · cases hv; unfold maxLen at hm; omega
  have hf8 := h.ok.few
  have er : remWt L bed = L.take p ++ L.drop (p + 1) := rem_place h.ok.once (by omega) hk
  have okr := remWt_ok h.ok bed
  have OWN : ∀ W, Below w.heap.size w W → W.ownsRow 0 66 4 (.slice (some ⟨g, 0, none⟩) n c) n (wcells15 L) := fun W hW => by
    have q := (h.below hW).own
    rw [hn] at q
    exact q
  have KK := Hid.intro (fun (W : World) (hW : Below w.heap.size w W) => (h.below hW).cells.1)
  have SA : Hid (∀ W, Below w.heap.size w W → SrcV W 4 (.slice (some ⟨g, 0, none⟩) p c) p (wcells15 (L.take p))) := fun W hW => by
    have q := src_part15 (L := L) (o := 0) (m := p) (c' := c) (OWN W hW) (by omega)
    rw [List.drop_zero, Nat.zero_mul] at q
    exact q
  have SB : Hid (∀ W, Below w.heap.size w W → SrcV W 4 (.slice (some ⟨g, (p + 1) * 4, none⟩) (n - (p + 1)) (c - (p + 1))) (n - (p + 1)) (wcells15 (L.drop (p + 1)))) := fun W hW => by
    have q := src_part15 (L := L) (o := p + 1) (m := n - (p + 1)) (c' := c - (p + 1)) (OWN W hW) (by omega)
    rw [List.take_of_length_le (by rw [List.length_drop]; omega)] at q
    exact q
  have FN : Hid (∀ (W wb : World) (vb : Value), Below w.heap.size w W → NewR 66 4 W.heap.size W (p + (n - (p + 1))) (wcells15 (L.take p) ++ wcells15 (L.drop (p + 1))) wb vb → (wb.cell? ⟨b, 0, none⟩ = some (.slice (some ⟨g, 0, none⟩) n c) ∧ wb.frozen? ⟨b, 0, none⟩ = false) ∧ LeftG (WR b (remWt L bed)) S w (wb.setCell ⟨b, 0, none⟩ vb)) := fun W wb vb hW hN => by
    rw [← wcells15_append, ← er] at hN
    obtain ⟨q1, q2⟩ := (h.below hW).laid hN (by rw [er, List.length_append, List.length_take, List.length_drop]; omega) okr
    exact ⟨q1, left_fromR hW q2⟩
  have p0 : (0 : Int) ≤ (p : Int) := by omega
  have pz : ¬ (p : Int) < 0 := by omega
  have p1 : (p : Int) + 1 ≤ (n : Nat) := by omega
  have p2 : (p : Int) ≤ (c : Nat) := by omega
  have p3 : (0 : Int) ≤ (p : Int) + 1 := by omega
  have p4 : (p : Int) ≤ (p : Int) + 1 := by omega
  have pw : IntKind.i64.wrap ((p : Int) + 1) = (p : Int) + 1 := by rw [IntKind.wrap_i64]; omega
  have pt : ((p : Int) + 1).toNat = p + 1 := by omega
  have mixed : Try.prog.follows Departure.mixedOrders = true := by kernel_rfl
  obtain ⟨hNc1, hNc2⟩ := hNc
  have k0 := h.cells.1
  have EL := Hid.intro elem_wb15
  have ONE := Hid.intro (wcells15_onecell (L.take p))
  have ONE2 := Hid.intro (wcells15_onecell (L.drop (p + 1)))
  clear h hf hk er okr OWN
  generalize wcells15 (L.take p) = xs at *
  generalize wcells15 (L.drop (p + 1)) = ys at *
  rw [hn] at hf8
  clear hn
  generalize remWt L bed = L2 at *
  go_enter Try.func19, Try.ntmps19
  go_wp2_with fail
  refine FI.out.mono ?_
  rintro e w1 ⟨rfl, rfl⟩
  clear FI
  go_wp2_with fail
  have HS0 := KK.out w.drew (Below.refl _ w).drew
  refine until_start (S := (fun W => W.cell? ⟨b, 0, none⟩ = some (.slice (some ⟨g, 0, none⟩) n c))) (z := 19) (by kernel_rfl) ?_
  have BW : Hid (Below w.heap.size w w.drew) := (Below.refl _ w).drew
  clear k0
  generalize w.drew = Wd at *
  have HS : (fun W => W.cell? ⟨b, 0, none⟩ = some (.slice (some ⟨g, 0, none⟩) n c)) Wd := HS0
  have SS : Hid (∀ X, Below Wd.heap.size Wd X → (fun W => W.cell? ⟨b, 0, none⟩ = some (.slice (some ⟨g, 0, none⟩) n c)) X) := fun X hX => KK.out X (BW.out.trans (hX.mono BW.out.size))
  have FW := Hid.intro (fun wb vb hN => FN.out Wd wb vb BW.out hN)
  have S1 := Hid.intro (fun X (hX : Below Wd.heap.size Wd X) => SA.out X (BW.out.trans (hX.mono BW.out.size)))
  have S2 := Hid.intro (fun X (hX : Below Wd.heap.size Wd X) => SB.out X (BW.out.trans (hX.mono BW.out.size)))
  clear HS0 KK SA SB FN
  refine until_take (i := 0) (oi := ({ dst := some 11, op := Op.move (Operand.tmp 0), type := 64, pos := "ref.go:44", after := #[], guard := none } : Oper)) (oz := ({ dst := none, op := Op.store 35 (Operand.tmp 29) (Operand.tmp 27), type := 0, pos := "ref.go:44", after := #[{ on := 18, ground := Ground.data }, { on := 16, ground := Ground.data }, { on := 16, ground := Ground.chain }, { on := 0, ground := Ground.phase }, { on := 1, ground := Ground.phase }, { on := 2, ground := Ground.phase }, { on := 3, ground := Ground.phase }, { on := 4, ground := Ground.phase }, { on := 5, ground := Ground.phase }, { on := 6, ground := Ground.phase }, { on := 7, ground := Ground.phase }, { on := 8, ground := Ground.phase }, { on := 9, ground := Ground.phase }, { on := 10, ground := Ground.phase }, { on := 11, ground := Ground.phase }, { on := 12, ground := Ground.phase }, { on := 13, ground := Ground.phase }, { on := 14, ground := Ground.phase }, { on := 15, ground := Ground.phase }, { on := 16, ground := Ground.phase }], guard := none } : Oper)) (v := ?v0) rfl rfl (by kernel_rfl) (by kernel_rfl) (fun _ _ _ h => h) (Region.free_spec rfl (by kernel_rfl)) (of_containsW (by kernel_rfl)) (Or.inl ⟨by rfl, ?y0⟩) HS ?r0
  case y0 => (intro w hSw; (try dsimp only at hSw); go_simp; first | done | with_reducible rfl)
  (try simp only [Act.put, List.setIfInBounds_toArray, List.set_cons_zero, List.set_cons_succ])
  refine until_take (i := 2) (oi := ({ dst := some 13, op := Op.move (Operand.tmp 0), type := 64, pos := "ref.go:44", after := #[], guard := none } : Oper)) (oz := ({ dst := none, op := Op.store 35 (Operand.tmp 29) (Operand.tmp 27), type := 0, pos := "ref.go:44", after := #[{ on := 18, ground := Ground.data }, { on := 16, ground := Ground.data }, { on := 16, ground := Ground.chain }, { on := 0, ground := Ground.phase }, { on := 1, ground := Ground.phase }, { on := 2, ground := Ground.phase }, { on := 3, ground := Ground.phase }, { on := 4, ground := Ground.phase }, { on := 5, ground := Ground.phase }, { on := 6, ground := Ground.phase }, { on := 7, ground := Ground.phase }, { on := 8, ground := Ground.phase }, { on := 9, ground := Ground.phase }, { on := 10, ground := Ground.phase }, { on := 11, ground := Ground.phase }, { on := 12, ground := Ground.phase }, { on := 13, ground := Ground.phase }, { on := 14, ground := Ground.phase }, { on := 15, ground := Ground.phase }, { on := 16, ground := Ground.phase }], guard := none } : Oper)) (v := ?v2) rfl rfl (by kernel_rfl) (by kernel_rfl) (fun _ _ _ h => h) (Region.free_spec rfl (by kernel_rfl)) (of_containsW (by kernel_rfl)) (Or.inl ⟨by rfl, ?y2⟩) HS ?r2
  case y2 => (intro w hSw; (try dsimp only at hSw); go_simp; first | done | with_reducible rfl)
  (try simp only [Act.put, List.setIfInBounds_toArray, List.set_cons_zero, List.set_cons_succ])
  refine until_take (i := 3) (oi := ({ dst := some 14, op := Op.nilCheck (Operand.tmp 13), type := 0, pos := "ref.go:44", after := #[{ on := 2, ground := Ground.data }], guard := none } : Oper)) (oz := ({ dst := none, op := Op.store 35 (Operand.tmp 29) (Operand.tmp 27), type := 0, pos := "ref.go:44", after := #[{ on := 18, ground := Ground.data }, { on := 16, ground := Ground.data }, { on := 16, ground := Ground.chain }, { on := 0, ground := Ground.phase }, { on := 1, ground := Ground.phase }, { on := 2, ground := Ground.phase }, { on := 3, ground := Ground.phase }, { on := 4, ground := Ground.phase }, { on := 5, ground := Ground.phase }, { on := 6, ground := Ground.phase }, { on := 7, ground := Ground.phase }, { on := 8, ground := Ground.phase }, { on := 9, ground := Ground.phase }, { on := 10, ground := Ground.phase }, { on := 11, ground := Ground.phase }, { on := 12, ground := Ground.phase }, { on := 13, ground := Ground.phase }, { on := 14, ground := Ground.phase }, { on := 15, ground := Ground.phase }, { on := 16, ground := Ground.phase }], guard := none } : Oper)) (v := ?v3) rfl rfl (by kernel_rfl) (by kernel_rfl) (fun _ _ _ h => h) (Region.free_spec rfl (by kernel_rfl)) (of_containsW (by kernel_rfl)) (Or.inl ⟨by rfl, ?y3⟩) HS ?r3
  case y3 => (intro w hSw; (try dsimp only at hSw); go_simp; first | done | with_reducible rfl)
  (try simp only [Act.put, List.setIfInBounds_toArray, List.set_cons_zero, List.set_cons_succ])
  refine until_take (i := 4) (oi := ({ dst := some 15, op := Op.fieldAddr 37 (Operand.tmp 14) 0, type := 0, pos := "ref.go:44", after := #[{ on := 3, ground := Ground.data }], guard := none } : Oper)) (oz := ({ dst := none, op := Op.store 35 (Operand.tmp 29) (Operand.tmp 27), type := 0, pos := "ref.go:44", after := #[{ on := 18, ground := Ground.data }, { on := 16, ground := Ground.data }, { on := 16, ground := Ground.chain }, { on := 0, ground := Ground.phase }, { on := 1, ground := Ground.phase }, { on := 2, ground := Ground.phase }, { on := 3, ground := Ground.phase }, { on := 4, ground := Ground.phase }, { on := 5, ground := Ground.phase }, { on := 6, ground := Ground.phase }, { on := 7, ground := Ground.phase }, { on := 8, ground := Ground.phase }, { on := 9, ground := Ground.phase }, { on := 10, ground := Ground.phase }, { on := 11, ground := Ground.phase }, { on := 12, ground := Ground.phase }, { on := 13, ground := Ground.phase }, { on := 14, ground := Ground.phase }, { on := 15, ground := Ground.phase }, { on := 16, ground := Ground.phase }], guard := none } : Oper)) (v := ?v4) rfl rfl (by kernel_rfl) (by kernel_rfl) (fun _ _ _ h => h) (Region.free_spec rfl (by kernel_rfl)) (of_containsW (by kernel_rfl)) (Or.inl ⟨by rfl, ?y4⟩) HS ?r4
  case y4 => (intro w hSw; (try dsimp only at hSw); go_simp; first | done | with_reducible rfl)
  (try simp only [Act.put, List.setIfInBounds_toArray, List.set_cons_zero, List.set_cons_succ])
  refine until_take (i := 5) (oi := ({ dst := some 16, op := Op.load 35 (Operand.tmp 15), type := 35, pos := "ref.go:44", after := #[{ on := 4, ground := Ground.data }], guard := none } : Oper)) (oz := ({ dst := none, op := Op.store 35 (Operand.tmp 29) (Operand.tmp 27), type := 0, pos := "ref.go:44", after := #[{ on := 18, ground := Ground.data }, { on := 16, ground := Ground.data }, { on := 16, ground := Ground.chain }, { on := 0, ground := Ground.phase }, { on := 1, ground := Ground.phase }, { on := 2, ground := Ground.phase }, { on := 3, ground := Ground.phase }, { on := 4, ground := Ground.phase }, { on := 5, ground := Ground.phase }, { on := 6, ground := Ground.phase }, { on := 7, ground := Ground.phase }, { on := 8, ground := Ground.phase }, { on := 9, ground := Ground.phase }, { on := 10, ground := Ground.phase }, { on := 11, ground := Ground.phase }, { on := 12, ground := Ground.phase }, { on := 13, ground := Ground.phase }, { on := 14, ground := Ground.phase }, { on := 15, ground := Ground.phase }, { on := 16, ground := Ground.phase }], guard := none } : Oper)) (v := ?v5) rfl rfl (by kernel_rfl) (by kernel_rfl) (fun _ _ _ h => h) (Region.free_spec rfl (by kernel_rfl)) (of_containsW (by kernel_rfl)) (Or.inl ⟨by rfl, ?y5⟩) HS ?r5
  case y5 => (intro w hSw; (try dsimp only at hSw); go_simp; first | done | with_reducible rfl)
  (try simp only [Act.put, List.setIfInBounds_toArray, List.set_cons_zero, List.set_cons_succ])
  refine until_take (i := 6) (oi := ({ dst := some 17, op := Op.move (Operand.tmp 5), type := 3, pos := "ref.go:44", after := #[], guard := none } : Oper)) (oz := ({ dst := none, op := Op.store 35 (Operand.tmp 29) (Operand.tmp 27), type := 0, pos := "ref.go:44", after := #[{ on := 18, ground := Ground.data }, { on := 16, ground := Ground.data }, { on := 16, ground := Ground.chain }, { on := 0, ground := Ground.phase }, { on := 1, ground := Ground.phase }, { on := 2, ground := Ground.phase }, { on := 3, ground := Ground.phase }, { on := 4, ground := Ground.phase }, { on := 5, ground := Ground.phase }, { on := 6, ground := Ground.phase }, { on := 7, ground := Ground.phase }, { on := 8, ground := Ground.phase }, { on := 9, ground := Ground.phase }, { on := 10, ground := Ground.phase }, { on := 11, ground := Ground.phase }, { on := 12, ground := Ground.phase }, { on := 13, ground := Ground.phase }, { on := 14, ground := Ground.phase }, { on := 15, ground := Ground.phase }, { on := 16, ground := Ground.phase }], guard := none } : Oper)) (v := ?v6) rfl rfl (by kernel_rfl) (by kernel_rfl) (fun _ _ _ h => h) (Region.free_spec rfl (by kernel_rfl)) (of_containsW (by kernel_rfl)) (Or.inl ⟨by rfl, ?y6⟩) HS ?r6
  case y6 => (intro w hSw; (try dsimp only at hSw); go_simp; first | done | with_reducible rfl)
  (try simp only [Act.put, List.setIfInBounds_toArray, List.set_cons_zero, List.set_cons_succ])
  refine until_take (i := 7) (oi := ({ dst := some 18, op := Op.slice 35 (Operand.tmp 16) none (some (Operand.tmp 17)) none, type := 35, pos := "ref.go:44", after := #[{ on := 5, ground := Ground.data }, { on := 6, ground := Ground.data }], guard := none } : Oper)) (oz := ({ dst := none, op := Op.store 35 (Operand.tmp 29) (Operand.tmp 27), type := 0, pos := "ref.go:44", after := #[{ on := 18, ground := Ground.data }, { on := 16, ground := Ground.data }, { on := 16, ground := Ground.chain }, { on := 0, ground := Ground.phase }, { on := 1, ground := Ground.phase }, { on := 2, ground := Ground.phase }, { on := 3, ground := Ground.phase }, { on := 4, ground := Ground.phase }, { on := 5, ground := Ground.phase }, { on := 6, ground := Ground.phase }, { on := 7, ground := Ground.phase }, { on := 8, ground := Ground.phase }, { on := 9, ground := Ground.phase }, { on := 10, ground := Ground.phase }, { on := 11, ground := Ground.phase }, { on := 12, ground := Ground.phase }, { on := 13, ground := Ground.phase }, { on := 14, ground := Ground.phase }, { on := 15, ground := Ground.phase }, { on := 16, ground := Ground.phase }], guard := none } : Oper)) (v := ?v7) rfl rfl (by kernel_rfl) (by kernel_rfl) (fun _ _ _ h => h) (Region.free_spec rfl (by kernel_rfl)) (of_containsW (by kernel_rfl)) (Or.inl ⟨by rfl, ?y7⟩) HS ?r7
  case y7 => (intro w hSw; (try dsimp only at hSw); go_simp; first | done | with_reducible rfl)
  (try simp only [Act.put, List.setIfInBounds_toArray, List.set_cons_zero, List.set_cons_succ])
  refine until_take (i := 9) (oi := ({ dst := some 20, op := Op.move (Operand.tmp 0), type := 64, pos := "ref.go:44", after := #[], guard := none } : Oper)) (oz := ({ dst := none, op := Op.store 35 (Operand.tmp 29) (Operand.tmp 27), type := 0, pos := "ref.go:44", after := #[{ on := 18, ground := Ground.data }, { on := 16, ground := Ground.data }, { on := 16, ground := Ground.chain }, { on := 0, ground := Ground.phase }, { on := 1, ground := Ground.phase }, { on := 2, ground := Ground.phase }, { on := 3, ground := Ground.phase }, { on := 4, ground := Ground.phase }, { on := 5, ground := Ground.phase }, { on := 6, ground := Ground.phase }, { on := 7, ground := Ground.phase }, { on := 8, ground := Ground.phase }, { on := 9, ground := Ground.phase }, { on := 10, ground := Ground.phase }, { on := 11, ground := Ground.phase }, { on := 12, ground := Ground.phase }, { on := 13, ground := Ground.phase }, { on := 14, ground := Ground.phase }, { on := 15, ground := Ground.phase }, { on := 16, ground := Ground.phase }], guard := none } : Oper)) (v := ?v9) rfl rfl (by kernel_rfl) (by kernel_rfl) (fun _ _ _ h => h) (Region.free_spec rfl (by kernel_rfl)) (of_containsW (by kernel_rfl)) (Or.inl ⟨by rfl, ?y9⟩) HS ?r9
  case y9 => (intro w hSw; (try dsimp only at hSw); go_simp; first | done | with_reducible rfl)
  (try simp only [Act.put, List.setIfInBounds_toArray, List.set_cons_zero, List.set_cons_succ])
  refine until_take (i := 10) (oi := ({ dst := some 21, op := Op.nilCheck (Operand.tmp 20), type := 0, pos := "ref.go:44", after := #[{ on := 9, ground := Ground.data }], guard := none } : Oper)) (oz := ({ dst := none, op := Op.store 35 (Operand.tmp 29) (Operand.tmp 27), type := 0, pos := "ref.go:44", after := #[{ on := 18, ground := Ground.data }, { on := 16, ground := Ground.data }, { on := 16, ground := Ground.chain }, { on := 0, ground := Ground.phase }, { on := 1, ground := Ground.phase }, { on := 2, ground := Ground.phase }, { on := 3, ground := Ground.phase }, { on := 4, ground := Ground.phase }, { on := 5, ground := Ground.phase }, { on := 6, ground := Ground.phase }, { on := 7, ground := Ground.phase }, { on := 8, ground := Ground.phase }, { on := 9, ground := Ground.phase }, { on := 10, ground := Ground.phase }, { on := 11, ground := Ground.phase }, { on := 12, ground := Ground.phase }, { on := 13, ground := Ground.phase }, { on := 14, ground := Ground.phase }, { on := 15, ground := Ground.phase }, { on := 16, ground := Ground.phase }], guard := none } : Oper)) (v := ?v10) rfl rfl (by kernel_rfl) (by kernel_rfl) (fun _ _ _ h => h) (Region.free_spec rfl (by kernel_rfl)) (of_containsW (by kernel_rfl)) (Or.inl ⟨by rfl, ?y10⟩) HS ?r10
  case y10 => (intro w hSw; (try dsimp only at hSw); go_simp; first | done | with_reducible rfl)
  (try simp only [Act.put, List.setIfInBounds_toArray, List.set_cons_zero, List.set_cons_succ])
  refine until_take (i := 11) (oi := ({ dst := some 22, op := Op.fieldAddr 37 (Operand.tmp 21) 0, type := 0, pos := "ref.go:44", after := #[{ on := 10, ground := Ground.data }], guard := none } : Oper)) (oz := ({ dst := none, op := Op.store 35 (Operand.tmp 29) (Operand.tmp 27), type := 0, pos := "ref.go:44", after := #[{ on := 18, ground := Ground.data }, { on := 16, ground := Ground.data }, { on := 16, ground := Ground.chain }, { on := 0, ground := Ground.phase }, { on := 1, ground := Ground.phase }, { on := 2, ground := Ground.phase }, { on := 3, ground := Ground.phase }, { on := 4, ground := Ground.phase }, { on := 5, ground := Ground.phase }, { on := 6, ground := Ground.phase }, { on := 7, ground := Ground.phase }, { on := 8, ground := Ground.phase }, { on := 9, ground := Ground.phase }, { on := 10, ground := Ground.phase }, { on := 11, ground := Ground.phase }, { on := 12, ground := Ground.phase }, { on := 13, ground := Ground.phase }, { on := 14, ground := Ground.phase }, { on := 15, ground := Ground.phase }, { on := 16, ground := Ground.phase }], guard := none } : Oper)) (v := ?v11) rfl rfl (by kernel_rfl) (by kernel_rfl) (fun _ _ _ h => h) (Region.free_spec rfl (by kernel_rfl)) (of_containsW (by kernel_rfl)) (Or.inl ⟨by rfl, ?y11⟩) HS ?r11
  case y11 => (intro w hSw; (try dsimp only at hSw); go_simp; first | done | with_reducible rfl)
  (try simp only [Act.put, List.setIfInBounds_toArray, List.set_cons_zero, List.set_cons_succ])
  refine until_take (i := 12) (oi := ({ dst := some 23, op := Op.load 35 (Operand.tmp 22), type := 35, pos := "ref.go:44", after := #[{ on := 11, ground := Ground.data }], guard := none } : Oper)) (oz := ({ dst := none, op := Op.store 35 (Operand.tmp 29) (Operand.tmp 27), type := 0, pos := "ref.go:44", after := #[{ on := 18, ground := Ground.data }, { on := 16, ground := Ground.data }, { on := 16, ground := Ground.chain }, { on := 0, ground := Ground.phase }, { on := 1, ground := Ground.phase }, { on := 2, ground := Ground.phase }, { on := 3, ground := Ground.phase }, { on := 4, ground := Ground.phase }, { on := 5, ground := Ground.phase }, { on := 6, ground := Ground.phase }, { on := 7, ground := Ground.phase }, { on := 8, ground := Ground.phase }, { on := 9, ground := Ground.phase }, { on := 10, ground := Ground.phase }, { on := 11, ground := Ground.phase }, { on := 12, ground := Ground.phase }, { on := 13, ground := Ground.phase }, { on := 14, ground := Ground.phase }, { on := 15, ground := Ground.phase }, { on := 16, ground := Ground.phase }], guard := none } : Oper)) (v := ?v12) rfl rfl (by kernel_rfl) (by kernel_rfl) (fun _ _ _ h => h) (Region.free_spec rfl (by kernel_rfl)) (of_containsW (by kernel_rfl)) (Or.inl ⟨by rfl, ?y12⟩) HS ?r12
  case y12 => (intro w hSw; (try dsimp only at hSw); go_simp; first | done | with_reducible rfl)
  (try simp only [Act.put, List.setIfInBounds_toArray, List.set_cons_zero, List.set_cons_succ])
  refine until_take (i := 13) (oi := ({ dst := some 24, op := Op.move (Operand.tmp 5), type := 3, pos := "ref.go:44", after := #[], guard := none } : Oper)) (oz := ({ dst := none, op := Op.store 35 (Operand.tmp 29) (Operand.tmp 27), type := 0, pos := "ref.go:44", after := #[{ on := 18, ground := Ground.data }, { on := 16, ground := Ground.data }, { on := 16, ground := Ground.chain }, { on := 0, ground := Ground.phase }, { on := 1, ground := Ground.phase }, { on := 2, ground := Ground.phase }, { on := 3, ground := Ground.phase }, { on := 4, ground := Ground.phase }, { on := 5, ground := Ground.phase }, { on := 6, ground := Ground.phase }, { on := 7, ground := Ground.phase }, { on := 8, ground := Ground.phase }, { on := 9, ground := Ground.phase }, { on := 10, ground := Ground.phase }, { on := 11, ground := Ground.phase }, { on := 12, ground := Ground.phase }, { on := 13, ground := Ground.phase }, { on := 14, ground := Ground.phase }, { on := 15, ground := Ground.phase }, { on := 16, ground := Ground.phase }], guard := none } : Oper)) (v := ?v13) rfl rfl (by kernel_rfl) (by kernel_rfl) (fun _ _ _ h => h) (Region.free_spec rfl (by kernel_rfl)) (of_containsW (by kernel_rfl)) (Or.inl ⟨by rfl, ?y13⟩) HS ?r13
  case y13 => (intro w hSw; (try dsimp only at hSw); go_simp; first | done | with_reducible rfl)
  (try simp only [Act.put, List.setIfInBounds_toArray, List.set_cons_zero, List.set_cons_succ])
  refine until_take (i := 14) (oi := ({ dst := some 25, op := Op.binOp BinOp.add 3 (Operand.tmp 24) (Operand.const (Value.int IntKind.i64 1)) 3, type := 3, pos := "ref.go:44", after := #[{ on := 13, ground := Ground.data }], guard := none } : Oper)) (oz := ({ dst := none, op := Op.store 35 (Operand.tmp 29) (Operand.tmp 27), type := 0, pos := "ref.go:44", after := #[{ on := 18, ground := Ground.data }, { on := 16, ground := Ground.data }, { on := 16, ground := Ground.chain }, { on := 0, ground := Ground.phase }, { on := 1, ground := Ground.phase }, { on := 2, ground := Ground.phase }, { on := 3, ground := Ground.phase }, { on := 4, ground := Ground.phase }, { on := 5, ground := Ground.phase }, { on := 6, ground := Ground.phase }, { on := 7, ground := Ground.phase }, { on := 8, ground := Ground.phase }, { on := 9, ground := Ground.phase }, { on := 10, ground := Ground.phase }, { on := 11, ground := Ground.phase }, { on := 12, ground := Ground.phase }, { on := 13, ground := Ground.phase }, { on := 14, ground := Ground.phase }, { on := 15, ground := Ground.phase }, { on := 16, ground := Ground.phase }], guard := none } : Oper)) (v := ?v14) rfl rfl (by kernel_rfl) (by kernel_rfl) (fun _ _ _ h => h) (Region.free_spec rfl (by kernel_rfl)) (of_containsW (by kernel_rfl)) (Or.inl ⟨by rfl, ?y14⟩) HS ?r14
  case y14 => (intro w hSw; (try dsimp only at hSw); go_simp; first | done | with_reducible rfl)
  (try simp only [Act.put, List.setIfInBounds_toArray, List.set_cons_zero, List.set_cons_succ])
  refine until_take (i := 15) (oi := ({ dst := some 26, op := Op.slice 35 (Operand.tmp 23) (some (Operand.tmp 25)) none none, type := 35, pos := "ref.go:44", after := #[{ on := 12, ground := Ground.data }, { on := 14, ground := Ground.data }], guard := none } : Oper)) (oz := ({ dst := none, op := Op.store 35 (Operand.tmp 29) (Operand.tmp 27), type := 0, pos := "ref.go:44", after := #[{ on := 18, ground := Ground.data }, { on := 16, ground := Ground.data }, { on := 16, ground := Ground.chain }, { on := 0, ground := Ground.phase }, { on := 1, ground := Ground.phase }, { on := 2, ground := Ground.phase }, { on := 3, ground := Ground.phase }, { on := 4, ground := Ground.phase }, { on := 5, ground := Ground.phase }, { on := 6, ground := Ground.phase }, { on := 7, ground := Ground.phase }, { on := 8, ground := Ground.phase }, { on := 9, ground := Ground.phase }, { on := 10, ground := Ground.phase }, { on := 11, ground := Ground.phase }, { on := 12, ground := Ground.phase }, { on := 13, ground := Ground.phase }, { on := 14, ground := Ground.phase }, { on := 15, ground := Ground.phase }, { on := 16, ground := Ground.phase }], guard := none } : Oper)) (v := ?v15) rfl rfl (by kernel_rfl) (by kernel_rfl) (fun _ _ _ h => h) (Region.free_spec rfl (by kernel_rfl)) (of_containsW (by kernel_rfl)) (Or.inl ⟨by rfl, ?y15⟩) HS ?r15
  case y15 => (intro w hSw; (try dsimp only at hSw); go_simp; first | done | with_reducible rfl)
  (try simp only [Act.put, List.setIfInBounds_toArray, List.set_cons_zero, List.set_cons_succ])
  refine until_one (i := 1) (by kernel_rfl) ?_
  refine comes (o := ({ dst := some 12, op := Op.buildSlice 35 0 #[], type := 35, pos := "ref.go:44", after := #[], guard := none } : Oper)) rfl (fun K hK => ?_)
  go_simp
  refine hK.out _ _ (fun _ => SS.out _ (bel_allocR (Below.refl _ _) (Nat.le_refl _) _)) ?_
  clear hK K
  (try simp only [Act.put, List.setIfInBounds_toArray, List.set_cons_zero, List.set_cons_succ])
  refine until_one (i := 8) (by kernel_rfl) ?_
  refine comes (o := ({ dst := some 19, op := Op.call { callee := Callee.builtin Builtin.append, args := #[Operand.tmp 12, Operand.tmp 18], argTypes := #[35, 35] }, type := 35, pos := "ref.go:44", after := #[{ on := 1, ground := Ground.data }, { on := 7, ground := Ground.data }], guard := none } : Oper)) rfl (fun K hK => ?_)
  refine step_append_row (by rfl) _ _ EL.out (by rfl) _ 0 [] (by rfl) (own_emptyR (alloc_atR (by simp))) (.slice (some ⟨g, 0, none⟩) p c) p xs (by rfl) (S1.out _ (bel_allocR (Below.refl _ _) (Nat.le_refl _) _)) ONE.out (by omega) ?_
  intro va wa hown hgrow hat
  have QF := apF (H := Wd.heap.size) (w0 := Wd) (alloc_atR (by simp)) (by first | (dsimp only; omega) | (simp; done)) (bel_allocR (Below.refl _ _) (Nat.le_refl _) _) (Nat.le_refl _) hown hgrow hat
  clear hown hgrow hat
  refine hK.out _ _ (fun _ => SS.out _ QF.below) ?_
  clear hK K
  (try simp only [Act.put, List.setIfInBounds_toArray, List.set_cons_zero, List.set_cons_succ])
  refine until_one (i := 16) (by kernel_rfl) ?_
  refine comes (o := ({ dst := some 27, op := Op.call { callee := Callee.builtin Builtin.append, args := #[Operand.tmp 19, Operand.tmp 26], argTypes := #[35, 35] }, type := 35, pos := "ref.go:44", after := #[{ on := 8, ground := Ground.data }, { on := 15, ground := Ground.data }, { on := 8, ground := Ground.chain }], guard := none } : Oper)) rfl (fun K hK => ?_)
  refine step_append_row (by rfl) _ _ EL.out (by rfl) va p xs (by rfl) QF.own (.slice (some ⟨g, (p + 1) * 4, none⟩) (n - (p + 1)) (c - (p + 1))) (n - (p + 1)) ys (by rfl) (S2.out _ QF.below) ONE2.out (by omega) ?_
  intro vb wb hown hgrow hat
  have QG := newR QF.ge QF.below (Nat.le_refl _) hown hgrow hat
  obtain ⟨oa, oc, e, _⟩ := ownsRow_form hown
  subst e
  obtain ⟨⟨z1, z2⟩, z3⟩ := FW.out wb _ QG
  have FIN := Hid.intro z3
  have GB := Hid.intro QG.below
  clear hown hgrow hat z3 QF QG
  refine hK.out _ _ (fun _ => SS.out _ GB.out) ?_
  clear hK K
  (try simp only [Act.put, List.setIfInBounds_toArray, List.set_cons_zero, List.set_cons_succ])
  refine until_one (i := 17) (by kernel_rfl) ?_
  refine comes (o := ({ dst := some 28, op := Op.nilCheck (Operand.tmp 11), type := 0, pos := "ref.go:44", after := #[{ on := 0, ground := Ground.data }, { on := 0, ground := Ground.phase }, { on := 1, ground := Ground.phase }, { on := 2, ground := Ground.phase }, { on := 3, ground := Ground.phase }, { on := 4, ground := Ground.phase }, { on := 5, ground := Ground.phase }, { on := 6, ground := Ground.phase }, { on := 7, ground := Ground.phase }, { on := 8, ground := Ground.phase }, { on := 9, ground := Ground.phase }, { on := 10, ground := Ground.phase }, { on := 11, ground := Ground.phase }, { on := 12, ground := Ground.phase }, { on := 13, ground := Ground.phase }, { on := 14, ground := Ground.phase }, { on := 15, ground := Ground.phase }, { on := 16, ground := Ground.phase }], guard := none } : Oper)) rfl (fun K hK => ?_)
  go_simp
  refine hK.out _ _ (fun _ => SS.out _ GB.out) ?_
  clear hK K
  (try simp only [Act.put, List.setIfInBounds_toArray, List.set_cons_zero, List.set_cons_succ])
  refine until_one (i := 18) (by kernel_rfl) ?_
  refine comes (o := ({ dst := some 29, op := Op.fieldAddr 37 (Operand.tmp 28) 0, type := 0, pos := "ref.go:44", after := #[{ on := 17, ground := Ground.data }, { on := 0, ground := Ground.phase }, { on := 1, ground := Ground.phase }, { on := 2, ground := Ground.phase }, { on := 3, ground := Ground.phase }, { on := 4, ground := Ground.phase }, { on := 5, ground := Ground.phase }, { on := 6, ground := Ground.phase }, { on := 7, ground := Ground.phase }, { on := 8, ground := Ground.phase }, { on := 9, ground := Ground.phase }, { on := 10, ground := Ground.phase }, { on := 11, ground := Ground.phase }, { on := 12, ground := Ground.phase }, { on := 13, ground := Ground.phase }, { on := 14, ground := Ground.phase }, { on := 15, ground := Ground.phase }, { on := 16, ground := Ground.phase }], guard := none } : Oper)) rfl (fun K hK => ?_)
  go_simp
  refine hK.out _ _ (fun _ => SS.out _ GB.out) ?_
  clear hK K
  (try simp only [Act.put, List.setIfInBounds_toArray, List.set_cons_zero, List.set_cons_succ])
  refine until_one (i := 19) (by kernel_rfl) ?_
  refine comes (o := ({ dst := none, op := Op.store 35 (Operand.tmp 29) (Operand.tmp 27), type := 0, pos := "ref.go:44", after := #[{ on := 18, ground := Ground.data }, { on := 16, ground := Ground.data }, { on := 16, ground := Ground.chain }, { on := 0, ground := Ground.phase }, { on := 1, ground := Ground.phase }, { on := 2, ground := Ground.phase }, { on := 3, ground := Ground.phase }, { on := 4, ground := Ground.phase }, { on := 5, ground := Ground.phase }, { on := 6, ground := Ground.phase }, { on := 7, ground := Ground.phase }, { on := 8, ground := Ground.phase }, { on := 9, ground := Ground.phase }, { on := 10, ground := Ground.phase }, { on := 11, ground := Ground.phase }, { on := 12, ground := Ground.phase }, { on := 13, ground := Ground.phase }, { on := 14, ground := Ground.phase }, { on := 15, ground := Ground.phase }, { on := 16, ground := Ground.phase }], guard := none } : Oper)) rfl (fun K hK => ?_)
  go_simp
  refine hK.out _ _ (fun q => absurd rfl q) ?_
  clear hK K
  (try simp only [Act.put, List.setIfInBounds_toArray, List.set_cons_zero, List.set_cons_succ])
  refine until_done (by kernel_rfl) ?_ _
  clear z1 z2 HS SS S1 S2 FW
  go_wp2
  go_ret
  exact ⟨rfl, FIN.out⟩

set_option maxRecDepth 100000 in
set_option maxHeartbeats 4000000 in
theorem refRem15_full (b g n c p : Nat) (bed : Int) (S : Nat → Prop) (L : List Wb) (w : World) (h : WtR S w b (.slice (some ⟨g, 0, none⟩) n c) L) (hn : L.length = n) (hp : p < n) (hf : posP (isWb bed) L = p) (hk : isWb bed (L[p]'(by omega)) = true) (hc2 : c = p + 1) :
    Calls Try.prog 19 #[.pointer (some ⟨b, 0, none⟩), .int .i64 bed] w fun e w' => e = .returned (.int .i64 0) ∧ LeftG (WR b (remWt L bed)) S w w' := by
  have FI := Hid.intro (refFind15_any b bed S _ L w h)
  rw [hf] at FI
  have hNc : n ≤ c ∧ c ≤ 9223372036854775807 := by
    rcases h.own.2 with ⟨hv, h0⟩ | ⟨g', cap, cur, hv, _, _, hc, hm, _⟩
    · cases hv
    · cases hv; unfold maxLen at hm; omega
  have hf8 := h.ok.few
  obtain rfl : n = p + 1 := by omega
  subst hc2
  have er : remWt L bed = L.take p ++ L.drop (p + 1) := rem_place h.ok.once (by omega) hk
  have okr := remWt_ok h.ok bed
  have OWN : ∀ W, Below w.heap.size w W → W.ownsRow 0 66 4 (.slice (some ⟨g, 0, none⟩) (p + 1) (p + 1)) (p + 1) (wcells15 L) := fun W hW => by
    have q := (h.below hW).own
    rw [hn] at q
    exact q
  have KK := Hid.intro (fun (W : World) (hW : Below w.heap.size w W) => (h.below hW).cells.1)
  have SA : Hid (∀ W, Below w.heap.size w W → SrcV W 4 (.slice (some ⟨g, 0, none⟩) p (p + 1)) p (wcells15 (L.take p))) := fun W hW => by
    have q := src_part15 (L := L) (o := 0) (m := p) (c' := (p + 1)) (OWN W hW) (by omega)
    rw [List.drop_zero, Nat.zero_mul] at q
    exact q
  have SB : Hid (∀ W, Below w.heap.size w W → SrcV W 4 (.slice (some ⟨g, 0, none⟩) 0 0) 0 (wcells15 (L.drop (p + 1)))) := fun W hW => by
    rw [List.drop_eq_nil_of_le (by omega)]
    exact src_empty15
  have FN : Hid (∀ (W wb : World) (vb : Value), Below w.heap.size w W → NewR 66 4 W.heap.size W (p + 0) (wcells15 (L.take p) ++ wcells15 (L.drop (p + 1))) wb vb → (wb.cell? ⟨b, 0, none⟩ = some (.slice (some ⟨g, 0, none⟩) (p + 1) (p + 1)) ∧ wb.frozen? ⟨b, 0, none⟩ = false) ∧ LeftG (WR b (remWt L bed)) S w (wb.setCell ⟨b, 0, none⟩ vb)) := fun W wb vb hW hN => by
    rw [← wcells15_append, ← er] at hN
    obtain ⟨q1, q2⟩ := (h.below hW).laid hN (by rw [er, List.length_append, List.length_take, List.length_drop]; omega) okr
    exact ⟨q1, left_fromR hW q2⟩
  have p0 : (0 : Int) ≤ (p : Int) := by omega
  have pz : ¬ (p : Int) < 0 := by omega
  have p1 : (p : Int) + 1 ≤ ((p + 1) : Nat) := by omega
  have p2 : (p : Int) ≤ ((p + 1) : Nat) := by omega
  have p3 : (0 : Int) ≤ (p : Int) + 1 := by omega
  have p4 : (p : Int) ≤ (p : Int) + 1 := by omega
  have pw : IntKind.i64.wrap ((p : Int) + 1) = (p : Int) + 1 := by rw [IntKind.wrap_i64]; omega
  have pt : ((p : Int) + 1).toNat = p + 1 := by omega
  have mixed : Try.prog.follows Departure.mixedOrders = true := by kernel_rfl
  obtain ⟨hNc1, hNc2⟩ := hNc
  have k0 := h.cells.1
  have EL := Hid.intro elem_wb15
  have ONE := Hid.intro (wcells15_onecell (L.take p))
  have ONE2 := Hid.intro (wcells15_onecell (L.drop (p + 1)))
  clear h hf hk er okr OWN
  generalize wcells15 (L.take p) = xs at *
  generalize wcells15 (L.drop (p + 1)) = ys at *
  rw [hn] at hf8
  clear hn
  generalize remWt L bed = L2 at *
  go_enter Try.func19, Try.ntmps19
  go_wp2_with fail
  refine FI.out.mono ?_
  rintro e w1 ⟨rfl, rfl⟩
  clear FI
  go_wp2_with fail
  have HS0 := KK.out w.drew (Below.refl _ w).drew
  refine until_start (S := (fun W => W.cell? ⟨b, 0, none⟩ = some (.slice (some ⟨g, 0, none⟩) (p + 1) (p + 1)))) (z := 19) (by kernel_rfl) ?_
  have BW : Hid (Below w.heap.size w w.drew) := (Below.refl _ w).drew
  clear k0
  generalize w.drew = Wd at *
  have HS : (fun W => W.cell? ⟨b, 0, none⟩ = some (.slice (some ⟨g, 0, none⟩) (p + 1) (p + 1))) Wd := HS0
  have SS : Hid (∀ X, Below Wd.heap.size Wd X → (fun W => W.cell? ⟨b, 0, none⟩ = some (.slice (some ⟨g, 0, none⟩) (p + 1) (p + 1))) X) := fun X hX => KK.out X (BW.out.trans (hX.mono BW.out.size))
  have FW := Hid.intro (fun wb vb hN => FN.out Wd wb vb BW.out hN)
  have S1 := Hid.intro (fun X (hX : Below Wd.heap.size Wd X) => SA.out X (BW.out.trans (hX.mono BW.out.size)))
  have S2 := Hid.intro (fun X (hX : Below Wd.heap.size Wd X) => SB.out X (BW.out.trans (hX.mono BW.out.size)))
  clear HS0 KK SA SB FN
  refine until_take (i := 0) (oi := ({ dst := some 11, op := Op.move (Operand.tmp 0), type := 64, pos := "ref.go:44", after := #[], guard := none } : Oper)) (oz := ({ dst := none, op := Op.store 35 (Operand.tmp 29) (Operand.tmp 27), type := 0, pos := "ref.go:44", after := #[{ on := 18, ground := Ground.data }, { on := 16, ground := Ground.data }, { on := 16, ground := Ground.chain }, { on := 0, ground := Ground.phase }, { on := 1, ground := Ground.phase }, { on := 2, ground := Ground.phase }, { on := 3, ground := Ground.phase }, { on := 4, ground := Ground.phase }, { on := 5, ground := Ground.phase }, { on := 6, ground := Ground.phase }, { on := 7, ground := Ground.phase }, { on := 8, ground := Ground.phase }, { on := 9, ground := Ground.phase }, { on := 10, ground := Ground.phase }, { on := 11, ground := Ground.phase }, { on := 12, ground := Ground.phase }, { on := 13, ground := Ground.phase }, { on := 14, ground := Ground.phase }, { on := 15, ground := Ground.phase }, { on := 16, ground := Ground.phase }], guard := none } : Oper)) (v := ?v0) rfl rfl (by kernel_rfl) (by kernel_rfl) (fun _ _ _ h => h) (Region.free_spec rfl (by kernel_rfl)) (of_containsW (by kernel_rfl)) (Or.inl ⟨by rfl, ?y0⟩) HS ?r0
  case y0 => (intro w hSw; (try dsimp only at hSw); go_simp; first | done | with_reducible rfl)
  (try simp only [Act.put, List.setIfInBounds_toArray, List.set_cons_zero, List.set_cons_succ])
  refine until_take (i := 2) (oi := ({ dst := some 13, op := Op.move (Operand.tmp 0), type := 64, pos := "ref.go:44", after := #[], guard := none } : Oper)) (oz := ({ dst := none, op := Op.store 35 (Operand.tmp 29) (Operand.tmp 27), type := 0, pos := "ref.go:44", after := #[{ on := 18, ground := Ground.data }, { on := 16, ground := Ground.data }, { on := 16, ground := Ground.chain }, { on := 0, ground := Ground.phase }, { on := 1, ground := Ground.phase }, { on := 2, ground := Ground.phase }, { on := 3, ground := Ground.phase }, { on := 4, ground := Ground.phase }, { on := 5, ground := Ground.phase }, { on := 6, ground := Ground.phase }, { on := 7, ground := Ground.phase }, { on := 8, ground := Ground.phase }, { on := 9, ground := Ground.phase }, { on := 10, ground := Ground.phase }, { on := 11, ground := Ground.phase }, { on := 12, ground := Ground.phase }, { on := 13, ground := Ground.phase }, { on := 14, ground := Ground.phase }, { on := 15, ground := Ground.phase }, { on := 16, ground := Ground.phase }], guard := none } : Oper)) (v := ?v2) rfl rfl (by kernel_rfl) (by kernel_rfl) (fun _ _ _ h => h) (Region.free_spec rfl (by kernel_rfl)) (of_containsW (by kernel_rfl)) (Or.inl ⟨by rfl, ?y2⟩) HS ?r2
  case y2 => (intro w hSw; (try dsimp only at hSw); go_simp; first | done | with_reducible rfl)
  (try simp only [Act.put, List.setIfInBounds_toArray, List.set_cons_zero, List.set_cons_succ])
  refine until_take (i := 3) (oi := ({ dst := some 14, op := Op.nilCheck (Operand.tmp 13), type := 0, pos := "ref.go:44", after := #[{ on := 2, ground := Ground.data }], guard := none } : Oper)) (oz := ({ dst := none, op := Op.store 35 (Operand.tmp 29) (Operand.tmp 27), type := 0, pos := "ref.go:44", after := #[{ on := 18, ground := Ground.data }, { on := 16, ground := Ground.data }, { on := 16, ground := Ground.chain }, { on := 0, ground := Ground.phase }, { on := 1, ground := Ground.phase }, { on := 2, ground := Ground.phase }, { on := 3, ground := Ground.phase }, { on := 4, ground := Ground.phase }, { on := 5, ground := Ground.phase }, { on := 6, ground := Ground.phase }, { on := 7, ground := Ground.phase }, { on := 8, ground := Ground.phase }, { on := 9, ground := Ground.phase }, { on := 10, ground := Ground.phase }, { on := 11, ground := Ground.phase }, { on := 12, ground := Ground.phase }, { on := 13, ground := Ground.phase }, { on := 14, ground := Ground.phase }, { on := 15, ground := Ground.phase }, { on := 16, ground := Ground.phase }], guard := none } : Oper)) (v := ?v3) rfl rfl (by kernel_rfl) (by kernel_rfl) (fun _ _ _ h => h) (Region.free_spec rfl (by kernel_rfl)) (of_containsW (by kernel_rfl)) (Or.inl ⟨by rfl, ?y3⟩) HS ?r3
  case y3 => (intro w hSw; (try dsimp only at hSw); go_simp; first | done | with_reducible rfl)
  (try simp only [Act.put, List.setIfInBounds_toArray, List.set_cons_zero, List.set_cons_succ])
  refine until_take (i := 4) (oi := ({ dst := some 15, op := Op.fieldAddr 37 (Operand.tmp 14) 0, type := 0, pos := "ref.go:44", after := #[{ on := 3, ground := Ground.data }], guard := none } : Oper)) (oz := ({ dst := none, op := Op.store 35 (Operand.tmp 29) (Operand.tmp 27), type := 0, pos := "ref.go:44", after := #[{ on := 18, ground := Ground.data }, { on := 16, ground := Ground.data }, { on := 16, ground := Ground.chain }, { on := 0, ground := Ground.phase }, { on := 1, ground := Ground.phase }, { on := 2, ground := Ground.phase }, { on := 3, ground := Ground.phase }, { on := 4, ground := Ground.phase }, { on := 5, ground := Ground.phase }, { on := 6, ground := Ground.phase }, { on := 7, ground := Ground.phase }, { on := 8, ground := Ground.phase }, { on := 9, ground := Ground.phase }, { on := 10, ground := Ground.phase }, { on := 11, ground := Ground.phase }, { on := 12, ground := Ground.phase }, { on := 13, ground := Ground.phase }, { on := 14, ground := Ground.phase }, { on := 15, ground := Ground.phase }, { on := 16, ground := Ground.phase }], guard := none } : Oper)) (v := ?v4) rfl rfl (by kernel_rfl) (by kernel_rfl) (fun _ _ _ h => h) (Region.free_spec rfl (by kernel_rfl)) (of_containsW (by kernel_rfl)) (Or.inl ⟨by rfl, ?y4⟩) HS ?r4
  case y4 => (intro w hSw; (try dsimp only at hSw); go_simp; first | done | with_reducible rfl)
  (try simp only [Act.put, List.setIfInBounds_toArray, List.set_cons_zero, List.set_cons_succ])
  refine until_take (i := 5) (oi := ({ dst := some 16, op := Op.load 35 (Operand.tmp 15), type := 35, pos := "ref.go:44", after := #[{ on := 4, ground := Ground.data }], guard := none } : Oper)) (oz := ({ dst := none, op := Op.store 35 (Operand.tmp 29) (Operand.tmp 27), type := 0, pos := "ref.go:44", after := #[{ on := 18, ground := Ground.data }, { on := 16, ground := Ground.data }, { on := 16, ground := Ground.chain }, { on := 0, ground := Ground.phase }, { on := 1, ground := Ground.phase }, { on := 2, ground := Ground.phase }, { on := 3, ground := Ground.phase }, { on := 4, ground := Ground.phase }, { on := 5, ground := Ground.phase }, { on := 6, ground := Ground.phase }, { on := 7, ground := Ground.phase }, { on := 8, ground := Ground.phase }, { on := 9, ground := Ground.phase }, { on := 10, ground := Ground.phase }, { on := 11, ground := Ground.phase }, { on := 12, ground := Ground.phase }, { on := 13, ground := Ground.phase }, { on := 14, ground := Ground.phase }, { on := 15, ground := Ground.phase }, { on := 16, ground := Ground.phase }], guard := none } : Oper)) (v := ?v5) rfl rfl (by kernel_rfl) (by kernel_rfl) (fun _ _ _ h => h) (Region.free_spec rfl (by kernel_rfl)) (of_containsW (by kernel_rfl)) (Or.inl ⟨by rfl, ?y5⟩) HS ?r5
  case y5 => (intro w hSw; (try dsimp only at hSw); go_simp; first | done | with_reducible rfl)
  (try simp only [Act.put, List.setIfInBounds_toArray, List.set_cons_zero, List.set_cons_succ])
  refine until_take (i := 6) (oi := ({ dst := some 17, op := Op.move (Operand.tmp 5), type := 3, pos := "ref.go:44", after := #[], guard := none } : Oper)) (oz := ({ dst := none, op := Op.store 35 (Operand.tmp 29) (Operand.tmp 27), type := 0, pos := "ref.go:44", after := #[{ on := 18, ground := Ground.data }, { on := 16, ground := Ground.data }, { on := 16, ground := Ground.chain }, { on := 0, ground := Ground.phase }, { on := 1, ground := Ground.phase }, { on := 2, ground := Ground.phase }, { on := 3, ground := Ground.phase }, { on := 4, ground := Ground.phase }, { on := 5, ground := Ground.phase }, { on := 6, ground := Ground.phase }, { on := 7, ground := Ground.phase }, { on := 8, ground := Ground.phase }, { on := 9, ground := Ground.phase }, { on := 10, ground := Ground.phase }, { on := 11, ground := Ground.phase }, { on := 12, ground := Ground.phase }, { on := 13, ground := Ground.phase }, { on := 14, ground := Ground.phase }, { on := 15, ground := Ground.phase }, { on := 16, ground := Ground.phase }], guard := none } : Oper)) (v := ?v6) rfl rfl (by kernel_rfl) (by kernel_rfl) (fun _ _ _ h => h) (Region.free_spec rfl (by kernel_rfl)) (of_containsW (by kernel_rfl)) (Or.inl ⟨by rfl, ?y6⟩) HS ?r6
  case y6 => (intro w hSw; (try dsimp only at hSw); go_simp; first | done | with_reducible rfl)
  (try simp only [Act.put, List.setIfInBounds_toArray, List.set_cons_zero, List.set_cons_succ])
  refine until_take (i := 7) (oi := ({ dst := some 18, op := Op.slice 35 (Operand.tmp 16) none (some (Operand.tmp 17)) none, type := 35, pos := "ref.go:44", after := #[{ on := 5, ground := Ground.data }, { on := 6, ground := Ground.data }], guard := none } : Oper)) (oz := ({ dst := none, op := Op.store 35 (Operand.tmp 29) (Operand.tmp 27), type := 0, pos := "ref.go:44", after := #[{ on := 18, ground := Ground.data }, { on := 16, ground := Ground.data }, { on := 16, ground := Ground.chain }, { on := 0, ground := Ground.phase }, { on := 1, ground := Ground.phase }, { on := 2, ground := Ground.phase }, { on := 3, ground := Ground.phase }, { on := 4, ground := Ground.phase }, { on := 5, ground := Ground.phase }, { on := 6, ground := Ground.phase }, { on := 7, ground := Ground.phase }, { on := 8, ground := Ground.phase }, { on := 9, ground := Ground.phase }, { on := 10, ground := Ground.phase }, { on := 11, ground := Ground.phase }, { on := 12, ground := Ground.phase }, { on := 13, ground := Ground.phase }, { on := 14, ground := Ground.phase }, { on := 15, ground := Ground.phase }, { on := 16, ground := Ground.phase }], guard := none } : Oper)) (v := ?v7) rfl rfl (by kernel_rfl) (by kernel_rfl) (fun _ _ _ h => h) (Region.free_spec rfl (by kernel_rfl)) (of_containsW (by kernel_rfl)) (Or.inl ⟨by rfl, ?y7⟩) HS ?r7
  case y7 => (intro w hSw; (try dsimp only at hSw); go_simp; first | done | with_reducible rfl)
  (try simp only [Act.put, List.setIfInBounds_toArray, List.set_cons_zero, List.set_cons_succ])
  refine until_take (i := 9) (oi := ({ dst := some 20, op := Op.move (Operand.tmp 0), type := 64, pos := "ref.go:44", after := #[], guard := none } : Oper)) (oz := ({ dst := none, op := Op.store 35 (Operand.tmp 29) (Operand.tmp 27), type := 0, pos := "ref.go:44", after := #[{ on := 18, ground := Ground.data }, { on := 16, ground := Ground.data }, { on := 16, ground := Ground.chain }, { on := 0, ground := Ground.phase }, { on := 1, ground := Ground.phase }, { on := 2, ground := Ground.phase }, { on := 3, ground := Ground.phase }, { on := 4, ground := Ground.phase }, { on := 5, ground := Ground.phase }, { on := 6, ground := Ground.phase }, { on := 7, ground := Ground.phase }, { on := 8, ground := Ground.phase }, { on := 9, ground := Ground.phase }, { on := 10, ground := Ground.phase }, { on := 11, ground := Ground.phase }, { on := 12, ground := Ground.phase }, { on := 13, ground := Ground.phase }, { on := 14, ground := Ground.phase }, { on := 15, ground := Ground.phase }, { on := 16, ground := Ground.phase }], guard := none } : Oper)) (v := ?v9) rfl rfl (by kernel_rfl) (by kernel_rfl) (fun _ _ _ h => h) (Region.free_spec rfl (by kernel_rfl)) (of_containsW (by kernel_rfl)) (Or.inl ⟨by rfl, ?y9⟩) HS ?r9
  case y9 => (intro w hSw; (try dsimp only at hSw); go_simp; first | done | with_reducible rfl)
  (try simp only [Act.put, List.setIfInBounds_toArray, List.set_cons_zero, List.set_cons_succ])
  refine until_take (i := 10) (oi := ({ dst := some 21, op := Op.nilCheck (Operand.tmp 20), type := 0, pos := "ref.go:44", after := #[{ on := 9, ground := Ground.data }], guard := none } : Oper)) (oz := ({ dst := none, op := Op.store 35 (Operand.tmp 29) (Operand.tmp 27), type := 0, pos := "ref.go:44", after := #[{ on := 18, ground := Ground.data }, { on := 16, ground := Ground.data }, { on := 16, ground := Ground.chain }, { on := 0, ground := Ground.phase }, { on := 1, ground := Ground.phase }, { on := 2, ground := Ground.phase }, { on := 3, ground := Ground.phase }, { on := 4, ground := Ground.phase }, { on := 5, ground := Ground.phase }, { on := 6, ground := Ground.phase }, { on := 7, ground := Ground.phase }, { on := 8, ground := Ground.phase }, { on := 9, ground := Ground.phase }, { on := 10, ground := Ground.phase }, { on := 11, ground := Ground.phase }, { on := 12, ground := Ground.phase }, { on := 13, ground := Ground.phase }, { on := 14, ground := Ground.phase }, { on := 15, ground := Ground.phase }, { on := 16, ground := Ground.phase }], guard := none } : Oper)) (v := ?v10) rfl rfl (by kernel_rfl) (by kernel_rfl) (fun _ _ _ h => h) (Region.free_spec rfl (by kernel_rfl)) (of_containsW (by kernel_rfl)) (Or.inl ⟨by rfl, ?y10⟩) HS ?r10
  case y10 => (intro w hSw; (try dsimp only at hSw); go_simp; first | done | with_reducible rfl)
  (try simp only [Act.put, List.setIfInBounds_toArray, List.set_cons_zero, List.set_cons_succ])
  refine until_take (i := 11) (oi := ({ dst := some 22, op := Op.fieldAddr 37 (Operand.tmp 21) 0, type := 0, pos := "ref.go:44", after := #[{ on := 10, ground := Ground.data }], guard := none } : Oper)) (oz := ({ dst := none, op := Op.store 35 (Operand.tmp 29) (Operand.tmp 27), type := 0, pos := "ref.go:44", after := #[{ on := 18, ground := Ground.data }, { on := 16, ground := Ground.data }, { on := 16, ground := Ground.chain }, { on := 0, ground := Ground.phase }, { on := 1, ground := Ground.phase }, { on := 2, ground := Ground.phase }, { on := 3, ground := Ground.phase }, { on := 4, ground := Ground.phase }, { on := 5, ground := Ground.phase }, { on := 6, ground := Ground.phase }, { on := 7, ground := Ground.phase }, { on := 8, ground := Ground.phase }, { on := 9, ground := Ground.phase }, { on := 10, ground := Ground.phase }, { on := 11, ground := Ground.phase }, { on := 12, ground := Ground.phase }, { on := 13, ground := Ground.phase }, { on := 14, ground := Ground.phase }, { on := 15, ground := Ground.phase }, { on := 16, ground := Ground.phase }], guard := none } : Oper)) (v := ?v11) rfl rfl (by kernel_rfl) (by kernel_rfl) (fun _ _ _ h => h) (Region.free_spec rfl (by kernel_rfl)) (of_containsW (by kernel_rfl)) (Or.inl ⟨by rfl, ?y11⟩) HS ?r11
  case y11 => (intro w hSw; (try dsimp only at hSw); go_simp; first | done | with_reducible rfl)
  (try simp only [Act.put, List.setIfInBounds_toArray, List.set_cons_zero, List.set_cons_succ])
  refine until_take (i := 12) (oi := ({ dst := some 23, op := Op.load 35 (Operand.tmp 22), type := 35, pos := "ref.go:44", after := #[{ on := 11, ground := Ground.data }], guard := none } : Oper)) (oz := ({ dst := none, op := Op.store 35 (Operand.tmp 29) (Operand.tmp 27), type := 0, pos := "ref.go:44", after := #[{ on := 18, ground := Ground.data }, { on := 16, ground := Ground.data }, { on := 16, ground := Ground.chain }, { on := 0, ground := Ground.phase }, { on := 1, ground := Ground.phase }, { on := 2, ground := Ground.phase }, { on := 3, ground := Ground.phase }, { on := 4, ground := Ground.phase }, { on := 5, ground := Ground.phase }, { on := 6, ground := Ground.phase }, { on := 7, ground := Ground.phase }, { on := 8, ground := Ground.phase }, { on := 9, ground := Ground.phase }, { on := 10, ground := Ground.phase }, { on := 11, ground := Ground.phase }, { on := 12, ground := Ground.phase }, { on := 13, ground := Ground.phase }, { on := 14, ground := Ground.phase }, { on := 15, ground := Ground.phase }, { on := 16, ground := Ground.phase }], guard := none } : Oper)) (v := ?v12) rfl rfl (by kernel_rfl) (by kernel_rfl) (fun _ _ _ h => h) (Region.free_spec rfl (by kernel_rfl)) (of_containsW (by kernel_rfl)) (Or.inl ⟨by rfl, ?y12⟩) HS ?r12
  case y12 => (intro w hSw; (try dsimp only at hSw); go_simp; first | done | with_reducible rfl)
  (try simp only [Act.put, List.setIfInBounds_toArray, List.set_cons_zero, List.set_cons_succ])
  refine until_take (i := 13) (oi := ({ dst := some 24, op := Op.move (Operand.tmp 5), type := 3, pos := "ref.go:44", after := #[], guard := none } : Oper)) (oz := ({ dst := none, op := Op.store 35 (Operand.tmp 29) (Operand.tmp 27), type := 0, pos := "ref.go:44", after := #[{ on := 18, ground := Ground.data }, { on := 16, ground := Ground.data }, { on := 16, ground := Ground.chain }, { on := 0, ground := Ground.phase }, { on := 1, ground := Ground.phase }, { on := 2, ground := Ground.phase }, { on := 3, ground := Ground.phase }, { on := 4, ground := Ground.phase }, { on := 5, ground := Ground.phase }, { on := 6, ground := Ground.phase }, { on := 7, ground := Ground.phase }, { on := 8, ground := Ground.phase }, { on := 9, ground := Ground.phase }, { on := 10, ground := Ground.phase }, { on := 11, ground := Ground.phase }, { on := 12, ground := Ground.phase }, { on := 13, ground := Ground.phase }, { on := 14, ground := Ground.phase }, { on := 15, ground := Ground.phase }, { on := 16, ground := Ground.phase }], guard := none } : Oper)) (v := ?v13) rfl rfl (by kernel_rfl) (by kernel_rfl) (fun _ _ _ h => h) (Region.free_spec rfl (by kernel_rfl)) (of_containsW (by kernel_rfl)) (Or.inl ⟨by rfl, ?y13⟩) HS ?r13
  case y13 => (intro w hSw; (try dsimp only at hSw); go_simp; first | done | with_reducible rfl)
  (try simp only [Act.put, List.setIfInBounds_toArray, List.set_cons_zero, List.set_cons_succ])
  refine until_take (i := 14) (oi := ({ dst := some 25, op := Op.binOp BinOp.add 3 (Operand.tmp 24) (Operand.const (Value.int IntKind.i64 1)) 3, type := 3, pos := "ref.go:44", after := #[{ on := 13, ground := Ground.data }], guard := none } : Oper)) (oz := ({ dst := none, op := Op.store 35 (Operand.tmp 29) (Operand.tmp 27), type := 0, pos := "ref.go:44", after := #[{ on := 18, ground := Ground.data }, { on := 16, ground := Ground.data }, { on := 16, ground := Ground.chain }, { on := 0, ground := Ground.phase }, { on := 1, ground := Ground.phase }, { on := 2, ground := Ground.phase }, { on := 3, ground := Ground.phase }, { on := 4, ground := Ground.phase }, { on := 5, ground := Ground.phase }, { on := 6, ground := Ground.phase }, { on := 7, ground := Ground.phase }, { on := 8, ground := Ground.phase }, { on := 9, ground := Ground.phase }, { on := 10, ground := Ground.phase }, { on := 11, ground := Ground.phase }, { on := 12, ground := Ground.phase }, { on := 13, ground := Ground.phase }, { on := 14, ground := Ground.phase }, { on := 15, ground := Ground.phase }, { on := 16, ground := Ground.phase }], guard := none } : Oper)) (v := ?v14) rfl rfl (by kernel_rfl) (by kernel_rfl) (fun _ _ _ h => h) (Region.free_spec rfl (by kernel_rfl)) (of_containsW (by kernel_rfl)) (Or.inl ⟨by rfl, ?y14⟩) HS ?r14
  case y14 => (intro w hSw; (try dsimp only at hSw); go_simp; first | done | with_reducible rfl)
  (try simp only [Act.put, List.setIfInBounds_toArray, List.set_cons_zero, List.set_cons_succ])
  refine until_take (i := 15) (oi := ({ dst := some 26, op := Op.slice 35 (Operand.tmp 23) (some (Operand.tmp 25)) none none, type := 35, pos := "ref.go:44", after := #[{ on := 12, ground := Ground.data }, { on := 14, ground := Ground.data }], guard := none } : Oper)) (oz := ({ dst := none, op := Op.store 35 (Operand.tmp 29) (Operand.tmp 27), type := 0, pos := "ref.go:44", after := #[{ on := 18, ground := Ground.data }, { on := 16, ground := Ground.data }, { on := 16, ground := Ground.chain }, { on := 0, ground := Ground.phase }, { on := 1, ground := Ground.phase }, { on := 2, ground := Ground.phase }, { on := 3, ground := Ground.phase }, { on := 4, ground := Ground.phase }, { on := 5, ground := Ground.phase }, { on := 6, ground := Ground.phase }, { on := 7, ground := Ground.phase }, { on := 8, ground := Ground.phase }, { on := 9, ground := Ground.phase }, { on := 10, ground := Ground.phase }, { on := 11, ground := Ground.phase }, { on := 12, ground := Ground.phase }, { on := 13, ground := Ground.phase }, { on := 14, ground := Ground.phase }, { on := 15, ground := Ground.phase }, { on := 16, ground := Ground.phase }], guard := none } : Oper)) (v := ?v15) rfl rfl (by kernel_rfl) (by kernel_rfl) (fun _ _ _ h => h) (Region.free_spec rfl (by kernel_rfl)) (of_containsW (by kernel_rfl)) (Or.inl ⟨by rfl, ?y15⟩) HS ?r15
  case y15 => (intro w hSw; (try dsimp only at hSw); go_simp; first | done | with_reducible rfl)
  (try simp only [Act.put, List.setIfInBounds_toArray, List.set_cons_zero, List.set_cons_succ])
  refine until_one (i := 1) (by kernel_rfl) ?_
  refine comes (o := ({ dst := some 12, op := Op.buildSlice 35 0 #[], type := 35, pos := "ref.go:44", after := #[], guard := none } : Oper)) rfl (fun K hK => ?_)
  go_simp
  refine hK.out _ _ (fun _ => SS.out _ (bel_allocR (Below.refl _ _) (Nat.le_refl _) _)) ?_
  clear hK K
  (try simp only [Act.put, List.setIfInBounds_toArray, List.set_cons_zero, List.set_cons_succ])
  refine until_one (i := 8) (by kernel_rfl) ?_
  refine comes (o := ({ dst := some 19, op := Op.call { callee := Callee.builtin Builtin.append, args := #[Operand.tmp 12, Operand.tmp 18], argTypes := #[35, 35] }, type := 35, pos := "ref.go:44", after := #[{ on := 1, ground := Ground.data }, { on := 7, ground := Ground.data }], guard := none } : Oper)) rfl (fun K hK => ?_)
  refine step_append_row (by rfl) _ _ EL.out (by rfl) _ 0 [] (by rfl) (own_emptyR (alloc_atR (by simp))) (.slice (some ⟨g, 0, none⟩) p (p + 1)) p xs (by rfl) (S1.out _ (bel_allocR (Below.refl _ _) (Nat.le_refl _) _)) ONE.out (by omega) ?_
  intro va wa hown hgrow hat
  have QF := apF (H := Wd.heap.size) (w0 := Wd) (alloc_atR (by simp)) (by first | (dsimp only; omega) | (simp; done)) (bel_allocR (Below.refl _ _) (Nat.le_refl _) _) (Nat.le_refl _) hown hgrow hat
  clear hown hgrow hat
  refine hK.out _ _ (fun _ => SS.out _ QF.below) ?_
  clear hK K
  (try simp only [Act.put, List.setIfInBounds_toArray, List.set_cons_zero, List.set_cons_succ])
  refine until_one (i := 16) (by kernel_rfl) ?_
  refine comes (o := ({ dst := some 27, op := Op.call { callee := Callee.builtin Builtin.append, args := #[Operand.tmp 19, Operand.tmp 26], argTypes := #[35, 35] }, type := 35, pos := "ref.go:44", after := #[{ on := 8, ground := Ground.data }, { on := 15, ground := Ground.data }, { on := 8, ground := Ground.chain }], guard := none } : Oper)) rfl (fun K hK => ?_)
  refine step_append_row (by rfl) _ _ EL.out (by rfl) va p xs (by rfl) QF.own (.slice (some ⟨g, 0, none⟩) 0 0) 0 ys (by rfl) (S2.out _ QF.below) ONE2.out (by omega) ?_
  intro vb wb hown hgrow hat
  have QG := newR QF.ge QF.below (Nat.le_refl _) hown hgrow hat
  obtain ⟨oa, oc, e, _⟩ := ownsRow_form hown
  subst e
  obtain ⟨⟨z1, z2⟩, z3⟩ := FW.out wb _ QG
  have FIN := Hid.intro z3
  have GB := Hid.intro QG.below
  clear hown hgrow hat z3 QF QG
  refine hK.out _ _ (fun _ => SS.out _ GB.out) ?_
  clear hK K
  (try simp only [Act.put, List.setIfInBounds_toArray, List.set_cons_zero, List.set_cons_succ])
  refine until_one (i := 17) (by kernel_rfl) ?_
  refine comes (o := ({ dst := some 28, op := Op.nilCheck (Operand.tmp 11), type := 0, pos := "ref.go:44", after := #[{ on := 0, ground := Ground.data }, { on := 0, ground := Ground.phase }, { on := 1, ground := Ground.phase }, { on := 2, ground := Ground.phase }, { on := 3, ground := Ground.phase }, { on := 4, ground := Ground.phase }, { on := 5, ground := Ground.phase }, { on := 6, ground := Ground.phase }, { on := 7, ground := Ground.phase }, { on := 8, ground := Ground.phase }, { on := 9, ground := Ground.phase }, { on := 10, ground := Ground.phase }, { on := 11, ground := Ground.phase }, { on := 12, ground := Ground.phase }, { on := 13, ground := Ground.phase }, { on := 14, ground := Ground.phase }, { on := 15, ground := Ground.phase }, { on := 16, ground := Ground.phase }], guard := none } : Oper)) rfl (fun K hK => ?_)
  go_simp
  refine hK.out _ _ (fun _ => SS.out _ GB.out) ?_
  clear hK K
  (try simp only [Act.put, List.setIfInBounds_toArray, List.set_cons_zero, List.set_cons_succ])
  refine until_one (i := 18) (by kernel_rfl) ?_
  refine comes (o := ({ dst := some 29, op := Op.fieldAddr 37 (Operand.tmp 28) 0, type := 0, pos := "ref.go:44", after := #[{ on := 17, ground := Ground.data }, { on := 0, ground := Ground.phase }, { on := 1, ground := Ground.phase }, { on := 2, ground := Ground.phase }, { on := 3, ground := Ground.phase }, { on := 4, ground := Ground.phase }, { on := 5, ground := Ground.phase }, { on := 6, ground := Ground.phase }, { on := 7, ground := Ground.phase }, { on := 8, ground := Ground.phase }, { on := 9, ground := Ground.phase }, { on := 10, ground := Ground.phase }, { on := 11, ground := Ground.phase }, { on := 12, ground := Ground.phase }, { on := 13, ground := Ground.phase }, { on := 14, ground := Ground.phase }, { on := 15, ground := Ground.phase }, { on := 16, ground := Ground.phase }], guard := none } : Oper)) rfl (fun K hK => ?_)
  go_simp
  refine hK.out _ _ (fun _ => SS.out _ GB.out) ?_
  clear hK K
  (try simp only [Act.put, List.setIfInBounds_toArray, List.set_cons_zero, List.set_cons_succ])
  refine until_one (i := 19) (by kernel_rfl) ?_
  refine comes (o := ({ dst := none, op := Op.store 35 (Operand.tmp 29) (Operand.tmp 27), type := 0, pos := "ref.go:44", after := #[{ on := 18, ground := Ground.data }, { on := 16, ground := Ground.data }, { on := 16, ground := Ground.chain }, { on := 0, ground := Ground.phase }, { on := 1, ground := Ground.phase }, { on := 2, ground := Ground.phase }, { on := 3, ground := Ground.phase }, { on := 4, ground := Ground.phase }, { on := 5, ground := Ground.phase }, { on := 6, ground := Ground.phase }, { on := 7, ground := Ground.phase }, { on := 8, ground := Ground.phase }, { on := 9, ground := Ground.phase }, { on := 10, ground := Ground.phase }, { on := 11, ground := Ground.phase }, { on := 12, ground := Ground.phase }, { on := 13, ground := Ground.phase }, { on := 14, ground := Ground.phase }, { on := 15, ground := Ground.phase }, { on := 16, ground := Ground.phase }], guard := none } : Oper)) rfl (fun K hK => ?_)
  go_simp
  refine hK.out _ _ (fun q => absurd rfl q) ?_
  clear hK K
  (try simp only [Act.put, List.setIfInBounds_toArray, List.set_cons_zero, List.set_cons_succ])
  refine until_done (by kernel_rfl) ?_ _
  clear z1 z2 HS SS S1 S2 FW
  go_wp2
  go_ret
  exact ⟨rfl, FIN.out⟩

theorem refRem15_any (b : Nat) (bed : Int) (S : Nat → Prop) (L : List Wb) (w : World) (h : WR b L S w) :
    Calls Try.prog 19 #[.pointer (some ⟨b, 0, none⟩), .int .i64 bed] w fun e w' => e = .returned (.int .i64 (remWe L bed)) ∧ LeftG (WR b (remWt L bed)) S w w' := by
  obtain ⟨v, h⟩ := h
  unfold remWe
  rcases posP_ways (isWb bed) L with ⟨p1, p2, p3⟩ | ⟨i, hi, p1, p2, p3⟩
  · have FI := Hid.intro (refFind15_any b bed S v L w h)
    rw [p1] at FI
    rw [p2, rem_none p3]
    simp only [Option.isSome_none, Bool.false_eq_true, if_false]
    have HS := Hid.intro (h.same (Below.refl _ w))
    clear h p1 p2 p3
    go_enter Try.func19, Try.ntmps19
    go_wp2_with fail
    refine FI.out.mono ?_
    rintro e w1 ⟨rfl, rfl⟩
    clear FI
    go_wp2
    go_ret
    exact ⟨rfl, HS.out⟩
  · rw [p2]
    simp only [Option.isSome_some, if_true]
    obtain ⟨ao, c, rfl, hz⟩ := ownsRow_form h.own
    obtain ⟨g, rfl⟩ := hz.resolve_left (by omega)
    by_cases hc : c = i + 1
    · exact refRem15_full b g L.length c i bed S L w h rfl hi p1 p3 hc
    · exact refRem15_some b g L.length c i bed S L w h rfl hi p1 p3 hc

end Go.Proofs.Ytngfgahdiobcmaa
