/- The document's own answer of layer 14: See. -/
import Derived.Test.YtcloneccfbcclaaLmRefF
import Derived.Test.YtcloneccfbcclaaLmRefO
import Derived.Test.YtcloneccfbcclaaRgLast
namespace Go.Proofs.Ytcloneccfbcclaa
open Go.RowKit
open Bt

theorem of_containsS {l : List Nat} {i : Nat} (h : l.contains i = true) : i ∈ l := by simpa using h

theorem info_int14 : (Try.prog.info? 3).map (fun i => (i.zero, i.size, i.bytes)) = some (some (.int .i64 0), 1, 8) := by kernel_rfl

theorem elem_int : ElemT 46 3 1 := by
  obtain ⟨i, hi, hz0, hz1, hz2⟩ := info_parts info_int14
  exact ⟨Try.underlying46, ⟨i, _, 8, hi, hz0, hz1, hz2, rfl, by omega⟩, by omega⟩

theorem iv_one (ms : List Int) : ∀ u ∈ ms.map Iv, u.oneCell' = true := fun u hu => by
  obtain ⟨n, _, rfl⟩ := List.mem_map.1 hu
  rfl

/-- A value came: its row is another one, in new memory. -/
theorem RT.seen {S : Nat → Prop} {w wb : World} {b gV n cV : Nat} {vL vb : Value} {zs : List Rz} {m i N : Nat} {v : Int} (h : RT S w b vL (.slice (some ⟨gV, 0, none⟩) n cV) zs m) (hi : i < zs.length) (hN : NewR 3 1 w.heap.size w N (zs[i].vs.map Iv ++ [Iv v]) wb vb) (hNl : N = zs[i].vs.length + 1) (ok : OkT ((kpsR zs).set i (stepK (kpR zs[i]) v)) (m + 1)) :
    (wb.cell? ⟨gV, i, none⟩ = some zs[i].v ∧ wb.frozen? ⟨gV, i, none⟩ = false) ∧ ∃ zs', kpsR zs' = (kpsR zs).set i (stepK (kpR zs[i]) v) ∧ RT (fun k => (S k ∨ w.heap.size ≤ k) ∧ k < wb.heap.size) (wb.setCell ⟨gV, i, none⟩ vb) b vL (.slice (some ⟨gV, 0, none⟩) n cV) zs' (m + 1) ∧ Chg S w (wb.setCell ⟨gV, i, none⟩ vb) := by
  subst hNl
  obtain rfl : n = zs.length := by obtain ⟨_, _, e, _⟩ := ownsRow_form h.ov; cases e; rfl
  have h1 := h.below hN.below
  have C : Chg (fun k => k = gV) wb (wb.setCell ⟨gV, i, none⟩ vb) := (Chg.refl _ wb).setCell (S := fun k => k = gV) (p := ⟨gV, i, none⟩) (fun _ => rfl) _
  have ov := (World.ownsRow.stored h1.ov i vb).1
  have hbV : b ≠ gV := fun q => row_not_block h1.ov h1.head (by decide) (by rw [q]; rfl)
  have s1 := hN.below.size
  have s2 := C.size
  have ek : kpsR (zs.set i ⟨zs[i].lm, zs[i].vs ++ [v], vb⟩) = (kpsR zs).set i (stepK (kpR zs[i]) v) := by
    unfold kpsR
    rw [List.map_set]
    congr 1
    unfold kpR stepK
    simp only [outN_snoc]
  have own' := ownsRow_keep hN.own fun k hk => C.block k (World.ownsRow.lt hN.own k hk).2 (fun q => rows_apart hN.own h1.ov (by decide) k hk (by rw [q]; rfl))
  refine ⟨⟨h1.valAt hi rfl, frozen_own h1.ov i⟩, zs.set i ⟨zs[i].lm, zs[i].vs ++ [v], vb⟩, ek, ⟨(C.block b (h1.lt b h1.inB) hbV).trans h1.head, ?_, ?_, fun z hz => ?_, ⟨.inl h.inB, by have := h.lt b h.inB; omega⟩, fun k hk => ⟨.inl (h.inL k hk), by have := h.lt k (h.inL k hk); omega⟩, fun k hk => ⟨.inl (h.inV k hk), by have := h.lt k (h.inV k hk); omega⟩, fun k hk => by have := hk.2; omega, by rw [ek]; exact ok, fun z hz => ?_⟩, ?_⟩
  · rw [List.length_set, List.map_set]
    have e : (zs.map Rz.lm).set i zs[i].lm = zs.map Rz.lm := by
      have : zs[i].lm = (zs.map Rz.lm)[i]'(by simpa using hi) := by simp
      rw [this, List.set_getElem_self]
    simp only [e]
    exact ownsRow_keep h1.ol fun k hk => C.block k (World.ownsRow.lt h1.ol k hk).2 (fun q => rows_apart h1.ol h1.ov (by decide) k hk (by rw [q]; rfl))
  · rw [List.length_set, List.map_set]
    exact ov
  · rcases List.mem_or_eq_of_mem_set hz with hz | rfl
    · exact ⟨ownsRow_keep (h1.iv z hz).1 fun k hk => C.block k (World.ownsRow.lt (h1.iv z hz).1 k hk).2 (fun q => rows_apart (h1.iv z hz).1 h1.ov (by decide) k hk (by rw [q]; rfl)), fun k hk => ⟨.inl ((h1.iv z hz).2 k hk), (World.ownsRow.lt (h1.iv z hz).1 k hk).2⟩⟩
    · refine ⟨?_, fun k hk => ⟨.inr (hN.ge k hk), (World.ownsRow.lt hN.own k hk).2⟩⟩
      simp only [List.length_append, List.map_append]
      exact own'
  · rcases List.mem_or_eq_of_mem_set hz with hz | rfl
    · exact Nat.le_succ_of_le (h.few z hz)
    · have := h.few zs[i] (List.getElem_mem hi)
      simp only [List.length_append, List.length_singleton]
      omega
  · exact ((below_chg hN.below).mono (fun _ f _ => f.elim)).trans C (fun k q _ => by rw [q]; exact h.inV gV rfl)

set_option maxRecDepth 100000 in
set_option maxHeartbeats 4000000 in
theorem refSee14_at (b : Nat) (bed kind v : Int) (S : Nat → Prop) (vL vV : Value) (zs : List Rz) (m : Nat) (hm : m < 90000) (w : World) (h : RT S w b vL vV zs m) (i : Nat) (hi : i < zs.length) (hp : posK (kpsR zs) bed kind = i) (hs : seeT (kpsR zs) bed kind v = (kpsR zs).set i (stepK (kpR zs[i]) v)) :
    Calls Try.prog 21 #[.pointer (some ⟨b, 0, none⟩), .int .i64 bed, .int .i64 kind, .int .i64 v] w fun e w' => e = .returned (.tuple #[.bool (onK (kpsR zs) bed kind), .bool (onK (seeT (kpsR zs) bed kind v) bed kind)]) ∧ LeftG (RB b (seeT (kpsR zs) bed kind v) (m + 1)) S w w' := by
  have ok := seeT_ok h.ok bed kind v
  rw [hs] at ok
  have FI := Hid.intro (refFind14_any b bed kind S vL vV zs m w h)
  rw [hp] at FI
  have O1 := Hid.intro (refOn14_any b bed kind S vL vV zs m (by omega) w h)
  obtain ⟨aV, cV, hvV, zV⟩ := ownsRow_form h.ov
  subst hvV
  obtain ⟨gV, rfl⟩ := zV.resolve_left (by omega)
  have hf := h.ok.few
  rw [kps_len] at hf
  have hv := h.few zs[i] (List.getElem_mem hi)
  obtain ⟨ao, cc, hzv, _⟩ := ownsRow_form (h.iv zs[i] (List.getElem_mem hi)).1
  have KK := Hid.intro (fun (W : World) (hW : Below w.heap.size w W) => (show W.cell? ⟨b, 1, none⟩ = some (.slice (some ⟨gV, 0, none⟩) zs.length cV) ∧ W.cell? ⟨gV, i, none⟩ = some (.slice ao zs[i].vs.length cc) from ⟨(h.below hW).cells.2.1, by rw [← hzv]; exact (h.below hW).valAt hi rfl⟩))
  have SRC := Hid.intro (fun (W : World) (hW : Below w.heap.size w W) => show SrcV W 1 (.slice ao zs[i].vs.length cc) zs[i].vs.length (zs[i].vs.map Iv) from by rw [← hzv]; exact src_own ((h.below hW).iv zs[i] (List.getElem_mem hi)).1)
  have FN : Hid (∀ (w1 wb : World) (vb : Value), Below w.heap.size w w1 → NewR 3 1 w1.heap.size w1 (zs[i].vs.length + 1) (zs[i].vs.map Iv ++ [Iv v]) wb vb → (wb.cell? ⟨gV, i, none⟩ = some (.slice ao zs[i].vs.length cc) ∧ wb.frozen? ⟨gV, i, none⟩ = false) ∧ Calls Try.prog 23 #[.pointer (some ⟨b, 0, none⟩), .int .i64 bed, .int .i64 kind] (wb.setCell ⟨gV, i, none⟩ vb) fun e w' => e = .returned (.bool (onK (seeT (kpsR zs) bed kind v) bed kind)) ∧ LeftG (RB b (seeT (kpsR zs) bed kind v) (m + 1)) S w w') := fun w1 wb vb hb hN => by
    obtain ⟨⟨q1, q2⟩, zs', q3, q4, q5⟩ := (h.below hb).seen hi hN rfl ok
    rw [hzv] at q1
    refine ⟨⟨q1, q2⟩, ?_⟩
    have on := refOn14_any b bed kind _ _ _ zs' (m + 1) (by omega) _ q4
    rw [q3, ← hs] at on
    refine on.mono fun e w' ⟨he, hb'⟩ => ⟨he, left_from hb ⟨_, ⟨_, _, zs', by rw [q3, hs], q4.below hb'⟩, q5.trans (below_chg hb') (fun _ f _ => f.elim), fun k hk => hk.1⟩⟩
  clear hs hp ok zV h
  generalize onK (seeT (kpsR zs) bed kind v) bed kind = r2 at *
  generalize onK (kpsR zs) bed kind = r1 at *
  have i0 : (0 : Int) ≤ (i : Int) := by omega
  have i1 : (i : Int) < (zs.length : Int) := by omega
  have i2 : ¬ (i : Int) < 0 := by omega
  generalize seeT (kpsR zs) bed kind v = T at *
  generalize zs[i].vs = vs at *
  clear hzv hi
  generalize zs.length = n at *
  have NL : Hid (vs.length = vs.length) := rfl
  generalize hN : vs.length = N at *
  have ELI := Hid.intro elem_int
  have ONE := Hid.intro (iv_one vs)
  generalize vs.map Iv = xs at *
  clear hN NL
  go_enter Try.func21, Try.ntmps21
  go_wp2_with fail
  refine FI.out.mono ?_
  rintro e w2 ⟨rfl, rfl⟩
  clear FI
  go_wp2_with fail
  refine O1.out.mono ?_
  rintro e w1 ⟨rfl, B1⟩
  clear O1
  have BH := Hid.intro B1
  clear B1
  go_wp2_with fail
  have HS0 := KK.out w1.drew BH.out.drew
  refine until_start (S := (fun W => W.cell? ⟨b, 1, none⟩ = some (.slice (some ⟨gV, 0, none⟩) n cV) ∧ W.cell? ⟨gV, i, none⟩ = some (.slice ao N cc))) (z := 18) (by kernel_rfl) ?_
  have BW : Hid (Below w.heap.size w w1.drew) := BH.out.drew
  generalize w1.drew = Wd at *
  have HS : (fun W => W.cell? ⟨b, 1, none⟩ = some (.slice (some ⟨gV, 0, none⟩) n cV) ∧ W.cell? ⟨gV, i, none⟩ = some (.slice ao N cc)) Wd := HS0
  have SS : Hid (∀ X, Below Wd.heap.size Wd X → (fun W => W.cell? ⟨b, 1, none⟩ = some (.slice (some ⟨gV, 0, none⟩) n cV) ∧ W.cell? ⟨gV, i, none⟩ = some (.slice ao N cc)) X) := fun X hX => KK.out X (BW.out.trans (hX.mono BW.out.size))
  have SA : Hid (∀ X, Below Wd.heap.size Wd X → SrcV X 1 (.slice ao N cc) N xs) := fun X hX => SRC.out X (BW.out.trans (hX.mono BW.out.size))
  have FW : Hid (∀ wb vb, NewR 3 1 Wd.heap.size Wd (N + 1) (xs ++ [Iv v]) wb vb → _) := fun wb vb hN => FN.out Wd wb vb BW.out hN
  clear HS0 KK SRC BH FN
  refine until_take (i := 0) (oi := ({ dst := some 22, op := Op.move (Operand.tmp 0), type := 67, pos := "ref.go:88", after := #[], guard := none } : Oper)) (oz := ({ dst := none, op := Op.store 46 (Operand.tmp 39) (Operand.tmp 38), type := 0, pos := "ref.go:88", after := #[{ on := 17, ground := Ground.data }, { on := 16, ground := Ground.data }, { on := 16, ground := Ground.chain }, { on := 0, ground := Ground.phase }, { on := 1, ground := Ground.phase }, { on := 2, ground := Ground.phase }, { on := 3, ground := Ground.phase }, { on := 4, ground := Ground.phase }, { on := 5, ground := Ground.phase }, { on := 6, ground := Ground.phase }, { on := 7, ground := Ground.phase }, { on := 8, ground := Ground.phase }, { on := 9, ground := Ground.phase }, { on := 10, ground := Ground.phase }, { on := 11, ground := Ground.phase }, { on := 12, ground := Ground.phase }, { on := 13, ground := Ground.phase }, { on := 14, ground := Ground.phase }, { on := 15, ground := Ground.phase }, { on := 16, ground := Ground.phase }], guard := none } : Oper)) (v := ?v0) rfl rfl (by kernel_rfl) (by kernel_rfl) (fun _ _ _ h => h) (Region.free_spec rfl (by kernel_rfl)) (of_containsS (by kernel_rfl)) (Or.inl ⟨by rfl, ?y0⟩) HS ?r0
  case y0 => (intro w hSw; (try dsimp only at hSw); go_simp; first | done | with_reducible rfl)
  (try simp only [Act.put, List.setIfInBounds_toArray, List.set_cons_zero, List.set_cons_succ])
  refine until_take (i := 1) (oi := ({ dst := some 23, op := Op.nilCheck (Operand.tmp 22), type := 0, pos := "ref.go:88", after := #[{ on := 0, ground := Ground.data }], guard := none } : Oper)) (oz := ({ dst := none, op := Op.store 46 (Operand.tmp 39) (Operand.tmp 38), type := 0, pos := "ref.go:88", after := #[{ on := 17, ground := Ground.data }, { on := 16, ground := Ground.data }, { on := 16, ground := Ground.chain }, { on := 0, ground := Ground.phase }, { on := 1, ground := Ground.phase }, { on := 2, ground := Ground.phase }, { on := 3, ground := Ground.phase }, { on := 4, ground := Ground.phase }, { on := 5, ground := Ground.phase }, { on := 6, ground := Ground.phase }, { on := 7, ground := Ground.phase }, { on := 8, ground := Ground.phase }, { on := 9, ground := Ground.phase }, { on := 10, ground := Ground.phase }, { on := 11, ground := Ground.phase }, { on := 12, ground := Ground.phase }, { on := 13, ground := Ground.phase }, { on := 14, ground := Ground.phase }, { on := 15, ground := Ground.phase }, { on := 16, ground := Ground.phase }], guard := none } : Oper)) (v := ?v1) rfl rfl (by kernel_rfl) (by kernel_rfl) (fun _ _ _ h => h) (Region.free_spec rfl (by kernel_rfl)) (of_containsS (by kernel_rfl)) (Or.inl ⟨by rfl, ?y1⟩) HS ?r1
  case y1 => (intro w hSw; (try dsimp only at hSw); go_simp; first | done | with_reducible rfl)
  (try simp only [Act.put, List.setIfInBounds_toArray, List.set_cons_zero, List.set_cons_succ])
  refine until_take (i := 2) (oi := ({ dst := some 24, op := Op.fieldAddr 39 (Operand.tmp 23) 1, type := 0, pos := "ref.go:88", after := #[{ on := 1, ground := Ground.data }], guard := none } : Oper)) (oz := ({ dst := none, op := Op.store 46 (Operand.tmp 39) (Operand.tmp 38), type := 0, pos := "ref.go:88", after := #[{ on := 17, ground := Ground.data }, { on := 16, ground := Ground.data }, { on := 16, ground := Ground.chain }, { on := 0, ground := Ground.phase }, { on := 1, ground := Ground.phase }, { on := 2, ground := Ground.phase }, { on := 3, ground := Ground.phase }, { on := 4, ground := Ground.phase }, { on := 5, ground := Ground.phase }, { on := 6, ground := Ground.phase }, { on := 7, ground := Ground.phase }, { on := 8, ground := Ground.phase }, { on := 9, ground := Ground.phase }, { on := 10, ground := Ground.phase }, { on := 11, ground := Ground.phase }, { on := 12, ground := Ground.phase }, { on := 13, ground := Ground.phase }, { on := 14, ground := Ground.phase }, { on := 15, ground := Ground.phase }, { on := 16, ground := Ground.phase }], guard := none } : Oper)) (v := ?v2) rfl rfl (by kernel_rfl) (by kernel_rfl) (fun _ _ _ h => h) (Region.free_spec rfl (by kernel_rfl)) (of_containsS (by kernel_rfl)) (Or.inl ⟨by rfl, ?y2⟩) HS ?r2
  case y2 => (intro w hSw; (try dsimp only at hSw); go_simp; first | done | with_reducible rfl)
  (try simp only [Act.put, List.setIfInBounds_toArray, List.set_cons_zero, List.set_cons_succ])
  refine until_take (i := 3) (oi := ({ dst := some 25, op := Op.load 37 (Operand.tmp 24), type := 37, pos := "ref.go:88", after := #[{ on := 2, ground := Ground.data }], guard := none } : Oper)) (oz := ({ dst := none, op := Op.store 46 (Operand.tmp 39) (Operand.tmp 38), type := 0, pos := "ref.go:88", after := #[{ on := 17, ground := Ground.data }, { on := 16, ground := Ground.data }, { on := 16, ground := Ground.chain }, { on := 0, ground := Ground.phase }, { on := 1, ground := Ground.phase }, { on := 2, ground := Ground.phase }, { on := 3, ground := Ground.phase }, { on := 4, ground := Ground.phase }, { on := 5, ground := Ground.phase }, { on := 6, ground := Ground.phase }, { on := 7, ground := Ground.phase }, { on := 8, ground := Ground.phase }, { on := 9, ground := Ground.phase }, { on := 10, ground := Ground.phase }, { on := 11, ground := Ground.phase }, { on := 12, ground := Ground.phase }, { on := 13, ground := Ground.phase }, { on := 14, ground := Ground.phase }, { on := 15, ground := Ground.phase }, { on := 16, ground := Ground.phase }], guard := none } : Oper)) (v := ?v3) rfl rfl (by kernel_rfl) (by kernel_rfl) (fun _ _ _ h => h) (Region.free_spec rfl (by kernel_rfl)) (of_containsS (by kernel_rfl)) (Or.inl ⟨by rfl, ?y3⟩) HS ?r3
  case y3 => (intro w hSw; (try dsimp only at hSw); go_simp; first | done | with_reducible rfl)
  (try simp only [Act.put, List.setIfInBounds_toArray, List.set_cons_zero, List.set_cons_succ])
  refine until_take (i := 4) (oi := ({ dst := some 26, op := Op.move (Operand.tmp 10), type := 3, pos := "ref.go:88", after := #[], guard := none } : Oper)) (oz := ({ dst := none, op := Op.store 46 (Operand.tmp 39) (Operand.tmp 38), type := 0, pos := "ref.go:88", after := #[{ on := 17, ground := Ground.data }, { on := 16, ground := Ground.data }, { on := 16, ground := Ground.chain }, { on := 0, ground := Ground.phase }, { on := 1, ground := Ground.phase }, { on := 2, ground := Ground.phase }, { on := 3, ground := Ground.phase }, { on := 4, ground := Ground.phase }, { on := 5, ground := Ground.phase }, { on := 6, ground := Ground.phase }, { on := 7, ground := Ground.phase }, { on := 8, ground := Ground.phase }, { on := 9, ground := Ground.phase }, { on := 10, ground := Ground.phase }, { on := 11, ground := Ground.phase }, { on := 12, ground := Ground.phase }, { on := 13, ground := Ground.phase }, { on := 14, ground := Ground.phase }, { on := 15, ground := Ground.phase }, { on := 16, ground := Ground.phase }], guard := none } : Oper)) (v := ?v4) rfl rfl (by kernel_rfl) (by kernel_rfl) (fun _ _ _ h => h) (Region.free_spec rfl (by kernel_rfl)) (of_containsS (by kernel_rfl)) (Or.inl ⟨by rfl, ?y4⟩) HS ?r4
  case y4 => (intro w hSw; (try dsimp only at hSw); go_simp; first | done | with_reducible rfl)
  (try simp only [Act.put, List.setIfInBounds_toArray, List.set_cons_zero, List.set_cons_succ])
  refine until_take (i := 6) (oi := ({ dst := some 28, op := Op.move (Operand.tmp 0), type := 67, pos := "ref.go:88", after := #[], guard := none } : Oper)) (oz := ({ dst := none, op := Op.store 46 (Operand.tmp 39) (Operand.tmp 38), type := 0, pos := "ref.go:88", after := #[{ on := 17, ground := Ground.data }, { on := 16, ground := Ground.data }, { on := 16, ground := Ground.chain }, { on := 0, ground := Ground.phase }, { on := 1, ground := Ground.phase }, { on := 2, ground := Ground.phase }, { on := 3, ground := Ground.phase }, { on := 4, ground := Ground.phase }, { on := 5, ground := Ground.phase }, { on := 6, ground := Ground.phase }, { on := 7, ground := Ground.phase }, { on := 8, ground := Ground.phase }, { on := 9, ground := Ground.phase }, { on := 10, ground := Ground.phase }, { on := 11, ground := Ground.phase }, { on := 12, ground := Ground.phase }, { on := 13, ground := Ground.phase }, { on := 14, ground := Ground.phase }, { on := 15, ground := Ground.phase }, { on := 16, ground := Ground.phase }], guard := none } : Oper)) (v := ?v6) rfl rfl (by kernel_rfl) (by kernel_rfl) (fun _ _ _ h => h) (Region.free_spec rfl (by kernel_rfl)) (of_containsS (by kernel_rfl)) (Or.inl ⟨by rfl, ?y6⟩) HS ?r6
  case y6 => (intro w hSw; (try dsimp only at hSw); go_simp; first | done | with_reducible rfl)
  (try simp only [Act.put, List.setIfInBounds_toArray, List.set_cons_zero, List.set_cons_succ])
  refine until_take (i := 7) (oi := ({ dst := some 29, op := Op.nilCheck (Operand.tmp 28), type := 0, pos := "ref.go:88", after := #[{ on := 6, ground := Ground.data }], guard := none } : Oper)) (oz := ({ dst := none, op := Op.store 46 (Operand.tmp 39) (Operand.tmp 38), type := 0, pos := "ref.go:88", after := #[{ on := 17, ground := Ground.data }, { on := 16, ground := Ground.data }, { on := 16, ground := Ground.chain }, { on := 0, ground := Ground.phase }, { on := 1, ground := Ground.phase }, { on := 2, ground := Ground.phase }, { on := 3, ground := Ground.phase }, { on := 4, ground := Ground.phase }, { on := 5, ground := Ground.phase }, { on := 6, ground := Ground.phase }, { on := 7, ground := Ground.phase }, { on := 8, ground := Ground.phase }, { on := 9, ground := Ground.phase }, { on := 10, ground := Ground.phase }, { on := 11, ground := Ground.phase }, { on := 12, ground := Ground.phase }, { on := 13, ground := Ground.phase }, { on := 14, ground := Ground.phase }, { on := 15, ground := Ground.phase }, { on := 16, ground := Ground.phase }], guard := none } : Oper)) (v := ?v7) rfl rfl (by kernel_rfl) (by kernel_rfl) (fun _ _ _ h => h) (Region.free_spec rfl (by kernel_rfl)) (of_containsS (by kernel_rfl)) (Or.inl ⟨by rfl, ?y7⟩) HS ?r7
  case y7 => (intro w hSw; (try dsimp only at hSw); go_simp; first | done | with_reducible rfl)
  (try simp only [Act.put, List.setIfInBounds_toArray, List.set_cons_zero, List.set_cons_succ])
  refine until_take (i := 8) (oi := ({ dst := some 30, op := Op.fieldAddr 39 (Operand.tmp 29) 1, type := 0, pos := "ref.go:88", after := #[{ on := 7, ground := Ground.data }], guard := none } : Oper)) (oz := ({ dst := none, op := Op.store 46 (Operand.tmp 39) (Operand.tmp 38), type := 0, pos := "ref.go:88", after := #[{ on := 17, ground := Ground.data }, { on := 16, ground := Ground.data }, { on := 16, ground := Ground.chain }, { on := 0, ground := Ground.phase }, { on := 1, ground := Ground.phase }, { on := 2, ground := Ground.phase }, { on := 3, ground := Ground.phase }, { on := 4, ground := Ground.phase }, { on := 5, ground := Ground.phase }, { on := 6, ground := Ground.phase }, { on := 7, ground := Ground.phase }, { on := 8, ground := Ground.phase }, { on := 9, ground := Ground.phase }, { on := 10, ground := Ground.phase }, { on := 11, ground := Ground.phase }, { on := 12, ground := Ground.phase }, { on := 13, ground := Ground.phase }, { on := 14, ground := Ground.phase }, { on := 15, ground := Ground.phase }, { on := 16, ground := Ground.phase }], guard := none } : Oper)) (v := ?v8) rfl rfl (by kernel_rfl) (by kernel_rfl) (fun _ _ _ h => h) (Region.free_spec rfl (by kernel_rfl)) (of_containsS (by kernel_rfl)) (Or.inl ⟨by rfl, ?y8⟩) HS ?r8
  case y8 => (intro w hSw; (try dsimp only at hSw); go_simp; first | done | with_reducible rfl)
  (try simp only [Act.put, List.setIfInBounds_toArray, List.set_cons_zero, List.set_cons_succ])
  refine until_take (i := 9) (oi := ({ dst := some 31, op := Op.load 37 (Operand.tmp 30), type := 37, pos := "ref.go:88", after := #[{ on := 8, ground := Ground.data }], guard := none } : Oper)) (oz := ({ dst := none, op := Op.store 46 (Operand.tmp 39) (Operand.tmp 38), type := 0, pos := "ref.go:88", after := #[{ on := 17, ground := Ground.data }, { on := 16, ground := Ground.data }, { on := 16, ground := Ground.chain }, { on := 0, ground := Ground.phase }, { on := 1, ground := Ground.phase }, { on := 2, ground := Ground.phase }, { on := 3, ground := Ground.phase }, { on := 4, ground := Ground.phase }, { on := 5, ground := Ground.phase }, { on := 6, ground := Ground.phase }, { on := 7, ground := Ground.phase }, { on := 8, ground := Ground.phase }, { on := 9, ground := Ground.phase }, { on := 10, ground := Ground.phase }, { on := 11, ground := Ground.phase }, { on := 12, ground := Ground.phase }, { on := 13, ground := Ground.phase }, { on := 14, ground := Ground.phase }, { on := 15, ground := Ground.phase }, { on := 16, ground := Ground.phase }], guard := none } : Oper)) (v := ?v9) rfl rfl (by kernel_rfl) (by kernel_rfl) (fun _ _ _ h => h) (Region.free_spec rfl (by kernel_rfl)) (of_containsS (by kernel_rfl)) (Or.inl ⟨by rfl, ?y9⟩) HS ?r9
  case y9 => (intro w hSw; (try dsimp only at hSw); go_simp; first | done | with_reducible rfl)
  (try simp only [Act.put, List.setIfInBounds_toArray, List.set_cons_zero, List.set_cons_succ])
  refine until_take (i := 10) (oi := ({ dst := some 32, op := Op.move (Operand.tmp 10), type := 3, pos := "ref.go:88", after := #[], guard := none } : Oper)) (oz := ({ dst := none, op := Op.store 46 (Operand.tmp 39) (Operand.tmp 38), type := 0, pos := "ref.go:88", after := #[{ on := 17, ground := Ground.data }, { on := 16, ground := Ground.data }, { on := 16, ground := Ground.chain }, { on := 0, ground := Ground.phase }, { on := 1, ground := Ground.phase }, { on := 2, ground := Ground.phase }, { on := 3, ground := Ground.phase }, { on := 4, ground := Ground.phase }, { on := 5, ground := Ground.phase }, { on := 6, ground := Ground.phase }, { on := 7, ground := Ground.phase }, { on := 8, ground := Ground.phase }, { on := 9, ground := Ground.phase }, { on := 10, ground := Ground.phase }, { on := 11, ground := Ground.phase }, { on := 12, ground := Ground.phase }, { on := 13, ground := Ground.phase }, { on := 14, ground := Ground.phase }, { on := 15, ground := Ground.phase }, { on := 16, ground := Ground.phase }], guard := none } : Oper)) (v := ?v10) rfl rfl (by kernel_rfl) (by kernel_rfl) (fun _ _ _ h => h) (Region.free_spec rfl (by kernel_rfl)) (of_containsS (by kernel_rfl)) (Or.inl ⟨by rfl, ?y10⟩) HS ?r10
  case y10 => (intro w hSw; (try dsimp only at hSw); go_simp; first | done | with_reducible rfl)
  (try simp only [Act.put, List.setIfInBounds_toArray, List.set_cons_zero, List.set_cons_succ])
  refine until_take (i := 11) (oi := ({ dst := some 33, op := Op.indexAddr 37 (Operand.tmp 31) (Operand.tmp 32), type := 0, pos := "ref.go:88", after := #[{ on := 9, ground := Ground.data }, { on := 10, ground := Ground.data }], guard := none } : Oper)) (oz := ({ dst := none, op := Op.store 46 (Operand.tmp 39) (Operand.tmp 38), type := 0, pos := "ref.go:88", after := #[{ on := 17, ground := Ground.data }, { on := 16, ground := Ground.data }, { on := 16, ground := Ground.chain }, { on := 0, ground := Ground.phase }, { on := 1, ground := Ground.phase }, { on := 2, ground := Ground.phase }, { on := 3, ground := Ground.phase }, { on := 4, ground := Ground.phase }, { on := 5, ground := Ground.phase }, { on := 6, ground := Ground.phase }, { on := 7, ground := Ground.phase }, { on := 8, ground := Ground.phase }, { on := 9, ground := Ground.phase }, { on := 10, ground := Ground.phase }, { on := 11, ground := Ground.phase }, { on := 12, ground := Ground.phase }, { on := 13, ground := Ground.phase }, { on := 14, ground := Ground.phase }, { on := 15, ground := Ground.phase }, { on := 16, ground := Ground.phase }], guard := none } : Oper)) (v := ?v11) rfl rfl (by kernel_rfl) (by kernel_rfl) (fun _ _ _ h => h) (Region.free_spec rfl (by kernel_rfl)) (of_containsS (by kernel_rfl)) (Or.inl ⟨by rfl, ?y11⟩) HS ?r11
  case y11 => (intro w hSw; (try dsimp only at hSw); go_simp; first | done | with_reducible rfl)
  (try simp only [Act.put, List.setIfInBounds_toArray, List.set_cons_zero, List.set_cons_succ])
  refine until_take (i := 12) (oi := ({ dst := some 34, op := Op.load 46 (Operand.tmp 33), type := 46, pos := "ref.go:88", after := #[{ on := 11, ground := Ground.data }], guard := none } : Oper)) (oz := ({ dst := none, op := Op.store 46 (Operand.tmp 39) (Operand.tmp 38), type := 0, pos := "ref.go:88", after := #[{ on := 17, ground := Ground.data }, { on := 16, ground := Ground.data }, { on := 16, ground := Ground.chain }, { on := 0, ground := Ground.phase }, { on := 1, ground := Ground.phase }, { on := 2, ground := Ground.phase }, { on := 3, ground := Ground.phase }, { on := 4, ground := Ground.phase }, { on := 5, ground := Ground.phase }, { on := 6, ground := Ground.phase }, { on := 7, ground := Ground.phase }, { on := 8, ground := Ground.phase }, { on := 9, ground := Ground.phase }, { on := 10, ground := Ground.phase }, { on := 11, ground := Ground.phase }, { on := 12, ground := Ground.phase }, { on := 13, ground := Ground.phase }, { on := 14, ground := Ground.phase }, { on := 15, ground := Ground.phase }, { on := 16, ground := Ground.phase }], guard := none } : Oper)) (v := ?v12) rfl rfl (by kernel_rfl) (by kernel_rfl) (fun _ _ _ h => h) (Region.free_spec rfl (by kernel_rfl)) (of_containsS (by kernel_rfl)) (Or.inl ⟨by rfl, ?y12⟩) HS ?r12
  case y12 => (intro w hSw; (try dsimp only at hSw); go_simp; first | done | with_reducible rfl)
  (try simp only [Act.put, List.setIfInBounds_toArray, List.set_cons_zero, List.set_cons_succ])
  refine until_take (i := 14) (oi := ({ dst := some 36, op := Op.move (Operand.tmp 3), type := 3, pos := "ref.go:88", after := #[], guard := none } : Oper)) (oz := ({ dst := none, op := Op.store 46 (Operand.tmp 39) (Operand.tmp 38), type := 0, pos := "ref.go:88", after := #[{ on := 17, ground := Ground.data }, { on := 16, ground := Ground.data }, { on := 16, ground := Ground.chain }, { on := 0, ground := Ground.phase }, { on := 1, ground := Ground.phase }, { on := 2, ground := Ground.phase }, { on := 3, ground := Ground.phase }, { on := 4, ground := Ground.phase }, { on := 5, ground := Ground.phase }, { on := 6, ground := Ground.phase }, { on := 7, ground := Ground.phase }, { on := 8, ground := Ground.phase }, { on := 9, ground := Ground.phase }, { on := 10, ground := Ground.phase }, { on := 11, ground := Ground.phase }, { on := 12, ground := Ground.phase }, { on := 13, ground := Ground.phase }, { on := 14, ground := Ground.phase }, { on := 15, ground := Ground.phase }, { on := 16, ground := Ground.phase }], guard := none } : Oper)) (v := ?v14) rfl rfl (by kernel_rfl) (by kernel_rfl) (fun _ _ _ h => h) (Region.free_spec rfl (by kernel_rfl)) (of_containsS (by kernel_rfl)) (Or.inl ⟨by rfl, ?y14⟩) HS ?r14
  case y14 => (intro w hSw; (try dsimp only at hSw); go_simp; first | done | with_reducible rfl)
  (try simp only [Act.put, List.setIfInBounds_toArray, List.set_cons_zero, List.set_cons_succ])
  refine until_two (i := 5) (k := 15) (by kernel_rfl) ?bA ?bB
  case bA =>
    refine comes (o := ({ dst := some 27, op := Op.buildSlice 46 0 #[], type := 46, pos := "ref.go:88", after := #[], guard := none } : Oper)) rfl (fun K hK => ?_)
    go_simp
    refine hK.out _ _ (fun _ => SS.out _ (by first | exact Below.refl _ _ | exact bel_allocR (Below.refl _ _) (Nat.le_refl _) _ | exact bel_allocR (bel_allocR (Below.refl _ _) (Nat.le_refl _) _) (Nat.le_refl _) _)) ?_
    clear hK K
    (try simp only [Act.put, List.setIfInBounds_toArray, List.set_cons_zero, List.set_cons_succ])
    refine until_two (i := 13) (k := 15) (by kernel_rfl) ?bC ?bD
    case bC =>
      refine comes (o := ({ dst := some 35, op := Op.call { callee := Callee.builtin Builtin.append, args := #[Operand.tmp 27, Operand.tmp 34], argTypes := #[46, 46] }, type := 46, pos := "ref.go:88", after := #[{ on := 5, ground := Ground.data }, { on := 12, ground := Ground.data }], guard := none } : Oper)) rfl (fun K hK => ?_)
      refine step_append_row (by rfl) _ _ ELI.out (by rfl) _ 0 [] (by rfl) (own_emptyR (by first | exact alloc_atR (by simp) | exact alloc_farR (alloc_atR (by simp)))) (.slice ao N cc) N xs (by rfl) (SA.out _ (by first | exact Below.refl _ _ | exact bel_allocR (Below.refl _ _) (Nat.le_refl _) _ | exact bel_allocR (bel_allocR (Below.refl _ _) (Nat.le_refl _) _) (Nat.le_refl _) _)) ONE.out (by omega) ?_
      intro va wa hown hgrow hat
      have QF := apF (H := Wd.heap.size) (w0 := Wd) (by first | exact alloc_atR (by simp) | exact alloc_farR (alloc_atR (by simp))) (by first | (dsimp only; omega) | (simp; done)) (by first | exact Below.refl _ _ | exact bel_allocR (Below.refl _ _) (Nat.le_refl _) _ | exact bel_allocR (bel_allocR (Below.refl _ _) (Nat.le_refl _) _) (Nat.le_refl _) _) (Nat.le_refl _) hown hgrow hat
      clear hown hgrow hat
      refine hK.out _ _ (fun _ => SS.out _ QF.below) ?_
      clear hK K
      (try simp only [Act.put, List.setIfInBounds_toArray, List.set_cons_zero, List.set_cons_succ])
      refine until_one (i := 15) (by kernel_rfl) ?_
      refine comes (o := ({ dst := some 37, op := Op.buildSlice 46 1 #[(0, Operand.tmp 36)], type := 46, pos := "ref.go:88", after := #[{ on := 14, ground := Ground.data }], guard := none } : Oper)) rfl (fun K hK => ?_)
      go_simp
      refine hK.out _ _ (fun _ => SS.out _ (bel_allocR QF.below (Nat.le_refl _) _)) ?_
      clear hK K
      (try simp only [Act.put, List.setIfInBounds_toArray, List.set_cons_zero, List.set_cons_succ])
      refine until_one (i := 16) (by kernel_rfl) ?_
      refine comes (o := ({ dst := some 38, op := Op.call { callee := Callee.builtin Builtin.append, args := #[Operand.tmp 35, Operand.tmp 37], argTypes := #[46, 46] }, type := 46, pos := "ref.go:88", after := #[{ on := 13, ground := Ground.data }, { on := 15, ground := Ground.data }, { on := 13, ground := Ground.chain }], guard := none } : Oper)) rfl (fun K hK => ?_)
      refine step_append_row (by rfl) _ _ ELI.out (by rfl) va N xs (by rfl) (ownsRow_keep QF.own (fun k hk => alloc_keepR (World.ownsRow.lt QF.own k hk).2)) (.slice (some ⟨wa.heap.size, 0, none⟩) 1 1) 1 [Iv v] (by rfl) (src_block (ys := [Iv v]) (alloc_atR rfl) rfl) (iv_one [v]) (by omega) ?_
      intro vb wb hown hgrow hat
      have QG := newR QF.ge (bel_allocR QF.below (Nat.le_refl _) _) (Nat.le_refl _) hown hgrow hat
      obtain ⟨oa, oc, e, _⟩ := ownsRow_form hown
      subst e
      obtain ⟨⟨z1, z2⟩, z3⟩ := FW.out wb _ QG
      have CL := Hid.intro z3
      have GB := Hid.intro QG.below
      clear hown hgrow hat z3 QF QG
      refine hK.out _ _ (fun _ => SS.out _ GB.out) ?_
      clear hK K
      (try simp only [Act.put, List.setIfInBounds_toArray, List.set_cons_zero, List.set_cons_succ])
      refine until_one (i := 17) (by kernel_rfl) ?_
      refine comes (o := ({ dst := some 39, op := Op.indexAddr 37 (Operand.tmp 25) (Operand.tmp 26), type := 0, pos := "ref.go:88", after := #[{ on := 3, ground := Ground.data }, { on := 4, ground := Ground.data }, { on := 0, ground := Ground.phase }, { on := 1, ground := Ground.phase }, { on := 2, ground := Ground.phase }, { on := 3, ground := Ground.phase }, { on := 4, ground := Ground.phase }, { on := 5, ground := Ground.phase }, { on := 6, ground := Ground.phase }, { on := 7, ground := Ground.phase }, { on := 8, ground := Ground.phase }, { on := 9, ground := Ground.phase }, { on := 10, ground := Ground.phase }, { on := 11, ground := Ground.phase }, { on := 12, ground := Ground.phase }, { on := 13, ground := Ground.phase }, { on := 14, ground := Ground.phase }, { on := 15, ground := Ground.phase }, { on := 16, ground := Ground.phase }], guard := none } : Oper)) rfl (fun K hK => ?_)
      go_simp
      refine hK.out _ _ (fun _ => SS.out _ GB.out) ?_
      clear hK K
      (try simp only [Act.put, List.setIfInBounds_toArray, List.set_cons_zero, List.set_cons_succ])
      refine until_one (i := 18) (by kernel_rfl) ?_
      refine comes (o := ({ dst := none, op := Op.store 46 (Operand.tmp 39) (Operand.tmp 38), type := 0, pos := "ref.go:88", after := #[{ on := 17, ground := Ground.data }, { on := 16, ground := Ground.data }, { on := 16, ground := Ground.chain }, { on := 0, ground := Ground.phase }, { on := 1, ground := Ground.phase }, { on := 2, ground := Ground.phase }, { on := 3, ground := Ground.phase }, { on := 4, ground := Ground.phase }, { on := 5, ground := Ground.phase }, { on := 6, ground := Ground.phase }, { on := 7, ground := Ground.phase }, { on := 8, ground := Ground.phase }, { on := 9, ground := Ground.phase }, { on := 10, ground := Ground.phase }, { on := 11, ground := Ground.phase }, { on := 12, ground := Ground.phase }, { on := 13, ground := Ground.phase }, { on := 14, ground := Ground.phase }, { on := 15, ground := Ground.phase }, { on := 16, ground := Ground.phase }], guard := none } : Oper)) rfl (fun K hK => ?_)
      go_simp
      refine hK.out _ _ (fun q => absurd rfl q) ?_
      clear hK K
      (try simp only [Act.put, List.setIfInBounds_toArray, List.set_cons_zero, List.set_cons_succ])
      refine until_done (by kernel_rfl) ?_ _
      clear z1 z2 HS SS SA FW
      generalize wb.setCell ⟨gV, i, none⟩ (.slice oa (N + 1) oc) = w5 at *
      go_wp2_with fail
      refine CL.out.mono ?_
      rintro e w6 ⟨rfl, z3⟩
      have FIN := Hid.intro z3
      clear z3 CL GB
      go_wp2
      go_ret2
      exact ⟨rfl, FIN.out⟩
    case bD =>
      refine comes (o := ({ dst := some 37, op := Op.buildSlice 46 1 #[(0, Operand.tmp 36)], type := 46, pos := "ref.go:88", after := #[{ on := 14, ground := Ground.data }], guard := none } : Oper)) rfl (fun K hK => ?_)
      go_simp
      refine hK.out _ _ (fun _ => SS.out _ (by first | exact Below.refl _ _ | exact bel_allocR (Below.refl _ _) (Nat.le_refl _) _ | exact bel_allocR (bel_allocR (Below.refl _ _) (Nat.le_refl _) _) (Nat.le_refl _) _)) ?_
      clear hK K
      (try simp only [Act.put, List.setIfInBounds_toArray, List.set_cons_zero, List.set_cons_succ])
      refine until_one (i := 13) (by kernel_rfl) ?_
      refine comes (o := ({ dst := some 35, op := Op.call { callee := Callee.builtin Builtin.append, args := #[Operand.tmp 27, Operand.tmp 34], argTypes := #[46, 46] }, type := 46, pos := "ref.go:88", after := #[{ on := 5, ground := Ground.data }, { on := 12, ground := Ground.data }], guard := none } : Oper)) rfl (fun K hK => ?_)
      refine step_append_row (by rfl) _ _ ELI.out (by rfl) _ 0 [] (by rfl) (own_emptyR (by first | exact alloc_atR (by simp) | exact alloc_farR (alloc_atR (by simp)))) (.slice ao N cc) N xs (by rfl) (SA.out _ (by first | exact Below.refl _ _ | exact bel_allocR (Below.refl _ _) (Nat.le_refl _) _ | exact bel_allocR (bel_allocR (Below.refl _ _) (Nat.le_refl _) _) (Nat.le_refl _) _)) ONE.out (by omega) ?_
      intro va wa hown hgrow hat
      have QF := apF (H := Wd.heap.size) (w0 := Wd) (by first | exact alloc_atR (by simp) | exact alloc_farR (alloc_atR (by simp))) (by first | (dsimp only; omega) | (simp; done)) (by first | exact Below.refl _ _ | exact bel_allocR (Below.refl _ _) (Nat.le_refl _) _ | exact bel_allocR (bel_allocR (Below.refl _ _) (Nat.le_refl _) _) (Nat.le_refl _) _) (Nat.le_refl _) hown hgrow hat
      clear hown hgrow hat
      refine hK.out _ _ (fun _ => SS.out _ QF.below) ?_
      clear hK K
      (try simp only [Act.put, List.setIfInBounds_toArray, List.set_cons_zero, List.set_cons_succ])
      refine until_one (i := 16) (by kernel_rfl) ?_
      refine comes (o := ({ dst := some 38, op := Op.call { callee := Callee.builtin Builtin.append, args := #[Operand.tmp 35, Operand.tmp 37], argTypes := #[46, 46] }, type := 46, pos := "ref.go:88", after := #[{ on := 13, ground := Ground.data }, { on := 15, ground := Ground.data }, { on := 13, ground := Ground.chain }], guard := none } : Oper)) rfl (fun K hK => ?_)
      refine step_append_row (by rfl) _ _ ELI.out (by rfl) va N xs (by rfl) QF.own (.slice (some ⟨Wd.heap.size + 1, 0, none⟩) 1 1) 1 [Iv v] (by rfl) (src_block (ys := [Iv v]) (QF.keep _ _ (by first | exact alloc_atR (by simp) | exact alloc_farR (alloc_atR (by simp))) (by simp)) rfl) (iv_one [v]) (by omega) ?_
      intro vb wb hown hgrow hat
      have QG := newR QF.ge QF.below (Nat.le_refl _) hown hgrow hat
      obtain ⟨oa, oc, e, _⟩ := ownsRow_form hown
      subst e
      obtain ⟨⟨z1, z2⟩, z3⟩ := FW.out wb _ QG
      have CL := Hid.intro z3
      have GB := Hid.intro QG.below
      clear hown hgrow hat z3 QF QG
      refine hK.out _ _ (fun _ => SS.out _ GB.out) ?_
      clear hK K
      (try simp only [Act.put, List.setIfInBounds_toArray, List.set_cons_zero, List.set_cons_succ])
      refine until_one (i := 17) (by kernel_rfl) ?_
      refine comes (o := ({ dst := some 39, op := Op.indexAddr 37 (Operand.tmp 25) (Operand.tmp 26), type := 0, pos := "ref.go:88", after := #[{ on := 3, ground := Ground.data }, { on := 4, ground := Ground.data }, { on := 0, ground := Ground.phase }, { on := 1, ground := Ground.phase }, { on := 2, ground := Ground.phase }, { on := 3, ground := Ground.phase }, { on := 4, ground := Ground.phase }, { on := 5, ground := Ground.phase }, { on := 6, ground := Ground.phase }, { on := 7, ground := Ground.phase }, { on := 8, ground := Ground.phase }, { on := 9, ground := Ground.phase }, { on := 10, ground := Ground.phase }, { on := 11, ground := Ground.phase }, { on := 12, ground := Ground.phase }, { on := 13, ground := Ground.phase }, { on := 14, ground := Ground.phase }, { on := 15, ground := Ground.phase }, { on := 16, ground := Ground.phase }], guard := none } : Oper)) rfl (fun K hK => ?_)
      go_simp
      refine hK.out _ _ (fun _ => SS.out _ GB.out) ?_
      clear hK K
      (try simp only [Act.put, List.setIfInBounds_toArray, List.set_cons_zero, List.set_cons_succ])
      refine until_one (i := 18) (by kernel_rfl) ?_
      refine comes (o := ({ dst := none, op := Op.store 46 (Operand.tmp 39) (Operand.tmp 38), type := 0, pos := "ref.go:88", after := #[{ on := 17, ground := Ground.data }, { on := 16, ground := Ground.data }, { on := 16, ground := Ground.chain }, { on := 0, ground := Ground.phase }, { on := 1, ground := Ground.phase }, { on := 2, ground := Ground.phase }, { on := 3, ground := Ground.phase }, { on := 4, ground := Ground.phase }, { on := 5, ground := Ground.phase }, { on := 6, ground := Ground.phase }, { on := 7, ground := Ground.phase }, { on := 8, ground := Ground.phase }, { on := 9, ground := Ground.phase }, { on := 10, ground := Ground.phase }, { on := 11, ground := Ground.phase }, { on := 12, ground := Ground.phase }, { on := 13, ground := Ground.phase }, { on := 14, ground := Ground.phase }, { on := 15, ground := Ground.phase }, { on := 16, ground := Ground.phase }], guard := none } : Oper)) rfl (fun K hK => ?_)
      go_simp
      refine hK.out _ _ (fun q => absurd rfl q) ?_
      clear hK K
      (try simp only [Act.put, List.setIfInBounds_toArray, List.set_cons_zero, List.set_cons_succ])
      refine until_done (by kernel_rfl) ?_ _
      clear z1 z2 HS SS SA FW
      generalize wb.setCell ⟨gV, i, none⟩ (.slice oa (N + 1) oc) = w5 at *
      go_wp2_with fail
      refine CL.out.mono ?_
      rintro e w6 ⟨rfl, z3⟩
      have FIN := Hid.intro z3
      clear z3 CL GB
      go_wp2
      go_ret2
      exact ⟨rfl, FIN.out⟩
  case bB =>
    refine comes (o := ({ dst := some 37, op := Op.buildSlice 46 1 #[(0, Operand.tmp 36)], type := 46, pos := "ref.go:88", after := #[{ on := 14, ground := Ground.data }], guard := none } : Oper)) rfl (fun K hK => ?_)
    go_simp
    refine hK.out _ _ (fun _ => SS.out _ (by first | exact Below.refl _ _ | exact bel_allocR (Below.refl _ _) (Nat.le_refl _) _ | exact bel_allocR (bel_allocR (Below.refl _ _) (Nat.le_refl _) _) (Nat.le_refl _) _)) ?_
    clear hK K
    (try simp only [Act.put, List.setIfInBounds_toArray, List.set_cons_zero, List.set_cons_succ])
    refine until_one (i := 5) (by kernel_rfl) ?_
    refine comes (o := ({ dst := some 27, op := Op.buildSlice 46 0 #[], type := 46, pos := "ref.go:88", after := #[], guard := none } : Oper)) rfl (fun K hK => ?_)
    go_simp
    refine hK.out _ _ (fun _ => SS.out _ (by first | exact Below.refl _ _ | exact bel_allocR (Below.refl _ _) (Nat.le_refl _) _ | exact bel_allocR (bel_allocR (Below.refl _ _) (Nat.le_refl _) _) (Nat.le_refl _) _)) ?_
    clear hK K
    (try simp only [Act.put, List.setIfInBounds_toArray, List.set_cons_zero, List.set_cons_succ])
    refine until_one (i := 13) (by kernel_rfl) ?_
    refine comes (o := ({ dst := some 35, op := Op.call { callee := Callee.builtin Builtin.append, args := #[Operand.tmp 27, Operand.tmp 34], argTypes := #[46, 46] }, type := 46, pos := "ref.go:88", after := #[{ on := 5, ground := Ground.data }, { on := 12, ground := Ground.data }], guard := none } : Oper)) rfl (fun K hK => ?_)
    refine step_append_row (by rfl) _ _ ELI.out (by rfl) _ 0 [] (by rfl) (own_emptyR (by first | exact alloc_atR (by simp) | exact alloc_farR (alloc_atR (by simp)))) (.slice ao N cc) N xs (by rfl) (SA.out _ (by first | exact Below.refl _ _ | exact bel_allocR (Below.refl _ _) (Nat.le_refl _) _ | exact bel_allocR (bel_allocR (Below.refl _ _) (Nat.le_refl _) _) (Nat.le_refl _) _)) ONE.out (by omega) ?_
    intro va wa hown hgrow hat
    have QF := apF (H := Wd.heap.size) (w0 := Wd) (by first | exact alloc_atR (by simp) | exact alloc_farR (alloc_atR (by simp))) (by first | (dsimp only; omega) | (simp; done)) (by first | exact Below.refl _ _ | exact bel_allocR (Below.refl _ _) (Nat.le_refl _) _ | exact bel_allocR (bel_allocR (Below.refl _ _) (Nat.le_refl _) _) (Nat.le_refl _) _) (Nat.le_refl _) hown hgrow hat
    clear hown hgrow hat
    refine hK.out _ _ (fun _ => SS.out _ QF.below) ?_
    clear hK K
    (try simp only [Act.put, List.setIfInBounds_toArray, List.set_cons_zero, List.set_cons_succ])
    refine until_one (i := 16) (by kernel_rfl) ?_
    refine comes (o := ({ dst := some 38, op := Op.call { callee := Callee.builtin Builtin.append, args := #[Operand.tmp 35, Operand.tmp 37], argTypes := #[46, 46] }, type := 46, pos := "ref.go:88", after := #[{ on := 13, ground := Ground.data }, { on := 15, ground := Ground.data }, { on := 13, ground := Ground.chain }], guard := none } : Oper)) rfl (fun K hK => ?_)
    refine step_append_row (by rfl) _ _ ELI.out (by rfl) va N xs (by rfl) QF.own (.slice (some ⟨Wd.heap.size, 0, none⟩) 1 1) 1 [Iv v] (by rfl) (src_block (ys := [Iv v]) (QF.keep _ _ (by first | exact alloc_atR (by simp) | exact alloc_farR (alloc_atR (by simp))) (by simp)) rfl) (iv_one [v]) (by omega) ?_
    intro vb wb hown hgrow hat
    have QG := newR QF.ge QF.below (Nat.le_refl _) hown hgrow hat
    obtain ⟨oa, oc, e, _⟩ := ownsRow_form hown
    subst e
    obtain ⟨⟨z1, z2⟩, z3⟩ := FW.out wb _ QG
    have CL := Hid.intro z3
    have GB := Hid.intro QG.below
    clear hown hgrow hat z3 QF QG
    refine hK.out _ _ (fun _ => SS.out _ GB.out) ?_
    clear hK K
    (try simp only [Act.put, List.setIfInBounds_toArray, List.set_cons_zero, List.set_cons_succ])
    refine until_one (i := 17) (by kernel_rfl) ?_
    refine comes (o := ({ dst := some 39, op := Op.indexAddr 37 (Operand.tmp 25) (Operand.tmp 26), type := 0, pos := "ref.go:88", after := #[{ on := 3, ground := Ground.data }, { on := 4, ground := Ground.data }, { on := 0, ground := Ground.phase }, { on := 1, ground := Ground.phase }, { on := 2, ground := Ground.phase }, { on := 3, ground := Ground.phase }, { on := 4, ground := Ground.phase }, { on := 5, ground := Ground.phase }, { on := 6, ground := Ground.phase }, { on := 7, ground := Ground.phase }, { on := 8, ground := Ground.phase }, { on := 9, ground := Ground.phase }, { on := 10, ground := Ground.phase }, { on := 11, ground := Ground.phase }, { on := 12, ground := Ground.phase }, { on := 13, ground := Ground.phase }, { on := 14, ground := Ground.phase }, { on := 15, ground := Ground.phase }, { on := 16, ground := Ground.phase }], guard := none } : Oper)) rfl (fun K hK => ?_)
    go_simp
    refine hK.out _ _ (fun _ => SS.out _ GB.out) ?_
    clear hK K
    (try simp only [Act.put, List.setIfInBounds_toArray, List.set_cons_zero, List.set_cons_succ])
    refine until_one (i := 18) (by kernel_rfl) ?_
    refine comes (o := ({ dst := none, op := Op.store 46 (Operand.tmp 39) (Operand.tmp 38), type := 0, pos := "ref.go:88", after := #[{ on := 17, ground := Ground.data }, { on := 16, ground := Ground.data }, { on := 16, ground := Ground.chain }, { on := 0, ground := Ground.phase }, { on := 1, ground := Ground.phase }, { on := 2, ground := Ground.phase }, { on := 3, ground := Ground.phase }, { on := 4, ground := Ground.phase }, { on := 5, ground := Ground.phase }, { on := 6, ground := Ground.phase }, { on := 7, ground := Ground.phase }, { on := 8, ground := Ground.phase }, { on := 9, ground := Ground.phase }, { on := 10, ground := Ground.phase }, { on := 11, ground := Ground.phase }, { on := 12, ground := Ground.phase }, { on := 13, ground := Ground.phase }, { on := 14, ground := Ground.phase }, { on := 15, ground := Ground.phase }, { on := 16, ground := Ground.phase }], guard := none } : Oper)) rfl (fun K hK => ?_)
    go_simp
    refine hK.out _ _ (fun q => absurd rfl q) ?_
    clear hK K
    (try simp only [Act.put, List.setIfInBounds_toArray, List.set_cons_zero, List.set_cons_succ])
    refine until_done (by kernel_rfl) ?_ _
    clear z1 z2 HS SS SA FW
    generalize wb.setCell ⟨gV, i, none⟩ (.slice oa (N + 1) oc) = w5 at *
    go_wp2_with fail
    refine CL.out.mono ?_
    rintro e w6 ⟨rfl, z3⟩
    have FIN := Hid.intro z3
    clear z3 CL GB
    go_wp2
    go_ret2
    exact ⟨rfl, FIN.out⟩

end Go.Proofs.Ytcloneccfbcclaa
