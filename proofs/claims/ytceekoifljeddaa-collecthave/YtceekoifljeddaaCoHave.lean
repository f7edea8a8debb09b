/- The statement CollectHave: how many shards a group has is how many came and were taken, and a group is ready just if they are enough, or it was given up. -/
import Derived.Test.YtceekoifljeddaaCoAlive
import Derived.Test.YtceekoifljeddaaMPlain
import Derived.Test.YtceekoifljeddaaRsArg
import Derived.Test.YtceekoifljeddaaCoArg
import Derived.Test.YtceekoifljeddaaRefSix
import Derived.Deep.RegionHeld3
namespace Go.Proofs.Ytceekoifljeddaa
open Go.ChangeShapes Go.WideShapes Go.ChangeAt Go.RowKit Go.Joins
open Bt

namespace LCollectHave

theorem undrewH {B : Nat} {w w' : World} (h : Below w.drew.heap.size w.drew w') (hB : B = w.heap.size) : Below B w w' := by
  subst hB
  exact ⟨h.os, h.tape, h.output, h.size, h.block⟩

theorem cellH {w w' : World} {a : Addr} {v : Value} (h : Below w.heap.size w w') (hc : w.cell? a = some v) : w'.cell? a = some v := (h.cell (cell_lt hc)).trans hc

theorem cnt_cntH (L : List (List Nat)) : cnt L = cntH L.length (fun r => decide (0 < (L.getD r []).length)) := rfl

theorem cnt_le (L : List (List Nat)) : cnt L ≤ L.length := by rw [cnt_cntH]; exact cntH_le _ _

theorem cnt_set {L : List (List Nat)} {p : Nat} {bs : List Nat} (hp : p < L.length) (h0 : (L.getD p []).length = 0) (hb : 0 < bs.length) : cnt (L.set p bs) = cnt L + 1 := by
  rw [cnt_cntH, cnt_cntH, List.length_set, ← cntH_put (H := fun r => decide (0 < (L.getD r []).length)) hp (by simp only [h0]; decide)]
  refine cntH_congr (fun r hr => ?_)
  rw [getD_set_row _ _ _ _ hp]
  by_cases e : r = p
  · simp [e, hb]
  · simp [e]

/-- What was counted. -/
structure Told (K N S G : Nat) (had : Nat → Nat) (gone : Nat → Bool) (x : Col) : Prop where
  k : x.K = K
  n : x.N = N
  s : x.S = S
  base : x.base = G
  had : ∀ i, i < 4 → had i = cnt (x.g i)
  gone : ∀ i, i < 4 → gone i = x.gone i

theorem told_new (K N S G : Nat) : Told K N S G (fun _ => 0) (fun _ => false) (col0 K N S G) :=
  ⟨rfl, rfl, rfl, rfl, fun _ _ => (cnt_empty N).symm, fun _ _ => rfl⟩

theorem Told.shard {K N S G : Nat} {had : Nat → Nat} {gone : Nat → Bool} {x : Col} (h : Told K N S G had gone x) (ok : x.Ok) (hS : 1 ≤ S) {g p : Int} {bs : List Nat} (he : shardE x g p bs.length = 0) :
    farN x g < 4 ∧ Told K N S G (fun i => if i = farN x g then had i + 1 else had i) gone (shardC x g p bs) := by
  obtain ⟨_, q2, q3, q4, q5, q6⟩ := shardE_zero he
  have hf := (open_far q5).2
  refine ⟨hf, ?_⟩
  unfold shardC
  rw [if_pos he]
  refine ⟨h.k, h.n, h.s, h.base, fun i hi => ?_, h.gone⟩
  show (if i = farN x g then had i + 1 else had i) = cnt (if i = farN x g then (x.g (farN x g)).set p.toNat bs else x.g i)
  by_cases e : i = farN x g
  · rw [if_pos e, if_pos e, cnt_set (by rw [ok.len _ hf]; omega) q6 (by rw [q4, h.s]; omega), h.had i hi, e]
  · rw [if_neg e, if_neg e]; exact h.had i hi

theorem Told.shard_no {K N S G : Nat} {had : Nat → Nat} {gone : Nat → Bool} {x : Col} (h : Told K N S G had gone x) {g p : Int} {bs : List Nat} (he : ¬ shardE x g p bs.length = 0) : Told K N S G had gone (shardC x g p bs) := by
  unfold shardC; rw [if_neg he]; exact h

theorem Told.skip {K N S G : Nat} {had : Nat → Nat} {gone : Nat → Bool} {x : Col} (h : Told K N S G had gone x) {g : Int} (he : skipE x g = 0) :
    farN x g < 4 ∧ Told K N S G had (fun i => if i = farN x g then true else gone i) (skipC x g) := by
  have ho : openA x.base g = true := by
    unfold skipE at he
    split at he
    · split at he
      · rename_i q; exact placeE_zero q
      · rename_i q; exact absurd he q
    · exact absurd he (by decide)
  have hf := (open_far ho).2
  refine ⟨hf, ?_⟩
  unfold skipC
  rw [if_pos he]
  refine ⟨h.k, h.n, h.s, h.base, h.had, fun i hi => ?_⟩
  show (if i = farN x g then true else gone i) = if i = farN x g then true else x.gone i
  rw [h.gone i hi]

theorem Told.skip_no {K N S G : Nat} {had : Nat → Nat} {gone : Nat → Bool} {x : Col} (h : Told K N S G had gone x) {g : Int} (he : ¬ skipE x g = 0) : Told K N S G had gone (skipC x g) := by
  unfold skipC; rw [if_neg he]; exact h

theorem zero_ints : ∃ Z : Array Value, (∀ x, x < 4 → Z[x]? = some (.int .i64 0)) ∧ ∀ w : World, Sem.run Try.prog (zeroValue 60) w = .ok (.agg Z) w :=
  ⟨Array.replicate 4 (.int .i64 0), fun x hx => by simp [hx], fun w => by kernel_rfl⟩

theorem zero_bools : ∃ Z : Array Value, (∀ x, x < 4 → Z[x]? = some (.bool false)) ∧ ∀ w : World, Sem.run Try.prog (zeroValue 61) w = .ok (.agg Z) w :=
  ⟨Array.replicate 4 (.bool false), fun x hx => by simp [hx], fun w => by kernel_rfl⟩

/-- Four cells. -/
def Four (w : World) (b : Nat) (f : Nat → Value) : Prop := ∀ k, k < 4 → w.cell? ⟨b, k, none⟩ = some (f k) ∧ w.frozen? ⟨b, k, none⟩ = false

theorem Four.kept {w w' : World} {b : Nat} {f : Nat → Value} (h : Four w b f) (hb : w'.heap[b]? = w.heap[b]?) : Four w' b f := fun k hk =>
  ⟨(World.cell?_of_block (a := ⟨b, k, none⟩) hb).trans (h k hk).1, (frozen_block (a := ⟨b, k, none⟩) hb).trans (h k hk).2⟩

theorem Four.set {w : World} {b k : Nat} {f : Nat → Value} (h : Four w b f) (v : Value) : Four (w.setCell ⟨b, k, none⟩ v) b (fun r => if r = k then v else f r) := fun r hr => by
  refine ⟨?_, by rw [World.frozen?_setCell]; exact (h r hr).2⟩
  by_cases e : r = k
  · subst e
    rw [World.cell?_setCell_same' _ _ _ (by rw [(h r hr).1]; rfl)]
    simp
  · rw [World.cell?_setCell_other _ _ _ _ (fun q => e (by have := congrArg Addr.off q; simpa using this.symm)), (h r hr).1]
    simp [e]

theorem cell_far {w : World} {b b' o o' : Nat} {u v : Value} (h : b < b') (hc : w.cell? ⟨b, o, none⟩ = some v) : (w.setCell ⟨b', o', none⟩ u).cell? ⟨b, o, none⟩ = some v :=
  (World.cell?_setCell_other _ _ _ _ (fun q => by
    have := congrArg Addr.block q
    simp at this
    omega)).trans hc

theorem Four.congr {w : World} {b : Nat} {f g : Nat → Value} (h : Four w b f) (hf : ∀ k, k < 4 → f k = g k) : Four w b g := fun k hk => by rw [← hf k hk]; exact h k hk

theorem Four.other {w : World} {b : Nat} {f : Nat → Value} (h : Four w b f) {p : Addr} (hp : b ≠ p.block) (v : Value) : Four (w.setCell p v) b f := h.kept (Below.heap_setCell _ _ _ _ hp)

theorem Told.open_ {K N S G : Nat} {had : Nat → Nat} {gone : Nat → Bool} {x : Col} (h : Told K N S G had gone x) {g p : Int} {len : Nat} (he : shardE x g p len = 0) : farA (G : Int) g = (farN x g : Int) := by
  obtain ⟨_, _, _, _, q5, _⟩ := shardE_zero he
  have := (open_far q5).1
  rw [h.base] at this
  exact this

theorem Told.open_s {K N S G : Nat} {had : Nat → Nat} {gone : Nat → Bool} {x : Col} (h : Told K N S G had gone x) {g : Int} (he : skipE x g = 0) : farA (G : Int) g = (farN x g : Int) := by
  have ho : openA x.base g = true := by
    unfold skipE at he
    split at he
    · split at he
      · rename_i q; exact placeE_zero q
      · rename_i q; exact absurd he q
    · exact absurd he (by decide)
  have := (open_far ho).1
  rw [h.base] at this
  exact this

theorem bit_all : ∀ R : Nat, R < 16 → ∀ k : Nat, k < 4 → (bits .and .i64 ((R : Int) / 2 ^ min (IntKind.u64.wrap (k : Int)).toNat 64) 1 == 1) = decide (R / 2 ^ k % 2 = 1) := by decide +kernel

theorem bit_of {R k : Nat} {rb : Bool} (hk : k < 4) (hR : R < 16) (h : R / 2 ^ k % 2 = bitN rb) : (bits .and .i64 ((R : Int) / 2 ^ min (IntKind.u64.wrap (k : Int)).toNat 64) 1 == 1) = rb := by
  rw [bit_all R hR k hk, h]
  cases rb <;> decide

theorem walk_nil (k n s g : Int) (a : Option Addr) (len cap : Nat) (w : World) (h : (mayC k n s && isG g) = false) :
    Calls Try.prog 8 #[Cd k n s, .int .i64 g, .slice a len cap] w fun e w' => e = .returned (.bool true) ∧ Below w.heap.size w w' := by
  have b0 := Hid.intro (heap_alloc_new w (.cells #[.int .i64 k, .int .i64 n, .int .i64 s] 23))
  have B0 := Hid.intro ((Below.refl _ w).alloc (Nat.le_refl _) (.cells #[.int .i64 k, .int .i64 n, .int .i64 s] 23))
  go_enter Try.func8, Try.ntmps8
  go_wp2_with fail
  refine (alive_any _).mono ?_
  rintro e w1 ⟨rfl, B1⟩
  have b1 := (B1.block _ (lt_of_heap b0.out)).trans b0.out
  have B1H := Hid.intro (B0.out.trans (B1.mono B0.out.size))
  obtain ⟨c0, c1, c2⟩ := cd_cells b1
  clear b1 B1
  go_wp2_with fail
  refine (cnew_no k n s g h w1).mono ?_
  rintro e w2 ⟨rfl, B2⟩
  have B2w := B1H.out.trans (B2.mono B1H.out.size)
  clear c0 c1 c2 B2
  go_wp2
  go_ret
  exact ⟨rfl, B2w⟩

theorem walk_far (K N S G : Nat) (a : Option Addr) (len cap : Nat) (w : World) (hnew : (mayC K N S && isG G) = true) (hlen : len ≤ maxLen) (h : 80 < len) :
    Calls Try.prog 8 #[Cd K N S, .int .i64 (G : Int), .slice a len cap] w fun e w' => e = .returned (.bool true) ∧ Below w.heap.size w w' := by
  unfold maxLen at hlen
  have b0 := Hid.intro (heap_alloc_new w (.cells #[.int .i64 (K : Int), .int .i64 (N : Int), .int .i64 (S : Int)] 23))
  have B0 := Hid.intro ((Below.refl _ w).alloc (Nat.le_refl _) (.cells #[.int .i64 (K : Int), .int .i64 (N : Int), .int .i64 (S : Int)] 23))
  have j : decide ((80 : Int) < (len : Int)) = true := by simp; omega
  go_enter Try.func8, Try.ntmps8
  go_wp2_with fail
  refine (alive_any _).mono ?_
  rintro e w1 ⟨rfl, B1⟩
  have b1 := (B1.block _ (lt_of_heap b0.out)).trans b0.out
  have B1H := Hid.intro (B0.out.trans (B1.mono B0.out.size))
  obtain ⟨c0, c1, c2⟩ := cd_cells b1
  clear b1 B1
  go_wp2_with fail
  refine (cnew_yes K N S G hnew w1).mono ?_
  rintro e w2 ⟨b, F, rfl, _, _, B2⟩
  have B2w := B1H.out.trans (B2.mono B1H.out.size)
  clear c0 c1 c2 B2
  go_wp2
  go_ret
  exact ⟨rfl, B2w⟩

set_option maxRecDepth 100000 in
set_option maxHeartbeats 4000000 in
theorem walk_near (K N S G : Nat) (hnew : (mayC K N S && isG G) = true) (a : Option Addr) (cap : Nat) (l : List Act7) (w : World) (h3 : l.length ≤ 80) (hY : ∀ x ∈ l, x.Wf) (hr : ActsAt w a l) :
    Calls Try.prog 8 #[Cd K N S, .int .i64 (G : Int), .slice a l.length cap] w fun e w' => e = .returned (.bool true) ∧ Below w.heap.size w w' := by
  obtain ⟨Z, hZ, z60⟩ := zero_ints
  obtain ⟨Y, hYY, z61⟩ := zero_bools
  have HZ := Hid.intro hZ
  have HYZ := Hid.intro hYY
  have hnew2 := hnew
  rw [Bool.and_eq_true] at hnew2
  have hmay := hnew2.1
  obtain ⟨m1, m2, m3, m4, m5, m6⟩ := mayC_true hmay
  have hG : G < 256 := by have := isG_true hnew2.2; omega
  have HR := Hid.intro hr
  have HY := Hid.intro hY
  have NW := Hid.intro (fun w => cnew_yes K N S G hnew w)
  have b0 := Hid.intro (heap_alloc_new w (.cells #[.int .i64 (K : Int), .int .i64 (N : Int), .int .i64 (S : Int)] 23))
  have B0 := Hid.intro ((Below.refl _ w).alloc (Nat.le_refl _) (.cells #[.int .i64 (K : Int), .int .i64 (N : Int), .int .i64 (S : Int)] 23))
  have j2 : decide ((80 : Int) < (l.length : Int)) = false := by simp; omega
  clear hr hY hmay hnew hnew2 hZ hYY
  go_enter Try.func8, Try.ntmps8
  go_wp2_with fail
  refine (alive_any _).mono ?_
  rintro e w1 ⟨rfl, B1⟩
  have b1 := (B1.block _ (lt_of_heap b0.out)).trans b0.out
  have B1H := Hid.intro (B0.out.trans (B1.mono B0.out.size))
  have b1H := Hid.intro b1
  obtain ⟨c0, c1, c2⟩ := cd_cells b1
  clear b1 B1 B0 b0
  go_wp2_with fail
  refine (NW.out w1).mono ?_
  rintro e w2 ⟨b, F, rfl, hC, hF, B2⟩
  have BA := (Below.refl _ w2).alloc (Nat.le_refl _) (.cells Z 60)
  have BB := BA.alloc (by simp) (.cells Y 61)
  have L3 := ((cl_new hC hF B2).grow BB).less (G := fun k => k < w1.heap.size ∨ k = w2.heap.size ∨ k = w2.heap.size + 1) (fun k hk => by
    rcases hk with q | q | q
    · exact .inl q
    · subst q; exact .inr ⟨Nat.le_refl _, by simp; omega⟩
    · subst q; exact .inr ⟨by omega, by simp⟩)
  have F3 : Four ((w2.alloc (.cells Z 60)).alloc (.cells Y 61)) w2.heap.size (fun _ => .int .i64 0) := by
    have q : Four (w2.alloc (.cells Z 60)) w2.heap.size (fun _ => .int .i64 0) := fun k hk => ⟨by rw [cell_of_row _ _ _ _ _ _ (heap_alloc_new w2 _)]; exact HZ.out k hk, frozen_of_row _ _ _ _ _ (heap_alloc_new w2 _)⟩
    exact q.kept (Below.heap_alloc _ _ _ (by simp))
  have D3 : Four ((w2.alloc (.cells Z 60)).alloc (.cells Y 61)) (w2.heap.size + 1) (fun _ => .bool false) := fun k hk => by
    have hn := heap_alloc_new (w2.alloc (.cells Z 60)) (.cells Y 61)
    rw [World.size_alloc] at hn
    exact ⟨by rw [cell_of_row _ _ _ _ _ _ hn]; exact HYZ.out k hk, frozen_of_row _ _ _ _ _ hn⟩
  have B3 := B2.trans (BB.mono B2.size)
  have L3H := Hid.intro L3
  have F3H := Hid.intro F3
  have D3H := Hid.intro D3
  have B3H := Hid.intro B3
  have W12 := Hid.intro B2.size
  have WG : Hid (w1.heap.size ≤ w2.heap.size + 1) := Nat.le_succ_of_le B2.size
  have NE : Hid (w2.heap.size + 1 ≠ w2.heap.size) := fun e => by omega
  clear c0 c1 c2 B2 hC hF NW BA BB L3 F3 D3 B3
  go_wp2_with fail
  clear z60 z61
  generalize w2.heap.size + 1 = gb at L3H D3H WG NE
  generalize w2.heap.size = hb at L3H F3H W12 NE
  go_loopw [10] (fun i wr => ∃ (t : Nat) (had : Nat → Nat) (gone : Nat → Bool) (x : Col), t ≤ l.length ∧ i = .int .i64 t ∧ CL (fun k => k < w1.heap.size ∨ k = hb ∨ k = gb) wr wr b x ∧ Told K N S G had gone x ∧ Four wr hb (fun i => .int .i64 (had i : Int)) ∧ Four wr gb (fun i => .bool (gone i)) ∧ Below w1.heap.size w1 wr) (fun i _ => l.length - (intOf i).toNat)
  case atStart => exact ⟨0, fun _ => 0, fun _ => false, _, by omega, rfl, L3H.out, told_new K N S G, F3H.out, D3H.out, B3H.out⟩
  case round =>
    clear L3H F3H D3H B3H
    obtain ⟨t, had, gone, x, ht, rfl, LX, TX, FX, DX, BX⟩ := hrel
    have LXH := Hid.intro LX
    have TXH := Hid.intro TX
    have FXH := Hid.intro FX
    have DXH := Hid.intro DX
    have BXH := Hid.intro BX
    have BW := Hid.intro (B1H.out.trans (BX.mono B1H.out.size))
    clear LX TX FX DX BX
    by_cases hlt : t < l.length
    · have t0 : (0 : Int) ≤ (t : Int) := by omega
      have t1 : (t : Int) < (l.length : Int) := by omega
      obtain ⟨lb, lo, rfl, hl⟩ := HR.out (by omega)
      obtain ⟨ao, ac, y0, y1, y2, y3, yr, ym⟩ := hl t hlt
      have yb := (HY.out l[t] (List.getElem_mem hlt)).1
      generalize l[t] = A at y0 y1 y2 y3 yr ym yb
      obtain ⟨kd, g, p, bs⟩ := A
      dsimp only at y0 y1 y2 y3 yr ym yb
      have x0 := cellH BW.out y0
      have x1 := cellH BW.out y1
      have x2 := cellH BW.out y2
      have x3 := cellH BW.out y3
      have HF : Hid (0 < bs.length → ∀ ad, ao = some ad → (ad.block < w1.heap.size ∨ ad.block = hb ∨ ad.block = gb)) := fun h0 ad ha => .inl (Nat.lt_of_lt_of_le (reads_lt (by rw [← ha]; exact yr) h0) B1H.out.size)
      have K1 : lb < w1.heap.size := Nat.lt_of_lt_of_le (cell_lt y0) B1H.out.size
      have HS := Hid.intro (fun W (hW : Below wr.heap.size wr W) => clshard g p ao ac bs yb ym (LXH.out.below hW) ((yr.below BW.out).below hW) HF.out)
      have HK := Hid.intro (fun W (hW : Below wr.heap.size wr W) => clskip g (LXH.out.below hW))
      have FA := Hid.intro (refFar_any (G : Int) g)
      obtain ⟨L, hL⟩ : ∃ L, L = bs.length := ⟨_, rfl⟩
      have HLL := Hid.intro hL
      rw [← hL] at x3 HS
      clear hl y0 y1 y2 y3 yr ym yb HF hL
      by_cases k0 : kd = 0
      · subst k0
        clear HK
        by_cases hE : shardE x g p L = 0
        · obtain ⟨hf4, TS⟩ := TXH.out.shard LXH.out.ok (by omega) (by rw [← HLL.out]; exact hE)
          have hfa := TXH.out.open_ hE
          rw [hE] at HS
          rw [hfa] at FA
          have hhad := TXH.out.had _ hf4
          have hcb : had (farN x g) ≤ 10 := by
            rw [hhad]
            have := cnt_le (x.g (farN x g))
            rw [LXH.out.ok.len _ hf4, TXH.out.n] at this
            omega
          have TSH := Hid.intro TS
          clear TS hfa hE hhad
          generalize farN x g = f at hf4 FA hcb TSH
          have f0 : (0 : Int) ≤ (f : Int) := by omega
          have f1 : (f : Int) < 4 := by omega
          go_wp2_with fail
          refine (FA.out _).mono ?_
          rintro e w4 ⟨rfl, rfl⟩
          go_wp2_with fail
          go_region_held3 (fun w' => w'.cell? ⟨lb, lo + t * 4, none⟩ = some (.int .i64 0) ∧ w'.cell? ⟨lb, lo + t * 4 + 2, none⟩ = some (.int .i64 p) ∧ w'.cell? ⟨lb, lo + t * 4 + 3, none⟩ = some (.slice ao L ac))
            (first | exact ⟨L5.cell x0 (.inl K1), L5.cell x2 (.inl K1), L5.cell x3 (.inl K1)⟩ | go_keep)
            ((go_at_call 13; refine (HS.out wr.drew (Below.refl _ wr).drew).mono ?_; rintro e w5 ⟨rfl, L5⟩))
          all_goals
            have F5 := FXH.out.kept (L5.block (.inr (.inl rfl)))
            have D5 := DXH.out.kept (L5.block (.inr (.inr rfl)))
            have B5 := BXH.out.trans (L5.out (B := w1.heap.size) BXH.out.size (fun k hk => .inl hk))
            obtain ⟨e1, e2⟩ := F5 f hf4
            have L6 := L5.write (p := ⟨hb, f, none⟩) (.inr (.inl rfl)) (.int .i64 ((had f : Int) + 1))
            have F6 := (F5.set (k := f) (.int .i64 ((had f : Int) + 1))).congr (g := fun i => .int .i64 (((if i = f then had i + 1 else had i : Nat)) : Int)) (fun i _ => by
              by_cases e : i = f
              · subst e; simp
              · simp [e])
            have D6 := D5.other (p := ⟨hb, f, none⟩) NE.out (.int .i64 ((had f : Int) + 1))
            have B6 := B5.setCell (p := ⟨hb, f, none⟩) W12.out (.int .i64 ((had f : Int) + 1))
            have x6 := cell_far (o' := f) (u := .int .i64 ((had f : Int) + 1)) (Nat.lt_of_lt_of_le K1 W12.out) (L5.cell x0 (.inl K1))
            have L6H := Hid.intro L6
            have F6H := Hid.intro F6
            have D6H := Hid.intro D6
            have B6H := Hid.intro B6
            clear L5 L6 F5 F6 D5 D6 B5 B6 HS FA x0 x1 x2 x3 LXH FXH DXH BXH TXH
            go_wp2
            go_roundw
            case rel => exact ⟨t + 1, _, _, _, by omega, by go_num, L6H.out, TSH.out, F6H.out, D6H.out, B6H.out⟩
            case measure => simp [intOf]; omega
        · have TSH := Hid.intro (TXH.out.shard_no (bs := bs) (p := p) (g := g) (by rw [← HLL.out]; exact hE))
          have hEn : ((shardE x g p L) == 0) = false := by rw [beq_eq_false_iff_ne]; exact hE
          generalize shardE x g p L = E at hE HS hEn
          generalize farA (G : Int) g = fa at FA
          go_wp2_with fail
          refine (FA.out _).mono ?_
          rintro e w4 ⟨rfl, rfl⟩
          go_wp2_with fail
          go_region_held3 (fun w' => w'.cell? ⟨lb, lo + t * 4, none⟩ = some (.int .i64 0) ∧ w'.cell? ⟨lb, lo + t * 4 + 2, none⟩ = some (.int .i64 p) ∧ w'.cell? ⟨lb, lo + t * 4 + 3, none⟩ = some (.slice ao L ac))
            (first | exact ⟨L5.cell x0 (.inl K1), L5.cell x2 (.inl K1), L5.cell x3 (.inl K1)⟩ | go_keep)
            ((go_at_call 13; refine (HS.out wr.drew (Below.refl _ wr).drew).mono ?_; rintro e w5 ⟨rfl, L5⟩))
          all_goals
            have F5 := FXH.out.kept (L5.block (.inr (.inl rfl)))
            have D5 := DXH.out.kept (L5.block (.inr (.inr rfl)))
            have B5 := BXH.out.trans (L5.out (B := w1.heap.size) BXH.out.size (fun k hk => .inl hk))
            have x6 := L5.cell x0 (.inl K1)
            have L6H := Hid.intro L5.here
            have F6H := Hid.intro F5
            have D6H := Hid.intro D5
            have B6H := Hid.intro B5
            clear L5 F5 D5 B5 HS FA x0 x1 x2 x3 LXH FXH DXH BXH TXH
            go_wp2
            go_roundw
            case rel => exact ⟨t + 1, _, _, _, by omega, by go_num, L6H.out, TSH.out, F6H.out, D6H.out, B6H.out⟩
            case measure => simp [intOf]; omega
      · have j0 : (kd == 0) = false := by rw [beq_eq_false_iff_ne]; exact k0
        clear HS
        by_cases k1 : kd = 1
        · subst k1
          by_cases hE : skipE x g = 0
          · obtain ⟨hf4, TS⟩ := TXH.out.skip hE
            have hfa := TXH.out.open_s hE
            rw [hE] at HK
            rw [hfa] at FA
            have TSH := Hid.intro TS
            clear TS hfa hE
            generalize farN x g = f at hf4 FA TSH
            have f0 : (0 : Int) ≤ (f : Int) := by omega
            have f1 : (f : Int) < 4 := by omega
            go_wp2_with fail
            refine (FA.out _).mono ?_
            rintro e w4 ⟨rfl, rfl⟩
            go_wp2_with fail
            go_quiet (fail)
            go_wp2_with fail
            refine (HK.out _ (belowN (Below.refl _ wr) nq)).mono ?_
            rintro e w5 ⟨rfl, L5⟩
            have F5 := FXH.out.kept (L5.block (.inr (.inl rfl)))
            have D5 := DXH.out.kept (L5.block (.inr (.inr rfl)))
            have B5 := BXH.out.trans (L5.out (B := w1.heap.size) BXH.out.size (fun k hk => .inl hk))
            obtain ⟨e1, e2⟩ := D5 f hf4
            have L6 := L5.write (p := ⟨gb, f, none⟩) (.inr (.inr rfl)) (.bool true)
            have D6 := (D5.set (k := f) (.bool true)).congr (g := fun i => .bool (if i = f then true else gone i)) (fun i _ => by
              by_cases e : i = f
              · subst e; simp
              · simp [e])
            have F6 := F5.other (p := ⟨gb, f, none⟩) (fun q => NE.out q.symm) (.bool true)
            have B6 := B5.setCell (p := ⟨gb, f, none⟩) WG.out (.bool true)
            have L6H := Hid.intro L6
            have F6H := Hid.intro F6
            have D6H := Hid.intro D6
            have B6H := Hid.intro B6
            clear L5 L6 F5 F6 D5 D6 B5 B6 HK FA x0 x1 x2 x3 LXH FXH DXH BXH TXH
            go_wp2
            go_roundw
            case rel => exact ⟨t + 1, _, _, _, by omega, by go_num, L6H.out, TSH.out, F6H.out, D6H.out, B6H.out⟩
            case measure => simp [intOf]; omega
          · have TSH := Hid.intro (TXH.out.skip_no hE)
            have hEn : ((skipE x g) == 0) = false := by rw [beq_eq_false_iff_ne]; exact hE
            generalize skipE x g = E at hE HK hEn
            generalize farA (G : Int) g = fa at FA
            go_wp2_with fail
            refine (FA.out _).mono ?_
            rintro e w4 ⟨rfl, rfl⟩
            go_wp2_with fail
            go_quiet (fail)
            go_wp2_with fail
            refine (HK.out _ (belowN (Below.refl _ wr) nq)).mono ?_
            rintro e w5 ⟨rfl, L5⟩
            have F5 := FXH.out.kept (L5.block (.inr (.inl rfl)))
            have D5 := DXH.out.kept (L5.block (.inr (.inr rfl)))
            have B5 := BXH.out.trans (L5.out (B := w1.heap.size) BXH.out.size (fun k hk => .inl hk))
            have L6H := Hid.intro L5.here
            have F6H := Hid.intro F5
            have D6H := Hid.intro D5
            have B6H := Hid.intro B5
            clear L5 F5 D5 B5 HK FA x0 x1 x2 x3 LXH FXH DXH BXH TXH
            go_wp2
            go_roundw
            case rel => exact ⟨t + 1, _, _, _, by omega, by go_num, L6H.out, TSH.out, F6H.out, D6H.out, B6H.out⟩
            case measure => simp [intOf]; omega
        · have j1 : (kd == 1) = false := by rw [beq_eq_false_iff_ne]; exact k1
          generalize farA (G : Int) g = fa at FA
          clear HK
          go_wp2_with fail
          refine (FA.out _).mono ?_
          rintro e w4 ⟨rfl, rfl⟩
          go_wp2_with fail
          go_quiet (fail)
          have E5 : Below wr.heap.size wr (wr.drewN nq) := belowN (Below.refl _ wr) nq
          have L6H := Hid.intro (LXH.out.below E5).here
          have F6H := Hid.intro (FXH.out.kept (w' := wr.drewN nq) rfl)
          have D6H := Hid.intro (DXH.out.kept (w' := wr.drewN nq) rfl)
          have B6H := Hid.intro (belowN BXH.out nq)
          clear E5 LXH FXH DXH BXH FA
          go_wp2
          go_roundw
          case rel => exact ⟨t + 1, _, _, _, by omega, by go_num, L6H.out, TXH.out, F6H.out, D6H.out, B6H.out⟩
          case measure => simp [intOf]; omega
    · have hte : l.length = t := by omega
      have t1 : ¬ (t : Int) < (l.length : Int) := by omega
      have HTE := Hid.intro hte
      clear hte hlt ht
      rename World => wL
      go_wp2_with fail
      go_loopw [13] (fun i wr => ∃ k : Nat, k ≤ 4 ∧ i = .int .i64 k ∧ CL (fun k => k < w1.heap.size ∨ k = hb ∨ k = gb) wL wr b x) (fun i _ => 4 - (intOf i).toNat)
      case atStart => exact ⟨0, by omega, rfl, LXH.out⟩
      case round =>
        clear LXH
        obtain ⟨k, hk4, rfl, LK⟩ := hrel
        have LKH := Hid.intro LK
        by_cases hlt : k < 4
        · have k0 : (0 : Int) ≤ (k : Int) := by omega
          have k1 : (k : Int) < 4 := by omega
          have bt := (LK.block (.inl (lt_of_heap b1H.out))).trans ((BXH.out.block _ (lt_of_heap b1H.out)).trans b1H.out)
          obtain ⟨c0, c1, c2⟩ := cd_cells bt
          obtain ⟨h1, _⟩ := (FXH.out.kept (LK.block (.inr (.inl rfl)))) k hlt
          obtain ⟨g1, _⟩ := (DXH.out.kept (LK.block (.inr (.inr rfl)))) k hlt
          have hhv : haveN x (((G + k) % 256 : Nat) : Int) = had k := by
            unfold haveN
            have hop : openA x.base (((G + k) % 256 : Nat) : Int) = true := by
              unfold openA
              rw [TXH.out.base, far_of hG (by omega)]
              simp; omega
            have hfn : farN x (((G + k) % 256 : Nat) : Int) = k := by
              unfold farN
              rw [TXH.out.base, far_of hG (by omega)]
              rfl
            rw [if_pos hop, hfn, TXH.out.had k hlt]
          have hrb := ready_bit x hlt
          have hrd : rdy x k = (gone k || decide (K ≤ had k)) := by unfold rdy; rw [TXH.out.gone k hlt, TXH.out.had k hlt, TXH.out.k]
          have hRb : readyN x < 16 := by
            have hb2 : ∀ i, bitN (rdy x i) < 2 := fun i => by unfold bitN; split <;> omega
            have := hb2 0; have := hb2 1; have := hb2 2; have := hb2 3
            unfold readyN; omega
          have hgm : ((G : Int) + (k : Int)) % 256 = (((G + k) % 256 : Nat) : Int) := by omega
          have hwt : (IntKind.i64.wrap ((G : Int) + (k : Int))).tmod 256 = (((G + k) % 256 : Nat) : Int) := by
            rw [IntWalk.i64_in _ (by omega), Int.tmod_eq_emod_of_nonneg (by omega)]; exact hgm
          have HV := fun W (hW : Below wr.heap.size wr W) => clhave (((G + k) % 256 : Nat) : Int) (isI_nat (Nat.mod_lt _ (by decide))) (LK.below hW)
          rw [hhv] at HV
          generalize (G + k) % 256 = g4 at hgm hwt HV
          have HVH := Hid.intro HV
          have HRD := Hid.intro (fun W (h : CL (fun k => k < w1.heap.size ∨ k = hb ∨ k = gb) wL W b x) => clready h)
          have hcb : had k ≤ 10 := by
            rw [TXH.out.had k hlt]
            have := cnt_le (x.g k)
            rw [LK.ok.len _ hlt, TXH.out.n] at this
            omega
          dsimp only at h1 g1
          generalize readyN x = R at hrb hRb HRD
          generalize had k = h at h1 hrd HVH hcb
          generalize gone k = gn at g1 hrd
          generalize rdy x k = rb at hrb hrd
          have HRB := Hid.intro hrb
          have HRK := Hid.intro hrd
          have hne : ((h : Int) != (h : Int)) = false := by simp
          clear HV LK bt hhv hrb hrd c1 c2
          by_cases hKh : K ≤ h
          · have j1 : decide ((K : Int) ≤ (h : Int)) = true := by simp; omega
            have hbt := bit_of (rb := true) hlt hRb (by rw [HRB.out, HRK.out]; simp [hKh])
            go_wp2_with fail
            refine wp_region_held_drew (S := fun w' => w'.cell? ⟨w.heap.size, 0, none⟩ = some (.int .i64 (K : Int)) ∧ w'.cell? ⟨hb, k, none⟩ = some (.int .i64 (h : Int)) ∧ w'.cell? ⟨gb, k, none⟩ = some (.bool gn)) (by kernel_rfl) ?_ (fun hH0 => ?_)
            · exact ⟨c0, h1, g1⟩
            refine wpAnyH_take (i := 0) (oi := { dst := some 85, op := Op.move (Operand.tmp 7), type := 26, pos := "law.go:201", after := #[], guard := none }) (v := ?_) rfl (by kernel_rfl) (by kernel_rfl) (by kernel_rfl) (fun _ _ _ h => h) (Or.inl ⟨by rfl, ?_⟩) (by assumption) ?_
            rotate_left 1
            · (intro w hSw; (try dsimp only at hSw); go_simp; first | done | with_reducible rfl)
            try simp only [Act.put, List.setIfInBounds_toArray, List.set_cons_zero, List.set_cons_succ]
            refine wpAnyH_take (i := 1) (oi := { dst := some 86, op := Op.move (Operand.tmp 1), type := 3, pos := "law.go:201", after := #[], guard := none }) (v := ?_) rfl (by kernel_rfl) (by kernel_rfl) (by kernel_rfl) (fun _ _ _ h => h) (Or.inl ⟨by rfl, ?_⟩) (by assumption) ?_
            rotate_left 1
            · (intro w hSw; (try dsimp only at hSw); go_simp; first | done | with_reducible rfl)
            try simp only [Act.put, List.setIfInBounds_toArray, List.set_cons_zero, List.set_cons_succ]
            refine wpAnyH_take (i := 2) (oi := { dst := some 87, op := Op.move (Operand.tmp 13), type := 3, pos := "law.go:201", after := #[], guard := none }) (v := ?_) rfl (by kernel_rfl) (by kernel_rfl) (by kernel_rfl) (fun _ _ _ h => h) (Or.inl ⟨by rfl, ?_⟩) (by assumption) ?_
            rotate_left 1
            · (intro w hSw; (try dsimp only at hSw); go_simp; first | done | with_reducible rfl)
            try simp only [Act.put, List.setIfInBounds_toArray, List.set_cons_zero, List.set_cons_succ]
            refine wpAnyH_take (i := 3) (oi := { dst := some 88, op := Op.binOp BinOp.add 3 (Operand.tmp 86) (Operand.tmp 87) 3, type := 3, pos := "law.go:201", after := #[{ on := 1, ground := Ground.data }, { on := 2, ground := Ground.data }], guard := none }) (v := ?_) rfl (by kernel_rfl) (by kernel_rfl) (by kernel_rfl) (fun _ _ _ h => h) (Or.inl ⟨by rfl, ?_⟩) (by assumption) ?_
            rotate_left 1
            · (intro w hSw; (try dsimp only at hSw); go_simp; first | done | with_reducible rfl)
            try simp only [Act.put, List.setIfInBounds_toArray, List.set_cons_zero, List.set_cons_succ]
            refine wpAnyH_take (i := 4) (oi := { dst := some 89, op := Op.binOp BinOp.rem 3 (Operand.tmp 88) (Operand.const (Value.int IntKind.i64 256)) 3, type := 3, pos := "law.go:201", after := #[{ on := 3, ground := Ground.data }], guard := none }) (v := ?_) rfl (by kernel_rfl) (by kernel_rfl) (by kernel_rfl) (fun _ _ _ h => h) (Or.inl ⟨by rfl, ?_⟩) (by assumption) ?_
            rotate_left 1
            · (intro w hSw; (try dsimp only at hSw); go_simp; first | done | with_reducible rfl)
            try simp only [Act.put, List.setIfInBounds_toArray, List.set_cons_zero, List.set_cons_succ]
            refine wpAnyH_take (i := 6) (oi := { dst := some 91, op := Op.move (Operand.tmp 13), type := 3, pos := "law.go:201", after := #[], guard := none }) (v := ?_) rfl (by kernel_rfl) (by kernel_rfl) (by kernel_rfl) (fun _ _ _ h => h) (Or.inl ⟨by rfl, ?_⟩) (by assumption) ?_
            rotate_left 1
            · (intro w hSw; (try dsimp only at hSw); go_simp; first | done | with_reducible rfl)
            try simp only [Act.put, List.setIfInBounds_toArray, List.set_cons_zero, List.set_cons_succ]
            refine wpAnyH_take (i := 7) (oi := { dst := some 92, op := Op.indexAddr 60 (Operand.tmp 8) (Operand.tmp 91), type := 0, pos := "law.go:201", after := #[{ on := 6, ground := Ground.data }], guard := none }) (v := ?_) rfl (by kernel_rfl) (by kernel_rfl) (by kernel_rfl) (fun _ _ _ h => h) (Or.inl ⟨by rfl, ?_⟩) (by assumption) ?_
            rotate_left 1
            · (intro w hSw; (try dsimp only at hSw); go_simp; first | done | with_reducible rfl)
            try simp only [Act.put, List.setIfInBounds_toArray, List.set_cons_zero, List.set_cons_succ]
            refine wpAnyH_take (i := 8) (oi := { dst := some 93, op := Op.load 3 (Operand.tmp 92), type := 3, pos := "law.go:201", after := #[{ on := 7, ground := Ground.data }], guard := none }) (v := ?_) rfl (by kernel_rfl) (by kernel_rfl) (by kernel_rfl) (fun _ _ _ h => h) (Or.inl ⟨by rfl, ?_⟩) (by assumption) ?_
            rotate_left 1
            · (intro w hSw; (try dsimp only at hSw); go_simp; first | done | with_reducible rfl)
            try simp only [Act.put, List.setIfInBounds_toArray, List.set_cons_zero, List.set_cons_succ]
            refine wpAnyH_ready (rs := [5]) (by kernel_rfl) (by simp) ?_
            refine AllReadyH.cons (o := { dst := some 90, op := Op.call { callee := Callee.value (Operand.func 18), args := #[Operand.tmp 85, Operand.tmp 89], argTypes := #[26, 3] }, type := 3, pos := "law.go:201", after := #[{ on := 0, ground := Ground.data }, { on := 4, ground := Ground.data }], guard := none }) rfl (fun KK hK => ?_) AllReadyH.nil
            go_simp
            refine (HVH.out _ (Below.refl _ wr).drew).mono ?_
            rintro e w5 ⟨rfl, B5, L5⟩
            have n0 := cellH B5 c0
            have n1 := cellH B5 h1
            have n2 := cellH B5 g1
            dsimp only
            refine hK.out _ _ ?_ (fun hH5 => ?_)
            · exact ⟨n0, n1, n2⟩
            clear hK KK hH0
            try simp only [Act.put, List.setIfInBounds_toArray, List.set_cons_zero, List.set_cons_succ]
            refine wpAnyH_take (i := 9) (oi := { dst := some 94, op := Op.binOp BinOp.neq 3 (Operand.tmp 90) (Operand.tmp 93) 3, type := 4, pos := "law.go:201", after := #[{ on := 5, ground := Ground.data }, { on := 8, ground := Ground.data }], guard := none }) (v := ?_) rfl (by kernel_rfl) (by kernel_rfl) (by kernel_rfl) (fun _ _ _ h => h) (Or.inl ⟨by rfl, ?_⟩) (by assumption) ?_
            rotate_left 1
            · (intro w hSw; (try dsimp only at hSw); go_simp; first | done | with_reducible rfl)
            try simp only [Act.put, List.setIfInBounds_toArray, List.set_cons_zero, List.set_cons_succ]
            refine wpAnyH_take (i := 10) (oi := { dst := some 95, op := Op.move (Operand.tmp 94), type := 4, pos := "law.go:201", after := #[{ on := 9, ground := Ground.data }, { on := 5, ground := Ground.chain }], guard := none }) (v := ?_) rfl (by kernel_rfl) (by kernel_rfl) (by kernel_rfl) (fun _ _ _ h => h) (Or.inl ⟨by rfl, ?_⟩) (by assumption) ?_
            rotate_left 1
            · (intro w hSw; (try dsimp only at hSw); go_simp; first | done | with_reducible rfl)
            try simp only [Act.put, List.setIfInBounds_toArray, List.set_cons_zero, List.set_cons_succ]
            refine wpAnyH_take (i := 11) (oi := { dst := some 96, op := Op.move (Operand.tmp 7), type := 26, pos := "law.go:201", after := #[{ on := 10, ground := Ground.guard }], guard := some (10, false) }) (v := ?_) rfl (by kernel_rfl) (by kernel_rfl) (by kernel_rfl) (fun _ _ _ h => h) (Or.inl ⟨by rfl, ?_⟩) (by assumption) ?_
            rotate_left 1
            · (intro w hSw; (try dsimp only at hSw); go_simp; first | done | with_reducible rfl)
            try simp only [Act.put, List.setIfInBounds_toArray, List.set_cons_zero, List.set_cons_succ]
            refine wpAnyH_take (i := 13) (oi := { dst := some 98, op := Op.move (Operand.tmp 13), type := 3, pos := "law.go:201", after := #[{ on := 10, ground := Ground.guard }], guard := some (10, false) }) (v := ?_) rfl (by kernel_rfl) (by kernel_rfl) (by kernel_rfl) (fun _ _ _ h => h) (Or.inl ⟨by rfl, ?_⟩) (by assumption) ?_
            rotate_left 1
            · (intro w hSw; (try dsimp only at hSw); go_simp; first | done | with_reducible rfl)
            try simp only [Act.put, List.setIfInBounds_toArray, List.set_cons_zero, List.set_cons_succ]
            refine wpAnyH_take (i := 14) (oi := { dst := some 99, op := Op.convert 3 63 (Operand.tmp 98), type := 63, pos := "law.go:201", after := #[{ on := 13, ground := Ground.data }, { on := 10, ground := Ground.guard }], guard := some (10, false) }) (v := ?_) rfl (by kernel_rfl) (by kernel_rfl) (by kernel_rfl) (fun _ _ _ h => h) (Or.inl ⟨by rfl, ?_⟩) (by assumption) ?_
            rotate_left 1
            · (intro w hSw; (try dsimp only at hSw); go_simp; first | done | with_reducible rfl)
            try simp only [Act.put, List.setIfInBounds_toArray, List.set_cons_zero, List.set_cons_succ]
            refine wpAnyH_take (i := 18) (oi := { dst := some 103, op := Op.move (Operand.tmp 13), type := 3, pos := "law.go:201", after := #[{ on := 10, ground := Ground.guard }], guard := some (10, false) }) (v := ?_) rfl (by kernel_rfl) (by kernel_rfl) (by kernel_rfl) (fun _ _ _ h => h) (Or.inl ⟨by rfl, ?_⟩) (by assumption) ?_
            rotate_left 1
            · (intro w hSw; (try dsimp only at hSw); go_simp; first | done | with_reducible rfl)
            try simp only [Act.put, List.setIfInBounds_toArray, List.set_cons_zero, List.set_cons_succ]
            refine wpAnyH_take (i := 19) (oi := { dst := some 104, op := Op.indexAddr 60 (Operand.tmp 8) (Operand.tmp 103), type := 0, pos := "law.go:201", after := #[{ on := 18, ground := Ground.data }, { on := 10, ground := Ground.guard }], guard := some (10, false) }) (v := ?_) rfl (by kernel_rfl) (by kernel_rfl) (by kernel_rfl) (fun _ _ _ h => h) (Or.inl ⟨by rfl, ?_⟩) (by assumption) ?_
            rotate_left 1
            · (intro w hSw; (try dsimp only at hSw); go_simp; first | done | with_reducible rfl)
            try simp only [Act.put, List.setIfInBounds_toArray, List.set_cons_zero, List.set_cons_succ]
            refine wpAnyH_take (i := 20) (oi := { dst := some 105, op := Op.load 3 (Operand.tmp 104), type := 3, pos := "law.go:201", after := #[{ on := 19, ground := Ground.data }, { on := 10, ground := Ground.guard }], guard := some (10, false) }) (v := ?_) rfl (by kernel_rfl) (by kernel_rfl) (by kernel_rfl) (fun _ _ _ h => h) (Or.inl ⟨by rfl, ?_⟩) (by assumption) ?_
            rotate_left 1
            · (intro w hSw; (try dsimp only at hSw); go_simp; first | done | with_reducible rfl)
            try simp only [Act.put, List.setIfInBounds_toArray, List.set_cons_zero, List.set_cons_succ]
            refine wpAnyH_take (i := 21) (oi := { dst := some 106, op := Op.fieldAddr 23 (Operand.tmp 3) 0, type := 0, pos := "law.go:201", after := #[{ on := 10, ground := Ground.guard }], guard := some (10, false) }) (v := ?_) rfl (by kernel_rfl) (by kernel_rfl) (by kernel_rfl) (fun _ _ _ h => h) (Or.inl ⟨by rfl, ?_⟩) (by assumption) ?_
            rotate_left 1
            · (intro w hSw; (try dsimp only at hSw); go_simp; first | done | with_reducible rfl)
            try simp only [Act.put, List.setIfInBounds_toArray, List.set_cons_zero, List.set_cons_succ]
            refine wpAnyH_take (i := 22) (oi := { dst := some 107, op := Op.load 3 (Operand.tmp 106), type := 3, pos := "law.go:201", after := #[{ on := 21, ground := Ground.data }, { on := 10, ground := Ground.guard }], guard := some (10, false) }) (v := ?_) rfl (by kernel_rfl) (by kernel_rfl) (by kernel_rfl) (fun _ _ _ h => h) (Or.inl ⟨by rfl, ?_⟩) (by assumption) ?_
            rotate_left 1
            · (intro w hSw; (try dsimp only at hSw); go_simp; first | done | with_reducible rfl)
            try simp only [Act.put, List.setIfInBounds_toArray, List.set_cons_zero, List.set_cons_succ]
            refine wpAnyH_take (i := 23) (oi := { dst := some 108, op := Op.binOp BinOp.geq 3 (Operand.tmp 105) (Operand.tmp 107) 3, type := 4, pos := "law.go:201", after := #[{ on := 20, ground := Ground.data }, { on := 22, ground := Ground.data }, { on := 10, ground := Ground.guard }], guard := some (10, false) }) (v := ?_) rfl (by kernel_rfl) (by kernel_rfl) (by kernel_rfl) (fun _ _ _ h => h) (Or.inl ⟨by rfl, ?_⟩) (by assumption) ?_
            rotate_left 1
            · (intro w hSw; (try dsimp only at hSw); go_simp; first | done | with_reducible rfl)
            try simp only [Act.put, List.setIfInBounds_toArray, List.set_cons_zero, List.set_cons_succ]
            refine wpAnyH_ready (rs := [12]) (by kernel_rfl) (by simp) ?_
            refine AllReadyH.cons (o := { dst := some 97, op := Op.call { callee := Callee.value (Operand.func 17), args := #[Operand.tmp 96], argTypes := #[26] }, type := 3, pos := "law.go:201", after := #[{ on := 11, ground := Ground.data }, { on := 10, ground := Ground.chain }, { on := 10, ground := Ground.guard }], guard := some (10, false) }) rfl (fun KK hK => ?_) AllReadyH.nil
            go_simp
            refine (HRD.out _ L5).mono ?_
            rintro e w6 ⟨rfl, B6, L6⟩
            dsimp only
            refine hK.out _ _ ?_ (fun hH6 => ?_)
            · exact ⟨cellH B6 n0, cellH B6 n1, cellH B6 n2⟩
            clear hK KK hH5
            try simp only [Act.put, List.setIfInBounds_toArray, List.set_cons_zero, List.set_cons_succ]
            refine wpAnyH_take (i := 15) (oi := { dst := some 100, op := Op.binOp BinOp.shr 3 (Operand.tmp 97) (Operand.tmp 99) 63, type := 3, pos := "law.go:201", after := #[{ on := 12, ground := Ground.data }, { on := 14, ground := Ground.data }, { on := 10, ground := Ground.guard }], guard := some (10, false) }) (v := ?_) rfl (by kernel_rfl) (by kernel_rfl) (by kernel_rfl) (fun _ _ _ h => h) (Or.inl ⟨by rfl, ?_⟩) (by assumption) ?_
            rotate_left 1
            · (intro w hSw; (try dsimp only at hSw); go_simp; first | done | with_reducible rfl)
            try simp only [Act.put, List.setIfInBounds_toArray, List.set_cons_zero, List.set_cons_succ]
            refine wpAnyH_take (i := 16) (oi := { dst := some 101, op := Op.binOp BinOp.and 3 (Operand.tmp 100) (Operand.const (Value.int IntKind.i64 1)) 3, type := 3, pos := "law.go:201", after := #[{ on := 15, ground := Ground.data }, { on := 10, ground := Ground.guard }], guard := some (10, false) }) (v := ?_) rfl (by kernel_rfl) (by kernel_rfl) (by kernel_rfl) (fun _ _ _ h => h) (Or.inl ⟨by rfl, ?_⟩) (by assumption) ?_
            rotate_left 1
            · (intro w hSw; (try dsimp only at hSw); go_simp; first | done | with_reducible rfl)
            try simp only [Act.put, List.setIfInBounds_toArray, List.set_cons_zero, List.set_cons_succ]
            refine wpAnyH_take (i := 17) (oi := { dst := some 102, op := Op.binOp BinOp.eql 3 (Operand.tmp 101) (Operand.const (Value.int IntKind.i64 1)) 3, type := 4, pos := "law.go:201", after := #[{ on := 16, ground := Ground.data }, { on := 10, ground := Ground.guard }], guard := some (10, false) }) (v := ?_) rfl (by kernel_rfl) (by kernel_rfl) (by kernel_rfl) (fun _ _ _ h => h) (Or.inl ⟨by rfl, ?_⟩) (by assumption) ?_
            rotate_left 1
            · (intro w hSw; (try dsimp only at hSw); go_simp; first | done | with_reducible rfl)
            try simp only [Act.put, List.setIfInBounds_toArray, List.set_cons_zero, List.set_cons_succ]
            refine wpAnyH_take (i := 24) (oi := { dst := some 109, op := Op.move (Operand.tmp 108), type := 4, pos := "law.go:201", after := #[{ on := 23, ground := Ground.data }, { on := 12, ground := Ground.chain }, { on := 10, ground := Ground.guard }], guard := some (10, false) }) (v := ?_) rfl (by kernel_rfl) (by kernel_rfl) (by kernel_rfl) (fun _ _ _ h => h) (Or.inl ⟨by rfl, ?_⟩) (by assumption) ?_
            rotate_left 1
            · (intro w hSw; (try dsimp only at hSw); go_simp; first | done | with_reducible rfl)
            try simp only [Act.put, List.setIfInBounds_toArray, List.set_cons_zero, List.set_cons_succ]
            refine wpAnyH_take (i := 25) (oi := { dst := some 110, op := Op.move (Operand.tmp 13), type := 3, pos := "law.go:201", after := #[{ on := 24, ground := Ground.guard }], guard := some (24, false) }) (v := undef) rfl (by kernel_rfl) (by kernel_rfl) (by kernel_rfl) (fun _ _ _ h => h) (Or.inr ⟨by rfl, rfl⟩) (by assumption) ?_
            try simp only [Act.put, List.setIfInBounds_toArray, List.set_cons_zero, List.set_cons_succ]
            refine wpAnyH_take (i := 26) (oi := { dst := some 111, op := Op.indexAddr 61 (Operand.tmp 9) (Operand.tmp 110), type := 0, pos := "law.go:201", after := #[{ on := 25, ground := Ground.data }, { on := 24, ground := Ground.guard }], guard := some (24, false) }) (v := undef) rfl (by kernel_rfl) (by kernel_rfl) (by kernel_rfl) (fun _ _ _ h => h) (Or.inr ⟨by rfl, rfl⟩) (by assumption) ?_
            try simp only [Act.put, List.setIfInBounds_toArray, List.set_cons_zero, List.set_cons_succ]
            refine wpAnyH_take (i := 27) (oi := { dst := some 112, op := Op.load 4 (Operand.tmp 111), type := 4, pos := "law.go:201", after := #[{ on := 26, ground := Ground.data }, { on := 24, ground := Ground.guard }], guard := some (24, false) }) (v := undef) rfl (by kernel_rfl) (by kernel_rfl) (by kernel_rfl) (fun _ _ _ h => h) (Or.inr ⟨by rfl, rfl⟩) (by assumption) ?_
            try simp only [Act.put, List.setIfInBounds_toArray, List.set_cons_zero, List.set_cons_succ]
            refine wpAnyH_take (i := 28) (oi := { dst := some 113, op := Op.pick (Operand.tmp 109) (Operand.const (Value.bool true)) (Operand.tmp 112), type := 4, pos := "law.go:201", after := #[{ on := 24, ground := Ground.data }, { on := 27, ground := Ground.data }, { on := 10, ground := Ground.guard }], guard := some (10, false) }) (v := ?_) rfl (by kernel_rfl) (by kernel_rfl) (by kernel_rfl) (fun _ _ _ h => h) (Or.inl ⟨by rfl, ?_⟩) (by assumption) ?_
            rotate_left 1
            · (intro w hSw; (try dsimp only at hSw); go_simp; first | done | with_reducible rfl)
            try simp only [Act.put, List.setIfInBounds_toArray, List.set_cons_zero, List.set_cons_succ]
            refine wpAnyH_take (i := 29) (oi := { dst := some 114, op := Op.binOp BinOp.neq 4 (Operand.tmp 102) (Operand.tmp 113) 4, type := 4, pos := "law.go:201", after := #[{ on := 17, ground := Ground.data }, { on := 28, ground := Ground.data }, { on := 10, ground := Ground.guard }], guard := some (10, false) }) (v := ?_) rfl (by kernel_rfl) (by kernel_rfl) (by kernel_rfl) (fun _ _ _ h => h) (Or.inl ⟨by rfl, ?_⟩) (by assumption) ?_
            rotate_left 1
            · (intro w hSw; (try dsimp only at hSw); go_simp; first | done | with_reducible rfl)
            try simp only [Act.put, List.setIfInBounds_toArray, List.set_cons_zero, List.set_cons_succ]
            refine wpAnyH_take (i := 30) (oi := { dst := some 115, op := Op.pick (Operand.tmp 95) (Operand.const (Value.bool true)) (Operand.tmp 114), type := 4, pos := "law.go:201", after := #[{ on := 10, ground := Ground.data }, { on := 29, ground := Ground.data }], guard := none }) (v := ?_) rfl (by kernel_rfl) (by kernel_rfl) (by kernel_rfl) (fun _ _ _ h => h) (Or.inl ⟨by rfl, ?_⟩) (by assumption) ?_
            rotate_left 1
            · (intro w hSw; (try dsimp only at hSw); go_simp; first | done | with_reducible rfl)
            try simp only [Act.put, List.setIfInBounds_toArray, List.set_cons_zero, List.set_cons_succ]
            refine wpAnyH_done (by kernel_rfl) ?_ _
            have L6H := Hid.intro L6
            clear B5 L5 B6 L6 n0 n1 n2 HVH HRD c0 h1 g1 hH6
            go_wp2
            go_roundw
            case rel => exact ⟨k + 1, by omega, by go_num, L6H.out⟩
            case measure => simp [intOf]; omega
          · have j1 : decide ((K : Int) ≤ (h : Int)) = false := by simp; omega
            have hbt := bit_of (rb := gn) hlt hRb (by rw [HRB.out, HRK.out]; simp [hKh])
            go_wp2_with fail
            go_region_held3 (fun w' => w'.cell? ⟨w.heap.size, 0, none⟩ = some (.int .i64 (K : Int)) ∧ w'.cell? ⟨hb, k, none⟩ = some (.int .i64 (h : Int)) ∧ w'.cell? ⟨gb, k, none⟩ = some (.bool gn))
              (first | exact ⟨cellH B6 n0, cellH B6 n1, cellH B6 n2⟩ | exact ⟨n0, n1, n2⟩ | go_keep)
              (first
                | (go_at_call 18; refine (HVH.out _ (Below.refl _ wr).drew).mono ?_; rintro e w5 ⟨rfl, B5, L5⟩; have n0 := cellH B5 c0; have n1 := cellH B5 h1; have n2 := cellH B5 g1)
                | (go_at_call 17; refine (HRD.out _ L5).mono ?_; rintro e w6 ⟨rfl, B6, L6⟩))
            all_goals
              have L6H := Hid.intro L6
              clear B5 L5 B6 L6 n0 n1 n2 HVH HRD c0 h1 g1
              go_wp2
              go_roundw
              case rel => exact ⟨k + 1, by omega, by go_num, L6H.out⟩
              case measure => simp [intOf]; omega
        · obtain rfl : k = 4 := by omega
          have k1 : ¬ ((4 : Nat) : Int) < 4 := by decide
          have CB := Hid.intro (clbase LKH.out)
          have hbs := TXH.out.base
          rw [hbs] at CB
          have BZ := Hid.intro (BXH.out.trans (LKH.out.out (B := w1.heap.size) BXH.out.size (fun k hk => .inl hk)))
          clear LK hbs
          go_wp2_with fail
          refine CB.out.mono ?_
          rintro e w7 ⟨rfl, B7, _⟩
          go_wp2
          go_ret
          exact ⟨ret_bool (by simp), B1H.out.trans ((BZ.out.trans (B7.mono BZ.out.size)).mono B1H.out.size)⟩

theorem walk (k n s g : Int) (a : Option Addr) (len cap : Nat) (l : List Act7) (w : World) (_ : (Lit.int .i64 k).wf = true ∧ (Lit.int .i64 n).wf = true ∧ (Lit.int .i64 s).wf = true) (_ : (Lit.int .i64 g).wf = true) (hz : l.length = len ∧ (∀ x ∈ l, x.Wf) ∧ ActsAt w a l ∧ len ≤ maxLen) :
    Calls Try.prog 8 #[Cd k n s, .int .i64 g, .slice a len cap] w fun e w' => e = .returned (.bool true) ∧ Below w.heap.size w w' := by
  obtain ⟨rfl, hY, hr, hm⟩ := hz
  rcases hn : (mayC k n s && isG g) with _ | _
  · exact walk_nil k n s g a _ cap w hn
  · have h' := hn
    rw [Bool.and_eq_true] at h'
    have h1 := mayC_true h'.1
    have h2 := isG_true h'.2
    obtain ⟨K, rfl⟩ := Int.eq_ofNat_of_zero_le (show 0 ≤ k by omega)
    obtain ⟨N, rfl⟩ := Int.eq_ofNat_of_zero_le (show 0 ≤ n by omega)
    obtain ⟨S, rfl⟩ := Int.eq_ofNat_of_zero_le (show 0 ≤ s by omega)
    obtain ⟨G, rfl⟩ := Int.eq_ofNat_of_zero_le h2.1
    rcases Nat.lt_or_ge 80 l.length with h | h
    · exact walk_far K N S G a _ cap w hn hm h
    · exact walk_near K N S G hn a cap l w h hY hr

set_option maxRecDepth 100000 in
theorem lifted (os : Os) (started : os.Started) (H : Type) (enc : TypeId × Value → H) :
    ReturnsInHanded {} Try.checked os 8 .any (Rows.collectHaveSpec.pre6 enc Try.prog Try.f8 Rows.collectHaveRow.domain false) (Rows.collectHaveSpec.post enc Try.prog Try.f8 false true false false) := by
  refine returnsInHanded_of_change (C := Try.checked) own started (by kernel_rfl) Try.func8
    (ChangeSpec.witness6 (enc := enc) (C := Try.checked) false ⟨#[], #[.agg #[.int .i64 0, .int .i64 0, .int .i64 0], .int .i64 0, .slice none 0 0], []⟩ 8 (by kernel_rfl) (by kernel_rfl) (by kernel_rfl) (by kernel_rfl)) ?_
  intro W base args ds gs before hval0 hW hcnd _
  have hval : ∀ (j : Nat) t v, Try.f8.params[j]? = some t → args[j]? = some v → Value.okWide Try.prog W .any base t v := hval0
  have hW' := hW
  obtain ⟨p, q, hA0, hV, rfl, hfz, hnd⟩ := hW
  have hA : DataW.TrodAll enc Try.prog W 0 (fun _ => true) true Try.f8.params.toList args.toList ds p := hA0
  rw [Try.params8] at hA hval
  obtain ⟨v0, vs0, d0, ds0, p0, q0, hargs, rfl, rfl, h0, r0⟩ := trodAll_cons hA
  obtain ⟨v1, vs1, d1, ds1, p1, q1, rfl, rfl, rfl, h1, r1⟩ := trodAll_cons r0
  obtain ⟨v2, vs2, d2, ds2, p2, q2, rfl, rfl, rfl, h2, r2⟩ := trodAll_cons r1
  obtain ⟨rfl, rfl, rfl⟩ := trodAll_nil r2
  obtain rfl : args = #[v0, v1, v2] := by cases args; simp_all
  obtain ⟨rfl, rfl⟩ := trodVars_none hV
  have k0 := h0
  have lt0 : ∀ x ∈ p0, x.block < W.heap.size := by obtain ⟨m, hm⟩ := k0; exact DataW.trod_lt m _ _ _ hm
  obtain ⟨kc0, nc0, sc0, rfl, w0⟩ := open_code (hval 0 23 v0 rfl rfl) h0
  obtain ⟨a1, rfl, rfl, rfl, w1⟩ := open_int Try.underlying3 (hval 1 3 v1 rfl rfl) h1
  have k2 := h2
  have lt2 : ∀ x ∈ p2, x.block < W.heap.size := by obtain ⟨m, hm⟩ := k2; exact DataW.trod_lt m _ _ _ hm
  obtain ⟨a2, len2, cap2, rfl⟩ := okWide_slice Try.underlying24 (hval 2 24 v2 rfl rfl)
  obtain ⟨z2, w2⟩ := open_acts h2
  clear hA0 hval0
  refine (walk kc0 nc0 sc0 a1 a2 len2 cap2 z2 W w0 w1 w2).mono fun e W' ⟨he, bel⟩ => ?_
  subst he
  exact ⟨_, rfl, _, _, _, [], _, [], hW', trodAll_mk1 (shut_bool Try.underlying4 _), (trodAll_cons_mk (Below.trod laidOut (by kernel_rfl) (of_decide_eq_true (by kernel_rfl)) k0 bel lt0) (trodAll_cons_mk (shut_int Try.underlying3 w1) (trodAll_cons_mk (Below.trod laidOut (by kernel_rfl) (of_decide_eq_true (by kernel_rfl)) k2 bel lt2) trodAll_mk0))), rfl, bel.frame _, fun h => by cases h⟩

theorem over : Rows.collectHaveRow.holds Try.pinned (OpenSpec.ofChange Rows.collectHaveSpec) :=
  OpenClaim.holds_of_wide 8 Try.f8 rfl rfl rfl rfl rfl rfl rfl ⟨rfl, rfl, rfl, rfl, rfl⟩ rfl rfl rfl rfl rfl (by kernel_rfl) Try.func8 (by kernel_rfl)
    (of_decide_eq_true (by kernel_rfl)) (by unfold Func.isWrapper; first | (rw [if_pos (by decide +kernel)]; kernel_rfl) | (rw [if_neg (by decide +kernel)]; exact ⟨rfl, rfl⟩))
    (fun os started H enc _ => lifted os started H enc)

end Go.Proofs.Ytceekoifljeddaa.LCollectHave

namespace Go.Proofs.Ytceekoifljeddaa
theorem collectHave_holds : Rows.CollectHaveSaid := LCollectHave.over
#print axioms collectHave_holds
end Go.Proofs.Ytceekoifljeddaa
