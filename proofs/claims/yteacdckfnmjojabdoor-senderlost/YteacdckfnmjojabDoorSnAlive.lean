/- The example of layer 8 comes out, and touches nothing that was there. -/
import Derived.Test.YteacdckfnmjojabDoorSnL
import Derived.Test.YteacdckfnmjojabDoorMPlain
namespace Go.Proofs.YteacdckfnmjojabDoor
open Go.RowKit
open Bt

theorem link_any (w : World) : Calls Tryd.prog 11 #[] w fun e w' => e = .returned (Lk 2 3 8 2 2) ∧ Below w.heap.size w w' := by
  go_enter Tryd.func11, Tryd.ntmps11
  go_wp2
  refine bodyPost_ret (results_cell_row rfl _ _ w.heap.size 25 #[.int .i64 2, .int .i64 3, .int .i64 8, .int .i64 2, .int .i64 2] (0, 0) _ rfl (heap_alloc_new _ _) Tryd.underlying25 rfl (by kernel_rfl)) rfl ?_
  exact ⟨rfl, (Below.refl _ w).alloc (Nat.le_refl _) _⟩

theorem lk_cells {w : World} {b : Nat} {k n s wt ms : Int} (h : w.heap[b]? = some (.cells #[.int .i64 k, .int .i64 n, .int .i64 s, .int .i64 wt, .int .i64 ms] 25 (0, 0))) :
    w.cell? ⟨b, 0, none⟩ = some (.int .i64 k) ∧ w.cell? ⟨b, 1, none⟩ = some (.int .i64 n) ∧ w.cell? ⟨b, 2, none⟩ = some (.int .i64 s) ∧ w.cell? ⟨b, 3, none⟩ = some (.int .i64 wt) ∧ w.cell? ⟨b, 4, none⟩ = some (.int .i64 ms) :=
  ⟨by rw [cell_of_row w _ 0 _ _ _ h]; rfl, by rw [cell_of_row w _ 1 _ _ _ h]; rfl, by rw [cell_of_row w _ 2 _ _ _ h]; rfl, by rw [cell_of_row w _ 3 _ _ _ h]; rfl, by rw [cell_of_row w _ 4 _ _ _ h]; rfl⟩

theorem fr_seq (tx sq an rs kd : Int) (a : Option Addr) (n c : Nat) (W : World) : (Instr.field 36 (Fr tx sq an rs kd a n c) 1).run Tryd.prog W = .ok (.int .i64 sq) W := by kernel_rfl

theorem cellKn {w w' : World} {a : Addr} {v : Value} (h : Below w.heap.size w w') (hc : w.cell? a = some v) : w'.cell? a = some v := (h.cell (cell_lt hc)).trans hc

theorem frms_len {tx K N S wait most : Nat} {R : List (List Nat)} (i : Nat) : (tickP (sndL tx K N S wait most R i) ((i : Int) * wait)).length = if most ≤ i then 1 else N := by
  rw [(tick_L i).2, frmsOf_length]
  rfl

set_option maxRecDepth 100000 in
set_option maxHeartbeats 2000000 in
theorem alive_any (w : World) (hW : Wid w) :
    Calls Tryd.prog 4 #[] w fun e w' => e = .returned (.bool true) ∧ Below w.heap.size w w' := by
  have mk : ∀ W : World, (Instr.makeSlice 29 (.int .i64 16) (.int .i64 16)).run Tryd.prog W = .ok (.slice (some ⟨W.heap.size, 0, none⟩) 16 16) (W.alloc (.cells (madeCells #[.int .u8 0] 16) 5 (0, 0))) := make_bytes 16 (by decide)
  go_enter Tryd.func4, Tryd.ntmps4
  go_wp2_with fail
  refine (link_any w).mono ?_
  rintro e w0 ⟨rfl, B0⟩
  have W0 := Hid.intro (hW.below B0)
  have B0H := Hid.intro B0
  clear B0
  go_wp2_with fail
  refine (nnew_yes 7 2 3 8 2 2 (by decide) w0 W0.out).mono ?_
  rintro e w1 ⟨b, F, rfl, hS, hF, B1⟩
  have BA := (Below.refl _ w1).alloc (Nat.le_refl _) (.cells (madeCells #[.int .u8 0] 16) 5 (0, 0))
  have L1 := (sl_new hS hF B1).grow BA
  have R1 := zeros_made 16 w1
  have PU := slpush (some ⟨w1.heap.size, 0, none⟩) 16 (List.replicate 16 0) (byt_zeros 16) ⟨(fun q => by cases q), Nat.le_refl _⟩ (by decide) L1 R1 (fun _ ad ha => by cases ha; exact .inr ⟨Nat.le_refl _, by simp⟩)
  have pe := push_few (tx := 7) (K := 2) (N := 3) (S := 8) (wait := 2) (most := 2) (bs := List.replicate 16 0) (i := 0) (by decide) (by decide)
  rw [sndP_zero] at pe
  rw [pe.1, pe.2] at PU
  have PUH := Hid.intro PU
  have B01 := Hid.intro B1
  have BW := Hid.intro ((B0H.out.trans (B1.mono B0H.out.size)).trans (BA.mono (Nat.le_trans B0H.out.size B1.size)))
  clear hS hF B1 BA L1 R1 PU pe
  go_wp2_with fail
  refine PUH.out.mono ?_
  rintro e w2 ⟨rfl, L2⟩
  have L2' := (L2.less (G := fun k => k < w0.heap.size) (fun k hk => .inl hk)).here
  have BW2 := Hid.intro (BW.out.trans (L2.out (B := w.heap.size) BW.out.size (fun k hk => .inl (Nat.lt_of_lt_of_le hk B0H.out.size))))
  have W2 : Wid w2 := by
    obtain ⟨t, fr, q⟩ := W0.out
    have q0 := lt_of_heap q
    have q1 := (L2.block (.inl q0)).trans (((Below.refl _ w1).alloc (Nat.le_refl _) (.cells (madeCells #[.int .u8 0] 16) 5 (0, 0))).block 0 (Nat.lt_of_lt_of_le q0 B01.out.size))
    exact ⟨t, fr, q1.trans ((B01.out.block 0 q0).trans q)⟩
  have W2H := Hid.intro W2
  have z0 : 0 < w0.heap.size := by obtain ⟨t, fr, q⟩ := W0.out; exact lt_of_heap q
  have Z0 := Hid.intro z0
  generalize encL 2 3 8 (List.replicate 16 0) = R at L2'
  have L2H : Hid (SL (fun k => k < w0.heap.size) 0 w2 w2 b (sndL 7 2 3 8 2 2 R 0)) := L2'
  clear L2 L2' PUH BW W2 z0 mk
  have T0 := Hid.intro (sltick 0 (by decide) (by decide) L2H.out)
  rw [show tickC (sndL 7 2 3 8 2 2 R 0) 0 = sndL 7 2 3 8 2 2 R 1 from (tick_L 0).1] at T0
  have l0 : Hid ((tickP (sndL 7 2 3 8 2 2 R 0) 0).length = 3) := frms_len 0
  go_wp2_with fail
  refine T0.out.mono ?_
  rintro e w3 ⟨v3, G3, rfl, _, f3, _, L3⟩
  obtain ⟨a3, c3, e3⟩ := f3.len
  rw [l0.out] at e3
  subst e3
  have T1 := Hid.intro (sltick 1 (by decide) (by decide) L3)
  have n1 := tick_no (tx := 7) (K := 2) (N := 3) (S := 8) (wait := 2) (most := 2) (R := R) (i := 1) (now := 1) (by decide) (by decide)
  rw [n1.1] at T1
  have l1 : Hid ((tickP (sndL 7 2 3 8 2 2 R 1) 1).length = 0) := by rw [n1.2]; rfl
  clear f3 L3 n1 T0 l0
  go_wp2_with fail
  refine T1.out.mono ?_
  rintro e w4 ⟨v4, G4, rfl, _, f4, _, L4⟩
  obtain ⟨a4, c4, e4⟩ := f4.len
  rw [l1.out] at e4
  subst e4
  have T2 := Hid.intro (sltick 2 (by decide) (by decide) L4)
  rw [show tickC (sndL 7 2 3 8 2 2 R 1) 2 = sndL 7 2 3 8 2 2 R 2 from (tick_L 1).1] at T2
  have l2 : Hid ((tickP (sndL 7 2 3 8 2 2 R 1) 2).length = 3) := frms_len 1
  clear f4 L4 T1 l1
  go_wp2_with fail
  refine T2.out.mono ?_
  rintro e w5 ⟨v5, G5, rfl, _, f5, _, L5⟩
  obtain ⟨a5, c5, e5⟩ := f5.len
  rw [l2.out] at e5
  subst e5
  have T4 := Hid.intro (sltick 4 (by decide) (by decide) L5)
  rw [show tickC (sndL 7 2 3 8 2 2 R 2) 4 = sndL 7 2 3 8 2 2 R 3 from (tick_L 2).1, show tickP (sndL 7 2 3 8 2 2 R 2) 4 = [⟨7, 0, 0, 0, 2, []⟩] from (tick_L 2).2] at T4
  clear f5 L5 T2 l2
  go_wp2_with fail
  refine T4.out.mono ?_
  rintro e w6 ⟨v6, G6, rfl, hG6, f6, L6, L6'⟩
  obtain ⟨ao6, c6, rfl, hp6⟩ := f6
  obtain ⟨pb, off, rfl, hpb, hq6⟩ := hp6 (by decide)
  obtain ⟨_, _, _, _, _, _, k4, _⟩ := hq6 0 (by decide)
  have K4 := Hid.intro k4
  have L6H := Hid.intro L6
  have BW6 := Hid.intro (BW2.out.trans (L6'.out (B := w.heap.size) BW2.out.size (fun k hk => Nat.lt_of_lt_of_le hk B0H.out.size)))
  have W6 := Hid.intro (L6'.wid W2H.out Z0.out)
  have BG : Hid (∀ k, k < w.heap.size → G6 k) := fun k hk => hG6 k (Nat.lt_of_lt_of_le hk B0H.out.size)
  have GB := Hid.intro hpb
  clear hq6 k4 L6 L6' T4 hp6 hpb hG6
  have BH := (Below.refl _ w6).alloc (Nat.le_refl _) (.cells #[.int .u8 1, .int .u8 0] 5 (0, 0))
  have L7 := L6H.out.grow BH
  have R7 : Reads (w6.alloc (.cells #[.int .u8 1, .int .u8 0] 5 (0, 0))) (some ⟨w6.heap.size, 0, none⟩) [1, 0] := pair_made 1 0 w6
  have HE := slhear ⟨7, 0, 0, 0, 1, [1, 0]⟩ (some ⟨w6.heap.size, 0, none⟩) 2 (byt_pair (by decide) (by decide)) (by decide) L7 (W6.out.below BH) R7 (fun _ ad ha => by cases ha; exact .inr ⟨Nat.le_refl _, by simp⟩)
  have ha : hearA (sndL 7 2 3 8 2 2 R 3) ⟨7, 0, 0, 0, 1, [1, 0]⟩ = true := rfl
  have hc : hearC (sndL 7 2 3 8 2 2 R 3) ⟨7, 0, 0, 0, 1, [1, 0]⟩ = ackC (sndL 7 2 3 8 2 2 R 3) 1 0 := rfl
  rw [ha, hc] at HE
  have HEH := Hid.intro HE
  have k7 := Hid.intro (cellKn BH K4.out)
  have BW7 := Hid.intro (BW6.out.trans (BH.mono BW6.out.size))
  clear BH L7 R7 HE ha hc K4
  go_wp2_with fail
  refine HEH.out.mono ?_
  rintro e w8 ⟨rfl, L8⟩
  have e8 : w8.cell? ⟨pb, off + 4, none⟩ = some (.int .i64 2) := by
    have := L8.cell k7.out (.inl GB.out)
    simpa using this
  obtain ⟨q1, q2⟩ := ack_L (tx := 7) (K := 2) (N := 3) (S := 8) (wait := 2) (most := 2) (R := R) 3
  have q3 : helloG (ackC (sndL 7 2 3 8 2 2 R 3) 1 0) = 1 := by unfold helloG; rw [q1]; rfl
  have L8H := Hid.intro L8
  have BW8 := Hid.intro (BW7.out.trans (L8.out (B := w.heap.size) BW7.out.size (fun k hk => .inl (BG.out k hk))))
  have FR := slroom L8
  have FL := fun W (h : SL (fun k => G6 k ∨ (w6.heap.size ≤ k ∧ k < (w6.alloc (.cells #[.int .u8 1, .int .u8 0] 5 (0, 0))).heap.size)) (0 + 1 + 1 + 1 + 1 + 4) (w6.alloc (.cells #[.int .u8 1, .int .u8 0] 5 (0, 0))) W b (ackC (sndL 7 2 3 8 2 2 R 3) 1 0)) => sllost h
  have FHL := fun W (h : SL (fun k => G6 k ∨ (w6.heap.size ≤ k ∧ k < (w6.alloc (.cells #[.int .u8 1, .int .u8 0] 5 (0, 0))).heap.size)) (0 + 1 + 1 + 1 + 1 + 4) (w6.alloc (.cells #[.int .u8 1, .int .u8 0] 5 (0, 0))) W b (ackC (sndL 7 2 3 8 2 2 R 3) 1 0)) => slhello h
  rw [q1] at FR
  rw [q2] at FL
  rw [q3] at FHL
  clear L8 HEH k7 q1 q2 q3
  have FRH := Hid.intro FR
  have FLH := Hid.intro FL
  have FHH := Hid.intro FHL
  clear FR FL FHL
  go_wp2_with fail
  refine FRH.out.mono ?_
  rintro e w9 ⟨rfl, B9⟩
  have BW9 := Hid.intro (BW8.out.trans (B9.mono BW8.out.size))
  have L9 := Hid.intro (L8H.out.below B9)
  clear B9 L8H FRH e8
  go_wp2_with fail
  refine (FLH.out w9 L9.out).mono ?_
  rintro e w10 ⟨rfl, B10⟩
  have BW10 := Hid.intro (BW9.out.trans (B10.mono BW9.out.size))
  have L10 := Hid.intro (L9.out.below B10)
  clear B10 L9 FLH
  go_wp2_with fail
  refine (FHH.out w10 L10.out).mono ?_
  rintro e w11 ⟨ha, hc, rfl, B11⟩
  have BW11 := Hid.intro (BW10.out.trans (B11.mono BW10.out.size))
  clear B11 L10 FHH
  have fs := fr_seq ((ackC (sndL 7 2 3 8 2 2 R 3) 1 0).tx : Int) 16 0 0 3 ha 0 hc w11
  go_wp2_with fail
  refine (link_any w11).mono ?_
  rintro e w12 ⟨rfl, B12⟩
  have BW12 := Hid.intro (BW11.out.trans (B12.mono BW11.out.size))
  clear B12
  go_wp2_with fail
  refine (nmay_any 2 3 8 2 2 w12).mono ?_
  rintro e w13 ⟨rfl, B13⟩
  have BW13 := Hid.intro (BW12.out.trans (B13.mono BW12.out.size))
  rw [show mayL 2 3 8 2 2 = true by decide]
  clear B13
  go_wp2_with fail
  refine (link_any w13).mono ?_
  rintro e w14 ⟨rfl, B14⟩
  have BW14 := Hid.intro (BW13.out.trans (B14.mono BW13.out.size))
  clear B14
  go_wp2_with fail
  refine (nnew_no 256 2 3 8 2 2 (by decide) w14 (hW.below BW14.out)).mono ?_
  rintro e w15 ⟨rfl, B15⟩
  have BW15 := Hid.intro (BW14.out.trans (B15.mono BW14.out.size))
  clear B15
  go_wp2
  go_ret
  exact ⟨rfl, BW15.out⟩

end Go.Proofs.YteacdckfnmjojabDoor
