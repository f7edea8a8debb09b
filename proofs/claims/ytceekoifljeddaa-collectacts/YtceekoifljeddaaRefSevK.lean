/- The document's collector: Due. -/
import Derived.Test.YtceekoifljeddaaMRefB
import Derived.Deep.RegionHeld3
import Derived.Deep.RegionLaw
namespace Go.Proofs.Ytceekoifljeddaa
open Go.RowKit
open Bt

variable {S : Nat → Prop} {w w' : World} {b : Nat} {x : Col}

def lenV : Value → Nat
  | .slice _ n _ => n
  | _ => 0

theorem info_part : (Try.prog.info? 53).map (fun i => (i.zero, i.size, i.bytes)) = some (some (.agg #[.int .i64 0, .bool false, .slice none 0 0]), 3, 40) := by kernel_rfl

theorem gap_of {y : Col} (h : y.Ok) : decA y.K y.N y.S (y.g 0) = (partOf y).data ∧ (decE y.K y.N y.S (y.g 0) != 0) = (partOf y).gap := by
  by_cases q : y.K ≤ cnt (y.g 0)
  · obtain ⟨q1, q2, q3⟩ := (dec_part h).1 q
    exact ⟨q2, by rw [q1, q3]; rfl⟩
  · obtain ⟨q1, q2, q3⟩ := (dec_part h).2 q
    exact ⟨q2, by rw [q1, q3]; rfl⟩

theorem room_of_owns {w : World} {e : TypeId} {s : Nat} {ao : Option Addr} {n cap : Nat} {xs : List Value} (h : w.ownsRow 0 e s (.slice ao n cap) n xs) : Room ao cap n := by
  rcases h.2 with ⟨q, _⟩ | ⟨g, c, cur, q, _, _, q2, _⟩
  · cases q; exact ⟨fun _ => rfl, Nat.le_refl _⟩
  · cases q; exact ⟨fun q => (by cases q), q2⟩

theorem part_group (y : Col) : (partOf y).group = y.base := by unfold partOf; split <;> rfl

set_option maxRecDepth 100000 in
set_option maxHeartbeats 4000000 in
theorem refDue_any (w : World) (h : RefC S w b x) :
    Calls Try.prog 23 #[.pointer (some ⟨b, 0, none⟩)] w fun e w' => ∃ v, e = .returned v ∧ PartsAt w.heap.size w' v (dueP x) ∧ RefLeft S w w' b (dueC x) := by
  obtain ⟨gb0, go0, gc0, lb0, A0, C0, h0⟩ := h
  have hok := h0.ok
  have hK1 := hok.bounds.1
  have D0 : Hid (DueAt S w w b (fun i => partOf (shiftN i x)) (.slice none 0 0) 0 (shiftN 0 x) S gb0 go0 gc0 lb0 A0 C0 (fun _ => none) (fun _ => 0)) :=
    ⟨PtsAt.start, h0, fun k hk => .inl hk, fun k hk => by simp [Value.ownBlock] at hk, fun i hi => by omega, Chg.refl _ _, h0.inB.1, h0.lt b h0.inB.1⟩
  have HOK := Hid.intro hok
  have HK1 := Hid.intro hK1
  obtain ⟨iP, hiP, hzP0, hzP1, hzP2⟩ := info_parts info_part
  obtain ⟨iG, hiG, hzG0, hzG1, hzG2⟩ := info_parts info_grp
  clear h0 hok hK1
  go_enter Try.func23, Try.ntmps23
  go_wp2_with fail
  go_loopw [3] (fun v wr => ∃ (t : Nat) (T : Nat → Prop) (gb go gc : Nat) (lb : Nat → Nat) (A : Nat → Nat → Option Addr) (C : Nat → Nat → Nat) (ad : Nat → Option Addr) (cp : Nat → Nat), t ≤ dueM 4 x ∧ DueAt S w wr b (fun i => partOf (shiftN i x)) v t (shiftN t x) T gb go gc lb A C ad cp) (fun v _ => 5 - lenV v)
  case atStart => exact ⟨0, S, gb0, go0, gc0, lb0, A0, C0, fun _ => none, fun _ => 0, Nat.zero_le _, D0.out⟩
  case round =>
    clear D0
    obtain ⟨t, T, gb, go, gc, lb, A, C, ad, cp, ht, hD⟩ := hrel
    have hm4 := dueM_le 4 x
    obtain ⟨ao, cv, rfl, _⟩ := ownsRow_form hD.pts.own
    obtain ⟨y, hy⟩ : ∃ y, y = shiftN t x := ⟨_, rfl⟩
    have HY := Hid.intro hy
    rw [← hy] at hD
    have HD := Hid.intro hD
    have yok : y.Ok := hD.rc.ok
    have FR := Hid.intro (refReady_any wr hD.rc)
    have hrm := readyN_mod y
    generalize readyN y = rn at FR hrm
    rcases hr : rdy y 0 with _ | _
    · have hte : t = dueM 4 x := by
        rcases Nat.lt_or_ge t (dueM 4 x) with q | q
        · have := dueM_rdy 4 x t q
          rw [← hy, hr] at this
          cases this
        · omega
      rw [hr] at hrm
      have m0 : ((rn : Int) % 2 == 1) = false := by rw [beq_eq_false_iff_ne]; simp [bitN] at hrm; omega
      have HTE := Hid.intro hte
      clear hte hrm hr hy hD yok ht
      go_wp2_with fail
      refine FR.out.mono ?_
      rintro e w1 ⟨rfl, B1⟩
      have D1 := Hid.intro (HD.out.below B1)
      clear FR HD B1
      go_wp2
      go_ret
      refine ⟨_, rfl, ?_, T, ?_, D1.out.chg, D1.out.inT⟩
      · have := D1.out.pts.parts
        rw [HTE.out] at this
        rw [HTE.out]
        exact this
      · unfold dueC
        rw [← HTE.out, ← HY.out]
        exact ⟨_, _, _, _, _, _, D1.out.rc⟩
    · have hlt : t < dueM 4 x := by
        rcases Nat.lt_or_ge t (dueM 4 x) with q | q
        · exact q
        · have e1 : t = dueM 4 x := by omega
          have := dueC_base (x := x) HK1.out
          unfold dueC at this
          rw [← e1, ← hy, hr] at this
          cases this
      rw [hr] at hrm
      have m0 : ((rn : Int) % 2 == 1) = true := by rw [beq_iff_eq]; simp [bitN] at hrm; omega
      clear hrm hr hy hD
      go_wp2_with fail
      refine FR.out.mono ?_
      rintro e w1 ⟨rfl, B1⟩
      have D1 := HD.out.below B1
      have D1H := Hid.intro D1
      obtain ⟨c0, c1, c2, c3, c4⟩ := D1.rc.cells
      have k0 := D1.rc.grp 0 (by omega)
      rw [Nat.zero_mul, Nat.add_zero] at k0
      have cap4 := D1.rc.cap
      have DEC := refDecode_any y.K y.N y.S (some ⟨lb 0, 0, none⟩) y.N (y.g 0) (yok.byt 0 (by omega)) w1.drew ((D1.rc.below (Below.refl _ w1).drew).readsL (by omega))
      rw [yok.len 0 (by omega), (gap_of yok).1] at DEC
      have GAP := Hid.intro (gap_of yok).2
      unfold Cd at DEC
      generalize decE y.K y.N y.S (y.g 0) = E at DEC GAP
      obtain ⟨pt, hpt⟩ : ∃ pt, pt = partOf y := ⟨_, rfl⟩
      have HPT := Hid.intro hpt
      rw [← hpt] at DEC GAP
      have DECH := Hid.intro DEC
      clear FR HD B1 D1 DEC
      have HYP : Hid (partOf (shiftN t x) = pt) := by rw [HPT.out, HY.out]; rfl
      clear hpt
      go_wp2_with fail
      go_region_held3 (fun w' => w'.cell? ⟨b, 0, none⟩ = some (.int .i64 (y.K : Int)) ∧ w'.cell? ⟨b, 1, none⟩ = some (.int .i64 (y.N : Int)) ∧ w'.cell? ⟨b, 2, none⟩ = some (.int .i64 (y.S : Int)) ∧ w'.cell? ⟨b, 3, none⟩ = some (.int .i64 (y.base : Int)) ∧ w'.cell? ⟨b, 4, none⟩ = some (.slice (some ⟨gb, go, none⟩) 4 gc) ∧ w'.cell? ⟨gb, go, none⟩ = some (.slice (some ⟨lb 0, 0, none⟩) y.N y.N))
        (first | exact ⟨cellK E2 c0, cellK E2 c1, cellK E2 c2, cellK E2 c3, cellK E2 c4, cellK E2 k0⟩ | go_keep)
        ((go_at_call 41; refine DECH.out.mono ?_; rintro e w2 ⟨dv, rfl, hdv, hdb, B2⟩; have E2 : Below w1.heap.size w1 w2 := undrewK B2 rfl))
      all_goals
        obtain ⟨da, dc, rfl, hdr, hdo⟩ := row_of_owns hdv
        have hroom := room_of_owns hdv
        have D2 := D1H.out.below E2
        have gap := GAP.out
        have d3 := D2.rc.cells.2.2.2.1
        have hda : ∀ z, da = some z → w1.heap.size ≤ z.block ∧ z.block < w2.heap.size := fun z hz => by
          have q := hdo z hz
          exact ⟨hdb _ q, (World.ownsRow.lt hdv _ q).2⟩
        have hTw : ∀ k, T k → k < w1.heap.size := fun k hk => D1H.out.rc.lt k hk
        have R4 : Hid ((w2.alloc (.cells #[.int .i64 (y.base : Int), .bool pt.gap, .slice da pt.data.length dc] 53)).ownsRow 0 53 3 (.slice ao t cv) t (pcells (fun i => partOf (shiftN i x)) ad cp t)) := ownsRow_keep D2.pts.own fun k hk => heap_alloc_other _ _ _ (World.ownsRow.lt D2.pts.own k hk).2
        have NW4 : Hid (∀ j u, ([.int .i64 (y.base : Int), .bool pt.gap, .slice da pt.data.length dc] : List Value)[j]? = some u → (w2.alloc (.cells #[.int .i64 (y.base : Int), .bool pt.gap, .slice da pt.data.length dc] 53)).cell? ((⟨w2.heap.size, 0, none⟩ : Addr).add j) = some u) :=
          World.news_of_block (cs := #[.int .i64 (y.base : Int), .bool pt.gap, .slice da pt.data.length dc]) (t := 53) (fr := (0, 0)) (heap_alloc_new w2 _)
        have ONE4 : Hid (∀ u ∈ ([.int .i64 (y.base : Int), .bool pt.gap, .slice da pt.data.length dc] : List Value), u.oneCell' = true) := by simp [Hid, Value.oneCell']
        have FIN4 : Hid (∀ (g7 c7 : Nat) (w7 : World), w7.ownsRow 0 53 3 (.slice (some ⟨g7, 0, none⟩) (t + 1) c7) (t + 1) (pcells (fun i => partOf (shiftN i x)) ad cp t ++ [.int .i64 (y.base : Int), .bool pt.gap, .slice da pt.data.length dc]) →
            (w2.alloc (.cells #[.int .i64 (y.base : Int), .bool pt.gap, .slice da pt.data.length dc] 53)).grownBy w7 (Value.slice ao t cv).ownBlock → ((Value.slice ao t cv).ownBlock = some g7 ∨ g7 = w2.heap.size + 1) →
            DueAt S w w7 b (fun i => partOf (shiftN i x)) (.slice (some ⟨g7, 0, none⟩) (t + 1) c7) (t + 1) y T gb go gc lb A C (fun i => if i = t then da else ad i) (fun i => if i = t then dc else cp i)) := fun g7 c7 w7 hown hgrow hat => by
          refine D2.part (by rw [HYP.out]; exact hdr) (by rw [HYP.out]; exact hroom) (fun z hz => ?_) (by rw [HYP.out, HPT.out, part_group, ← HPT.out]; exact hown) hgrow hat
          obtain ⟨q1, q2⟩ := hda z hz
          refine ⟨fun q => by have := hTw _ q; omega, by have := D1H.out.chg.size; omega, q2, fun q => ?_⟩
          have := (World.ownsRow.lt D1H.out.pts.own _ q).2
          omega
        have NX := fun W => refNext_any (y.base : Int) 1 (by decide) W
        have hyb := yok.base
        rw [show nextA (y.base : Int) 1 = (((y.base + 1) % 256 : Nat) : Int) by rw [nextA_in 1 (by omega)]; omega] at NX
        obtain ⟨nb, hnb⟩ : ∃ nb, nb = (y.base + 1) % 256 := ⟨_, rfl⟩
        rw [← hnb] at NX
        have HNB := Hid.intro hnb
        clear hnb
        have NXH := Hid.intro NX
        have hld : t ≤ 4 := by omega
        clear hdv hdb B2 E2 hdr hdo hroom D2 GAP hda hTw c0 c1 c2 c3 c4 k0 DECH NX D1H yok
        go_wp2_with (refine wpList_append_lies _ (by rfl) _ _ _ (by rfl) 0 53 iP (.agg #[.int .i64 0, .bool false, .slice none 0 0]) 3 40 Try.underlying33 hiP hzP0 hzP1 hzP2 (by rfl) (by decide) (.slice ao t cv) t _ (by rfl) R4.out ⟨w2.heap.size, 0, none⟩ 1 1 [.int .i64 (y.base : Int), .bool pt.gap, .slice da pt.data.length dc] (by rfl) (by rfl) NW4.out ONE4.out (by decide) (by unfold maxLen; omega) (by omega) (Nat.zero_le _) (w2.heap.size + 1) (by simp) ?_; intro g7 c7 w7 hown hgrow hat hlt7; have D7 := Hid.intro (FIN4.out g7 c7 w7 hown hgrow hat); have e3 := D7.out.rc.cells.2.2.2.1; have f3 := frozen_of_row w7 b 3 _ _ D7.out.rc.head; clear hown hgrow hat hlt7)
        refine (NXH.out _).mono ?_
        rintro e w8 ⟨rfl, rfl⟩
        go_wp2_with fail
        have hb7 : b < w7.heap.size := D7.out.rc.lt b D7.out.rc.inB.1
        have hh6 := heap_setCell_same w7 b 3 _ _ (.int .i64 (nb : Int)) D7.out.rc.head
        have s1 : (w7.setCell ⟨b, 3, none⟩ (.int .i64 (nb : Int))).cell? ⟨b, 1, none⟩ = some (.int .i64 (y.N : Int)) := by rw [cell_of_row _ b 1 _ _ _ hh6]; rfl
        have s4 : (w7.setCell ⟨b, 3, none⟩ (.int .i64 (nb : Int))).cell? ⟨b, 4, none⟩ = some (.slice (some ⟨gb, go, none⟩) 4 gc) := by rw [cell_of_row _ b 4 _ _ _ hh6]; rfl
        have NS : Hid (∀ j u, (gcells (fun i => lb (i + 1)) y.N (fun i => y.gone (i + 1)) 3)[j]? = some u → (w7.setCell ⟨b, 3, none⟩ (.int .i64 (nb : Int))).cell? ((⟨gb, go + 2, none⟩ : Addr).add j) = some u) := fun j u hu =>
          cell_chg (Chg.setCell (S := fun k => k = b) (p := ⟨b, 3, none⟩) (Chg.refl _ w7) (fun _ => rfl) _) (next_cells D7.out.rc j u hu) (by
            have hadd : (⟨gb, go + 2, none⟩ : Addr).add j = ⟨gb, go + 2 + j, none⟩ := by unfold Addr.add; split <;> simp_all
            rw [hadd]; exact D7.out.rc.apB)
        have FIN9 : Hid (∀ (wb : World) (gz cz m : Nat), Below w7.heap.size (w7.setCell ⟨b, 3, none⟩ (.int .i64 (nb : Int))) wb →
            wb.ownsRow 0 74 2 (.slice (some ⟨gz, 0, none⟩) 4 cz) 4 (gcells (fun i => lb (i + 1)) y.N (fun i => y.gone (i + 1)) 3 ++ [.slice (some ⟨m, 0, none⟩) y.N y.N, .bool false]) →
            wb.heap[m]? = some (.cells (madeCells #[.slice none 0 0] y.N) 39 (0, 0)) → w7.heap.size ≤ m → w7.heap.size ≤ gz → m ≠ gz →
            (wb.cell? ⟨b, 4, none⟩ = some (.slice (some ⟨gb, go, none⟩) 4 gc) ∧ wb.frozen? ⟨b, 4, none⟩ = false) ∧
            DueAt S w (wb.setCell ⟨b, 4, none⟩ (.slice (some ⟨gz, 0, none⟩) 4 cz)) b (fun i => partOf (shiftN i x)) (.slice (some ⟨g7, 0, none⟩) (t + 1) c7) (t + 1) (shiftN (t + 1) x) (fun k => T k ∨ k = m ∨ k = gz) gz 0 cz (lbS lb m) (fun i r => if i = 3 then none else A (i + 1) r) (fun i r => if i = 3 then 0 else C (i + 1) r) (fun i => if i = t then da else ad i) (fun i => if i = t then dc else cp i)) := fun wb gz cz m h1 h2 h3 h4 h5 h6 => by
          have e1 : shiftN (t + 1) x = shift y := by rw [HY.out]; rfl
          rw [e1]
          rw [HNB.out] at h1
          exact D7.out.shift h1 h2 h3 h4 h5 h6
        have hs6 : w7.heap.size = (w7.setCell ⟨b, 3, none⟩ (.int .i64 (nb : Int))).heap.size := (World.size_setCell _ _ _).symm
        rw [hs6] at FIN9
        generalize w7.setCell ⟨b, 3, none⟩ (.int .i64 (nb : Int)) = w6 at s1 s4 NS FIN9 ⊢
        obtain ⟨MK, hMK⟩ : ∃ MK : Obj, MK = .cells (madeCells #[.slice none 0 0] y.N) 39 (0, 0) := ⟨_, rfl⟩
        obtain ⟨n, hn⟩ : ∃ n, n = y.N := ⟨_, rfl⟩
        have hn10 : n ≤ 10 := by have := D7.out.rc.ok.bounds; omega
        rw [← hn] at s1 hMK NS FIN9
        have mk : ∀ W : World, (Instr.makeSlice 48 (.int .i64 (n : Int)) (.int .i64 (n : Int))).run Try.prog W = .ok (.slice (some ⟨W.heap.size, 0, none⟩) n n) (W.alloc MK) := fun W => by
          rw [hMK]; exact run_make_row' 48 39 (.slice none 0 0) 24 Try.underlying48 info_rowF (by rfl) .i64 .i64 n (by omega) (by omega) W
        have a1 : ∀ o1, (w6.alloc o1).cell? ⟨b, 1, none⟩ = some (.int .i64 (n : Int)) := fun o1 => cellK ((Below.refl _ w6).alloc (Nat.le_refl _) _) s1
        have a4 : ∀ o1, (w6.alloc o1).cell? ⟨b, 4, none⟩ = some (.slice (some ⟨gb, go, none⟩) 4 gc) := fun o1 => cellK ((Below.refl _ w6).alloc (Nat.le_refl _) _) s4
        have b4 : ∀ o1 o2, ((w6.alloc o1).alloc o2).cell? ⟨b, 4, none⟩ = some (.slice (some ⟨gb, go, none⟩) 4 gc) := fun o1 o2 => cellK (bel_alloc ((Below.refl _ w6).alloc (Nat.le_refl _) _) (Nat.le_refl _) _) s4
        have d4 : ∀ o1 o2 o3, (((w6.alloc o1).alloc o2).alloc o3).cell? ⟨b, 4, none⟩ = some (.slice (some ⟨gb, go, none⟩) 4 gc) := fun o1 o2 o3 => cellK (bel_alloc (bel_alloc ((Below.refl _ w6).alloc (Nat.le_refl _) _) (Nat.le_refl _) _) (Nat.le_refl _) _) s4
        have BD := Hid.intro ((Below.refl w6.heap.size w6).drew)
        have LEN : Hid ((gcells (fun i => lb (i + 1)) n (fun i => y.gone (i + 1)) 3).length = 3 * 2) := gcells_length _ _ _ 3
        have ONE7 : Hid (∀ u ∈ gcells (fun i => lb (i + 1)) n (fun i => y.gone (i + 1)) 3, u.oneCell' = true) := by rw [hn]; exact next_one lb y
        have ONE9 : ∀ m, Hid (∀ u ∈ ([.slice (some ⟨m, 0, none⟩) n n, .bool false] : List Value), u.oneCell' = true) := fun m => by simp [Hid, Value.oneCell']
        generalize gcells (fun i => lb (i + 1)) n (fun i => y.gone (i + 1)) 3 = ns at LEN ONE7 NS FIN9
        have HNE : Hid (MK ≠ .cells #[] 74 (0, 0)) := by rw [hMK]; simp [Hid]
        rw [← hMK] at FIN9
        have gc1 : ¬ gc = 1 := by omega
        clear hMK hn e3 f3 d3 hb7 hh6 hs6 D7 R4 NW4 ONE4 FIN4 NXH
        go_region_law
          (first
            | (refine step_append_lies _ (by rfl) _ _ _ (by rfl) 0 74 iG (.agg #[.slice none 0 0, .bool false]) 2 32 Try.underlying44 hiG hzG0 hzG1 hzG2 (by rfl) (by decide) _ 0 [] (by rfl) (own_empty (by first | exact alloc_at (by simp) | exact alloc_far (alloc_at (by simp)) | exact alloc_far (alloc_far (alloc_at (by simp))))) ⟨gb, go + 2, none⟩ 3 (gc - 1) ns (by rfl) LEN.out (fun j u hu => cellK (by first | exact BD.out | exact bel_alloc BD.out (Nat.le_refl _) _ | exact bel_alloc (bel_alloc BD.out (Nat.le_refl _) _) (Nat.le_refl _) _ | exact bel_alloc (bel_alloc (bel_alloc BD.out (Nat.le_refl _) _) (Nat.le_refl _) _) (Nat.le_refl _) _) (NS.out j u hu)) ONE7.out (by decide) (by unfold maxLen; omega) (by omega) (Nat.zero_le _) _ rfl ?_; intro ga ca wa hown hgrow hat hlta; have Q7 := Hid.intro (app7 (H := w6.heap.size) (w6 := w6) (by first | exact alloc_at (by simp) | exact alloc_far (alloc_at (by simp)) | exact alloc_far (alloc_far (alloc_at (by simp)))) (by first | (dsimp only; omega) | (simp; done)) (by first | exact BD.out | exact bel_alloc BD.out (Nat.le_refl _) _ | exact bel_alloc (bel_alloc BD.out (Nat.le_refl _) _) (Nat.le_refl _) _ | exact bel_alloc (bel_alloc (bel_alloc BD.out (Nat.le_refl _) _) (Nat.le_refl _) _) (Nat.le_refl _) _) (Nat.le_refl _) hown hgrow hat hlta); have t1 := cellK Q7.out.below s1; clear hown hgrow hat hlta)
            | (have PR := pre1 MK n (Nat.le_refl _) Q7.out; refine step_append_lies _ (by rfl) _ _ _ (by rfl) 0 74 iG (.agg #[.slice none 0 0, .bool false]) 2 32 Try.underlying44 hiG hzG0 hzG1 hzG2 (by rfl) (by decide) _ 3 ns (by rfl) PR.own ⟨wa.heap.size + 1, 0, none⟩ 1 1 [.slice (some ⟨wa.heap.size, 0, none⟩) n n, .bool false] (by rfl) (by rfl) (World.news_of_block (cs := #[.slice (some ⟨wa.heap.size, 0, none⟩) n n, .bool false]) PR.gr) (ONE9 _).out (by decide) (by unfold maxLen; omega) (by omega) (Nat.zero_le _) _ rfl ?_; intro gz cz wb hown hgrow hat hltz; have Q9 := app9 PR.below (Nat.le_refl _) PR.ge PR.made PR.ne hgrow hat; have FN := FIN9.out wb gz cz _ Q9.1 hown Q9.2.1 PR.hm Q9.2.2.1 Q9.2.2.2; have k4 := FN.1.1; have k5 := FN.1.2; have F2 := Hid.intro FN.2; clear FN Q9 PR hown hgrow hat hltz)
            | (have PR := pre2 MK n (w6.heap.size + 1) HNE.out (Nat.le_refl _) Q7.out (by first | exact alloc_at (by simp) | exact alloc_far (alloc_at (by simp)) | exact alloc_far (alloc_far (alloc_at (by simp)))) (by omega); refine step_append_lies _ (by rfl) _ _ _ (by rfl) 0 74 iG (.agg #[.slice none 0 0, .bool false]) 2 32 Try.underlying44 hiG hzG0 hzG1 hzG2 (by rfl) (by decide) _ 3 ns (by rfl) PR.own ⟨wa.heap.size, 0, none⟩ 1 1 [.slice (some ⟨w6.heap.size + 1, 0, none⟩) n n, .bool false] (by rfl) (by rfl) (World.news_of_block (cs := #[.slice (some ⟨w6.heap.size + 1, 0, none⟩) n n, .bool false]) PR.gr) (ONE9 _).out (by decide) (by unfold maxLen; omega) (by omega) (Nat.zero_le _) _ rfl ?_; intro gz cz wb hown hgrow hat hltz; have Q9 := app9 PR.below (Nat.le_refl _) PR.ge PR.made PR.ne hgrow hat; have FN := FIN9.out wb gz cz _ Q9.1 hown Q9.2.1 PR.hm Q9.2.2.1 Q9.2.2.2; have k4 := FN.1.1; have k5 := FN.1.2; have F2 := Hid.intro FN.2; clear FN Q9 PR hown hgrow hat hltz)
            | (have PR := pre2 MK n w6.heap.size HNE.out (Nat.le_refl _) Q7.out (by first | exact alloc_at (by simp) | exact alloc_far (alloc_at (by simp)) | exact alloc_far (alloc_far (alloc_at (by simp)))) (by omega); refine step_append_lies _ (by rfl) _ _ _ (by rfl) 0 74 iG (.agg #[.slice none 0 0, .bool false]) 2 32 Try.underlying44 hiG hzG0 hzG1 hzG2 (by rfl) (by decide) _ 3 ns (by rfl) PR.own ⟨wa.heap.size, 0, none⟩ 1 1 [.slice (some ⟨w6.heap.size, 0, none⟩) n n, .bool false] (by rfl) (by rfl) (World.news_of_block (cs := #[.slice (some ⟨w6.heap.size, 0, none⟩) n n, .bool false]) PR.gr) (ONE9 _).out (by decide) (by unfold maxLen; omega) (by omega) (Nat.zero_le _) _ rfl ?_; intro gz cz wb hown hgrow hat hltz; have Q9 := app9 PR.below (Nat.le_refl _) PR.ge PR.made PR.ne hgrow hat; have FN := FIN9.out wb gz cz _ Q9.1 hown Q9.2.1 PR.hm Q9.2.2.1 Q9.2.2.2; have k4 := FN.1.1; have k5 := FN.1.2; have F2 := Hid.intro FN.2; clear FN Q9 PR hown hgrow hat hltz)
            | (have PR := pre3 MK n (w6.heap.size + 1) (w6.heap.size + 2) HNE.out Q7.out (by first | exact alloc_at (by simp) | exact alloc_far (alloc_at (by simp)) | exact alloc_far (alloc_far (alloc_at (by simp)))) (by first | exact alloc_at (by simp) | exact alloc_far (alloc_at (by simp)) | exact alloc_far (alloc_far (alloc_at (by simp)))) (by omega); refine step_append_lies _ (by rfl) _ _ _ (by rfl) 0 74 iG (.agg #[.slice none 0 0, .bool false]) 2 32 Try.underlying44 hiG hzG0 hzG1 hzG2 (by rfl) (by decide) _ 3 ns (by rfl) PR.own ⟨w6.heap.size + 2, 0, none⟩ 1 1 [.slice (some ⟨w6.heap.size + 1, 0, none⟩) n n, .bool false] (by rfl) (by rfl) (World.news_of_block (cs := #[.slice (some ⟨w6.heap.size + 1, 0, none⟩) n n, .bool false]) PR.gr) (ONE9 _).out (by decide) (by unfold maxLen; omega) (by omega) (Nat.zero_le _) _ rfl ?_; intro gz cz wb hown hgrow hat hltz; have Q9 := app9 PR.below (Nat.le_refl _) PR.ge PR.made PR.ne hgrow hat; have FN := FIN9.out wb gz cz _ Q9.1 hown Q9.2.1 PR.hm Q9.2.2.1 Q9.2.2.2; have k4 := FN.1.1; have k5 := FN.1.2; have F2 := Hid.intro FN.2; clear FN Q9 PR hown hgrow hat hltz)
            | (have PR := pre3 MK n w6.heap.size (w6.heap.size + 2) HNE.out Q7.out (by first | exact alloc_at (by simp) | exact alloc_far (alloc_at (by simp)) | exact alloc_far (alloc_far (alloc_at (by simp)))) (by first | exact alloc_at (by simp) | exact alloc_far (alloc_at (by simp)) | exact alloc_far (alloc_far (alloc_at (by simp)))) (by omega); refine step_append_lies _ (by rfl) _ _ _ (by rfl) 0 74 iG (.agg #[.slice none 0 0, .bool false]) 2 32 Try.underlying44 hiG hzG0 hzG1 hzG2 (by rfl) (by decide) _ 3 ns (by rfl) PR.own ⟨w6.heap.size + 2, 0, none⟩ 1 1 [.slice (some ⟨w6.heap.size, 0, none⟩) n n, .bool false] (by rfl) (by rfl) (World.news_of_block (cs := #[.slice (some ⟨w6.heap.size, 0, none⟩) n n, .bool false]) PR.gr) (ONE9 _).out (by decide) (by unfold maxLen; omega) (by omega) (Nat.zero_le _) _ rfl ?_; intro gz cz wb hown hgrow hat hltz; have Q9 := app9 PR.below (Nat.le_refl _) PR.ge PR.made PR.ne hgrow hat; have FN := FIN9.out wb gz cz _ Q9.1 hown Q9.2.1 PR.hm Q9.2.2.1 Q9.2.2.2; have k4 := FN.1.1; have k5 := FN.1.2; have F2 := Hid.intro FN.2; clear FN Q9 PR hown hgrow hat hltz)
            | (have PR := pre3 MK n w6.heap.size (w6.heap.size + 1) HNE.out Q7.out (by first | exact alloc_at (by simp) | exact alloc_far (alloc_at (by simp)) | exact alloc_far (alloc_far (alloc_at (by simp)))) (by first | exact alloc_at (by simp) | exact alloc_far (alloc_at (by simp)) | exact alloc_far (alloc_far (alloc_at (by simp)))) (by omega); refine step_append_lies _ (by rfl) _ _ _ (by rfl) 0 74 iG (.agg #[.slice none 0 0, .bool false]) 2 32 Try.underlying44 hiG hzG0 hzG1 hzG2 (by rfl) (by decide) _ 3 ns (by rfl) PR.own ⟨w6.heap.size + 1, 0, none⟩ 1 1 [.slice (some ⟨w6.heap.size, 0, none⟩) n n, .bool false] (by rfl) (by rfl) (World.news_of_block (cs := #[.slice (some ⟨w6.heap.size, 0, none⟩) n n, .bool false]) PR.gr) (ONE9 _).out (by decide) (by unfold maxLen; omega) (by omega) (Nat.zero_le _) _ rfl ?_; intro gz cz wb hown hgrow hat hltz; have Q9 := app9 PR.below (Nat.le_refl _) PR.ge PR.made PR.ne hgrow hat; have FN := FIN9.out wb gz cz _ Q9.1 hown Q9.2.1 PR.hm Q9.2.2.1 Q9.2.2.2; have k4 := FN.1.1; have k5 := FN.1.2; have F2 := Hid.intro FN.2; clear FN Q9 PR hown hgrow hat hltz))
        all_goals
          clear a1 a4 b4 d4 mk BD LEN ONE7 ONE9 NS FIN9 HNE gc1 s1 s4 Q7 t1
          go_wp2
          go_roundw
          case rel => exact ⟨t + 1, _, _, _, _, _, _, _, _, _, hlt, F2.out⟩
          case measure => simp [lenV]; omega

end Go.Proofs.Ytceekoifljeddaa
