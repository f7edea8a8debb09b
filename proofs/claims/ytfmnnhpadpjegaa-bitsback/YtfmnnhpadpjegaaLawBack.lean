/- BitsBack: whatever pairs come in, it returns true: fields that are put are seen again, one behind the other; no condition. -/
import Derived.Test.YtfmnnhpadpjegaaPairs
namespace Go.Proofs.Ytfmnnhpadpjegaa.LawBack
open Go.ChangeShapes Go.WideShapes Go.ChangeAt Go.RowKit
open Bt

theorem info_pair : (Try.prog.info? 35).map (fun i => (i.zero, i.size, i.bytes)) = some (some (.agg #[.int .i64 0, .int .i64 0]), 2, 16) := by kernel_rfl

theorem nil_own (B : Nat) : ∀ j, (Value.slice none 0 0).ownBlock = some j → B ≤ j := fun _ h => by cases h

theorem walk_far (a : Option Addr) (len cap : Nat) (w : World) (hlen : len ≤ maxLen) (h : 100 < len) :
    Calls Try.prog 5 #[.slice a len cap] w fun e w' => e = .returned (.bool true) ∧ Below w.heap.size w w' := by
  unfold maxLen at hlen
  go_enter Try.func5, Try.ntmps5
  go_wp2_with (go_at_call 9; refine (alive_any _).mono ?_; rintro e w1 ⟨rfl, B1⟩)
  go_ret
  exact ⟨rfl, B1⟩

set_option maxRecDepth 100000 in
set_option maxHeartbeats 2000000 in
theorem walk_pos (bb off cap : Nat) (prs : List (Int × Int)) (w : World) (h1 : 0 < prs.length) (h2 : prs.length ≤ 100)
    (hc : ∀ i, (hi : i < prs.length) → w.cell? ⟨bb, off + i * 2, none⟩ = some (.int .i64 prs[i].1) ∧ w.cell? ⟨bb, off + i * 2 + 1, none⟩ = some (.int .i64 prs[i].2)) :
    Calls Try.prog 5 #[.slice (some ⟨bb, off, none⟩) prs.length cap] w fun e w' => e = .returned (.bool true) ∧ Below w.heap.size w w' := by
  have HC := Hid.intro hc
  clear hc
  obtain ⟨i0, hi0, hz0, hz1, hz2⟩ := info_parts info_pair
  have hdec : decide ((100 : Int) < (prs.length : Int)) = false := by simp; omega
  go_enter Try.func5, Try.ntmps5
  go_wp2_with (go_at_call 9; refine (alive_any _).mono ?_; rintro e w1 ⟨rfl, B1⟩)
  have P2 := pen_new w1
  have B2 := B1.alloc B1.size (.cells #[.slice none 0 0, .int .i64 0] 26)
  have hpb := B1.size
  generalize hpbe : w1.heap.size = pb at P2 hpb ⊢
  generalize w1.alloc (.cells #[.slice none 0 0, .int .i64 0] 26) = w2 at P2 B2 ⊢
  clear B1 hpbe
  go_loopw [4, 5] (fun h i wr => ∃ k : Nat, k ≤ prs.length ∧ i = .int .i64 k ∧ ∃ v, PenAt wr pb v (bitsP (prs.take k)) ∧ Own w.heap.size pb v ∧
      wr.ownsRow 0 35 2 h (hadP (prs.take k)).length (cellsP (hadP (prs.take k))) ∧ (∀ j, h.ownBlock = some j → w.heap.size ≤ j) ∧ Below w.heap.size w wr)
    (fun _ i _ => prs.length - (intOf i).toNat)
  case atStart => exact ⟨0, by omega, rfl, _, P2, own_new _ _ hpb, World.ownsRow_nil _ _ _ _, nil_own _, B2⟩
  case round =>
    obtain ⟨k, hk, rfl, v, PK, OK, RK, NK, BK⟩ := hrel
    have NKH := Hid.intro NK
    have RKH := Hid.intro RK
    clear NK RK P2 B2
    by_cases hlt : k < prs.length
    · have c := HC.out k hlt
      have TS := Hid.intro (take_snoc prs k hlt)
      have c1 : wr.cell? ⟨bb, off + k * 2, none⟩ = some (.int .i64 prs[k].1) := (BK.cell (cell_lt c.1)).trans c.1
      have c2 : wr.cell? ⟨bb, off + k * 2 + 1, none⟩ = some (.int .i64 prs[k].2) := (BK.cell (cell_lt c.2)).trans c.2
      have hold : bb < w.heap.size := cell_lt c.1
      generalize prs[k] = p at c c1 c2 TS
      obtain ⟨x, y⟩ := p
      simp only at c c1 c2
      have i1 : (0 : Int) ≤ (k : Int) := by omega
      have i2 : (k : Int) < (prs.length : Int) := by omega
      go_wp2_with fail
      refine wp_region_still_tail 10 (by kernel_rfl) (by kernel_rfl) ?_
      simp only [List.take_succ_cons, List.take_zero, List.drop_succ_cons, List.drop_zero]
      change wpStill _ _ wr.drew _ _ _
      iterate 10 still_step
      refine wpStill_nil ?_
      go_wp2_with fail
      have hbl := bitsP_length (prs.take k)
      have hhl := hadP_length (prs.take k)
      simp only [List.length_take] at hbl hhl
      have R3a := ownsRow_keep (w' := wr.drew) RKH.out (fun _ _ => rfl)
      have sep : ∀ j, u4.ownBlock = some j → ¬ penFoot pb v j := by
        intro j hj hf
        rcases hf with hf | hf
        · exact row_not_block RKH.out PK.here (by decide) (by rw [hj, hf])
        · exact rows_apart RKH.out PK.row (by decide) j hj hf
      have PKd : PenAt wr.drew pb v (bitsP (prs.take k)) := ⟨PK.bits, PK.here, PK.row⟩
      have BKd : Below w.heap.size w wr.drew := BK.drew
      refine (put_any pb x y v _ (by omega) wr.drew PKd).mono ?_
      rintro e w3 ⟨rfl, v3, P3, C3, K3⟩
      have B3 := BKd.trans ((OK.chg C3).below BKd.size fun _ h => h)
      have O3 := OK.next BKd.size K3
      have R3 := ownsRow_keep (w' := w3) R3a (fun j hj => C3.block j (World.ownsRow.lt R3a j hj).2 (sep j hj))
      rw [show putB x y = putB (x, y).1 (x, y).2 from rfl, ← bitsP_snoc, ← TS.out] at P3
      have d1 : w3.cell? ⟨bb, off + k * 2, none⟩ = some (.int .i64 x) := (B3.cell hold).trans c.1
      have d2 : w3.cell? ⟨bb, off + k * 2 + 1, none⟩ = some (.int .i64 y) := (B3.cell hold).trans c.2
      have R3H := Hid.intro R3
      clear R3 R3a RKH sep PKd BKd BK PK C3 K3 OK c c1 c2
      cases hF : isF x y with
      | false =>
        have e := hadP_no (prs.take k) (x, y) hF
        rw [← TS.out] at e
        have E := Hid.intro e
        clear e
        go_wp2
        go_roundw
        case rel => exact ⟨k + 1, by omega, by go_num, v3, P3, O3, by rw [E.out]; exact R3H.out, NKH.out, B3⟩
        case measure => simp [intOf]; omega
      | true =>
        have e := hadP_yes (prs.take k) (x, y) hF
        rw [← TS.out] at e
        have E := Hid.intro e
        clear e
        generalize hH : hadP (prs.take k) = Hk at E R3H hhl
        have HH := Hid.intro hH
        clear hH
        go_wp2_with (at_builtin; refine wpList_append_lies _ rfl _ _ 22 rfl 0 35 i0 (.agg #[.int .i64 0, .int .i64 0]) 2 16 Try.underlying22 hi0 hz0 hz1 hz2 rfl (by decide) u4 Hk.length (cellsP Hk) rfl (R3H.out.alloc _) ⟨w3.heap.size, 0, none⟩ 1 1 [.int .i64 x, .int .i64 y] rfl rfl (World.news_of_block (cs := #[.int .i64 x, .int .i64 y]) (t := 35) (fr := (0, 0)) (heap_alloc_new w3 _)) (by simp [Value.oneCell']) (by decide) (by unfold maxLen; omega) (by omega) (Nat.zero_le _) (w3.heap.size + 1) (by simp) ?_)
        intro g cp w4 hown hgrow hat hgl
        have C4 : Chg (fun j => u4.ownBlock = some j) w3 w4 := ((Chg.refl _ _).alloc _).grown hgrow (fun j hj _ => hj)
        have P4 := P3.kept C4 (fun j hf hj => by
          rcases hf with hf | hf
          · exact row_not_block R3H.out P3.here (by decide) (by rw [hj, hf])
          · exact rows_apart R3H.out P3.row (by decide) j hj hf)
        have B4 := B3.trans (C4.below B3.size (fun j hj => NKH.out j hj))
        have N4 : ∀ j, (Value.slice (some ⟨g, 0, none⟩) (Hk.length + 1) cp).ownBlock = some j → w.heap.size ≤ j := by
          intro j hj
          have e : g = j := by simpa [Value.ownBlock] using hj
          subst e
          rcases hat with hat | hat
          · exact NKH.out g hat
          · have := B3.size; omega
        have R4 : w4.ownsRow 0 35 2 (.slice (some ⟨g, 0, none⟩) (Hk.length + 1) cp) (Hk ++ [(x, y)]).length (cellsP (Hk ++ [(x, y)])) := by
          rw [cellsP_snoc]; simpa using hown
        have R4H := Hid.intro R4
        have N4H := Hid.intro N4
        clear hown hgrow hat R4 N4 C4 P3 B3 R3H NKH
        go_wp2
        go_roundw
        case rel => exact ⟨k + 1, by omega, by go_num, v3, P4, O3, by rw [E.out]; exact R4H.out, N4H.out, B4⟩
        case measure => simp [intOf]; omega
    · have hke : k = prs.length := by omega
      subst hke
      rw [List.take_length] at PK RKH
      have hbh := Hid.intro (bitsP_had prs)
      have hall := Hid.intro (hadP_all prs)
      have hbl := bitsP_length prs
      have hhl := hadP_length prs
      rw [hbh.out] at PK hbl
      generalize hadP prs = Hd at PK RKH hall hhl hbl
      have rb := Hid.intro (fun i hi => read_back Hd hall.out PK.bits i hi)
      go_wp2_with fail
      refine (bytes_any pb v _ (by omega) wr PK).mono ?_
      rintro e w3 ⟨g3, rfl, hg3, R3, C3⟩
      have P3 := PK.kept C3 (fun _ _ h => h)
      have B3 := BK.trans ((C3.below (Nat.le_refl _) (fun _ h => h.elim)).mono BK.size)
      have H3 := ownsRow_keep (w' := w3) RKH.out (fun j hj => C3.block j (World.ownsRow.lt RKH.out j hj).2 (fun h => h))
      have hp256 := Hid.intro (pack_byte _ PK.bits)
      have hpl := Hid.intro (pack_length (bitsP Hd))
      have hbs : (pack (bitsP Hd)).length ≤ 400 := by rw [hpl.out]; omega
      clear PK BK C3 RKH hg3 hbh
      go_wp2_with fail
      refine (look_any (some ⟨g3, 0, none⟩) _ (pack (bitsP Hd)) (by omega) hp256.out w3 R3.reads).mono ?_
      rintro e w4 ⟨eb, ge, rfl, hge, heb, E4, C4⟩
      have P4 := P3.kept C4 (fun _ _ h => h)
      have B4 := B3.trans ((C4.below (Nat.le_refl _) (fun _ h => h.elim)).mono B3.size)
      have H4 := ownsRow_keep (w' := w4) H3 (fun j hj => C4.block j (World.ownsRow.lt H3 j hj).2 (fun h => h))
      have hebw : w.heap.size ≤ eb := by have := B3.size; omega
      clear P3 B3 H3 C4 hge heb R3 hp256
      obtain ⟨ao, cp, hv, hform⟩ := ownsRow_form H4
      rw [hv] at H4 ⊢
      have H4H := Hid.intro H4
      clear hv H4
      generalize hbsE : pack (bitsP Hd) = bs at rb hpl hbs E4 ⊢
      have BSE := Hid.intro hbsE
      clear hbsE
      rcases hform with h0 | ⟨g, rfl⟩
      · obtain rfl : Hd = [] := List.eq_nil_of_length_eq_zero h0
        obtain rfl : bs = [] := BSE.out.symm
        clear rb hpl hall H4H hbl hhl hbs
        go_wp2_with fail
        refine wp_loop_rounds 1 ?_
        rw [rounds_succ]
        go_wp2_with fail
        refine (left_any eb ge [] 0 w4 E4).mono ?_
        rintro e w6 ⟨rfl, n6, rfl⟩
        have E6 := E4.drewN n6
        have P6 : PenAt (w4.drewN n6) pb v [] := ⟨P4.bits, P4.here, P4.row⟩
        have B6 : Below w.heap.size w (w4.drewN n6) := ⟨B4.os, B4.tape, B4.output, B4.size, B4.block⟩
        generalize w4.drewN n6 = w6 at E6 P6 B6 ⊢
        clear E4 P4 B4
        go_wp2_with fail
        refine (left_any eb ge [] 0 w6 E6).mono ?_
        rintro e w7 ⟨rfl, n7, rfl⟩
        have P7 : PenAt (w6.drewN n7) pb v [] := ⟨P6.bits, P6.here, P6.row⟩
        have B7 : Below w.heap.size w (w6.drewN n7) := ⟨B6.os, B6.tape, B6.output, B6.size, B6.block⟩
        generalize w6.drewN n7 = w7 at P7 B7 ⊢
        clear E6 P6 B6
        go_wp2_with fail
        refine (bytes_any pb v [] (by decide) w7 P7).mono ?_
        rintro e w8 ⟨g8, rfl, hg8, R8, C8⟩
        rw [pack_nil] at R8 ⊢
        have P8 := P7.kept C8 (fun _ _ h => h)
        have B8 := B7.trans ((C8.below (Nat.le_refl _) (fun _ h => h.elim)).mono B7.size)
        clear P7 B7 C8 R8 hg8
        go_wp2_with fail
        refine (len_any pb v [] w8 P8).mono ?_
        rintro e w9 ⟨rfl, rfl⟩
        go_wp2
        go_ret
        exact ⟨rfl, B8⟩
      · go_wp2_with fail
        go_loopw [7] (fun i wq => ∃ k : Nat, k ≤ Hd.length ∧ i = .int .i64 k ∧ EyeAt wq eb ge bs (bitsP (Hd.take k)).length ∧ PenAt wq pb v (bitsP Hd) ∧
            wq.ownsRow 0 35 2 (.slice (some ⟨g, 0, none⟩) Hd.length cp) Hd.length (cellsP Hd) ∧ Below w.heap.size w wq)
          (fun i _ => Hd.length - (intOf i).toNat)
        case atStart => exact ⟨0, by omega, rfl, E4, P4, H4H.out, B4⟩
        case round =>
          obtain ⟨k, hk, rfl, EK, PK, RK, BK⟩ := hrel
          clear E4 P4 H4H B4
          by_cases hlt : k < Hd.length
          · have cg := cellsP_get Hd k hlt
            have c1 : wr.cell? ⟨g, k * 2, none⟩ = some (.int .i64 Hd[k].1) := by rw [RK.cellAt _ (by omega)]; exact cg.1
            have c2 : wr.cell? ⟨g, k * 2 + 1, none⟩ = some (.int .i64 Hd[k].2) := by rw [RK.cellAt _ (by omega)]; exact cg.2
            have r := rb.out k hlt
            clear cg
            generalize Hd[k] = p at c1 c2 r
            obtain ⟨x, y⟩ := p
            simp only at c1 c2 r
            have r1 := Hid.intro r.1
            have r2 := Hid.intro r.2.1
            have r3 := Hid.intro r.2.2
            clear r
            have i1 : (0 : Int) ≤ (k : Int) := by omega
            have i2 : (k : Int) < (Hd.length : Int) := by omega
            go_wp2_with fail
            refine (get_any eb ge bs _ y wr EK).mono ?_
            rintro e w5 ⟨rfl, E5, C5⟩
            rw [r1.out, r2.out]
            rw [r3.out] at E5
            have P5 := PK.kept C5 (fun j hj e => eye_pen EK PK j hj e)
            have hgeb : ¬ g = eb := fun e => row_not_block RK EK.here (by decide) (by rw [← e]; rfl)
            have R5 := ownsRow_keep (w' := w5) RK (fun j hj => C5.block j (World.ownsRow.lt RK j hj).2 (fun e => by
              have : g = j := by simpa [Value.ownBlock] using hj
              omega))
            have B5 := BK.trans (C5.below BK.size (fun j e => by rw [e]; exact hebw))
            have c3 : w5.cell? ⟨g, k * 2, none⟩ = some (.int .i64 x) := cell_chg C5 c1 hgeb
            clear EK PK RK BK C5 c1 c2 r1 r2 r3
            have hxx : (x != x) = false := by simp
            go_wp2
            go_roundw
            case rel => exact ⟨k + 1, by omega, by go_num, E5, P5, R5, B5⟩
            case measure => simp [intOf]; omega
          · have hke : k = Hd.length := by omega
            subst hke
            rw [List.take_length] at EK
            have hlf : 8 * bs.length - (bitsP Hd).length < 8 ∧ (bitsP Hd).length ≤ 8 * bs.length := by have := hpl.out; omega
            have EKH := Hid.intro EK
            have hlf1 := hlf.1
            have hlf2 := hlf.2
            clear EK hlf RK
            go_wp2_with fail
            refine (left_any eb ge bs _ wr EKH.out).mono ?_
            rintro e w6 ⟨rfl, n6, rfl⟩
            have E6 := EKH.out.drewN n6
            have P6 : PenAt (wr.drewN n6) pb v (bitsP Hd) := ⟨PK.bits, PK.here, PK.row⟩
            have B6 : Below w.heap.size w (wr.drewN n6) := ⟨BK.os, BK.tape, BK.output, BK.size, BK.block⟩
            generalize wr.drewN n6 = w6 at E6 P6 B6 ⊢
            clear PK BK EKH
            generalize hLL : 8 * bs.length - (bitsP Hd).length = LL at hlf1 ⊢
            have LLH := Hid.intro hLL
            clear hLL
            have ht : decide ((LL : Int) < 8) = true := by simp; omega
            go_wp2_with fail
            refine (left_any eb ge bs _ w6 E6).mono ?_
            rintro e w7 ⟨rfl, n7, rfl⟩
            rw [LLH.out]
            have P7 : PenAt (w6.drewN n7) pb v (bitsP Hd) := ⟨P6.bits, P6.here, P6.row⟩
            have B7 : Below w.heap.size w (w6.drewN n7) := ⟨B6.os, B6.tape, B6.output, B6.size, B6.block⟩
            generalize w6.drewN n7 = w7 at P7 B7 ⊢
            clear E6 P6 B6
            go_wp2_with fail
            refine (bytes_any pb v _ (by omega) w7 P7).mono ?_
            rintro e w8 ⟨g8, rfl, hg8, R8, C8⟩
            rw [BSE.out] at R8 ⊢
            have P8 := P7.kept C8 (fun _ _ h => h)
            have B8 := B7.trans ((C8.below (Nat.le_refl _) (fun _ h => h.elim)).mono B7.size)
            clear P7 B7 C8 R8 hg8
            go_wp2_with fail
            refine (len_any pb v _ w8 P8).mono ?_
            rintro e w9 ⟨rfl, rfl⟩
            have hfin : ((LL : Int) == 8 * (bs.length : Int) - ((bitsP Hd).length : Int)) = true := by
              have := LLH.out
              simp; omega
            go_wp2
            go_ret
            exact ⟨by simp, B8⟩

theorem walk_zero (a : Option Addr) (cap : Nat) (w : World) :
    Calls Try.prog 5 #[.slice a 0 cap] w fun e w' => e = .returned (.bool true) ∧ Below w.heap.size w w' := by
  go_enter Try.func5, Try.ntmps5
  go_wp2_with (go_at_call 9; refine (alive_any _).mono ?_; rintro e w1 ⟨rfl, B1⟩)
  have P2 := pen_new w1
  have B2 := B1.alloc B1.size (.cells #[.slice none 0 0, .int .i64 0] 26)
  generalize w1.heap.size = pb at P2 ⊢
  generalize w1.alloc (.cells #[.slice none 0 0, .int .i64 0] 26) = w2 at P2 B2 ⊢
  clear B1
  refine wp_loop_rounds 1 ?_
  rw [rounds_succ]
  go_wp2_with fail
  refine (bytes_any pb (.slice none 0 0) [] (by decide) w2 P2).mono ?_
  rintro e w3 ⟨g3, rfl, hg3, R3, C3⟩
  rw [pack_nil] at R3 ⊢
  have P3 := P2.kept C3 (fun _ _ h => h)
  have B3 := B2.trans ((C3.below (Nat.le_refl _) (fun _ h => h.elim)).mono B2.size)
  clear P2 B2 C3 hg3
  go_wp2_with fail
  refine (look_any (some ⟨g3, 0, none⟩) 0 [] (by decide) (by decide) w3 R3.reads).mono ?_
  rintro e w4 ⟨eb, ge, rfl, hge, heb, E4, C4⟩
  have P4 := P3.kept C4 (fun _ _ h => h)
  have B4 := B3.trans ((C4.below (Nat.le_refl _) (fun _ h => h.elim)).mono B3.size)
  clear P3 B3 C4 hge heb R3
  go_wp2_with fail
  refine wp_loop_rounds 1 ?_
  rw [rounds_succ]
  go_wp2_with fail
  refine (left_any eb ge [] 0 w4 E4).mono ?_
  rintro e w6 ⟨rfl, n6, rfl⟩
  have E6 := E4.drewN n6
  have P6 : PenAt (w4.drewN n6) pb (.slice none 0 0) [] := ⟨P4.bits, P4.here, P4.row⟩
  have B6 : Below w.heap.size w (w4.drewN n6) := ⟨B4.os, B4.tape, B4.output, B4.size, B4.block⟩
  generalize w4.drewN n6 = w6 at E6 P6 B6 ⊢
  clear E4 P4 B4
  go_wp2_with fail
  refine (left_any eb ge [] 0 w6 E6).mono ?_
  rintro e w7 ⟨rfl, n7, rfl⟩
  have P7 : PenAt (w6.drewN n7) pb (.slice none 0 0) [] := ⟨P6.bits, P6.here, P6.row⟩
  have B7 : Below w.heap.size w (w6.drewN n7) := ⟨B6.os, B6.tape, B6.output, B6.size, B6.block⟩
  generalize w6.drewN n7 = w7 at P7 B7 ⊢
  clear E6 P6 B6
  go_wp2_with fail
  refine (bytes_any pb (.slice none 0 0) [] (by decide) w7 P7).mono ?_
  rintro e w8 ⟨g8, rfl, hg8, R8, C8⟩
  rw [pack_nil] at R8 ⊢
  have P8 := P7.kept C8 (fun _ _ h => h)
  have B8 := B7.trans ((C8.below (Nat.le_refl _) (fun _ h => h.elim)).mono B7.size)
  clear P7 B7 C8 R8 hg8
  go_wp2_with fail
  refine (len_any pb (.slice none 0 0) [] w8 P8).mono ?_
  rintro e w9 ⟨rfl, rfl⟩
  go_wp2
  go_ret
  exact ⟨rfl, B8⟩

theorem walk (a : Option Addr) (cap : Nat) (prs : List (Int × Int)) (w : World) (hlen : prs.length ≤ maxLen) (h : PairsIn w a prs) :
    Calls Try.prog 5 #[.slice a prs.length cap] w fun e w' => e = .returned (.bool true) ∧ Below w.heap.size w w' := by
  by_cases h100 : 100 < prs.length
  · exact walk_far a prs.length cap w hlen h100
  · by_cases h0 : prs.length = 0
    · rw [h0]; exact walk_zero a cap w
    · obtain ⟨b, off, rfl, hc⟩ := h (by omega)
      exact walk_pos b off cap prs w (by omega) (by omega) hc

set_option maxRecDepth 100000 in
theorem lifted (os : Os) (started : os.Started) (H : Type) (enc : TypeId × Value → H) :
    ReturnsInHanded {} Try.checked os 5 .any (Rows.bitsBackSpec.pre6 enc Try.prog Try.f5 Rows.bitsBackRow.domain false) (Rows.bitsBackSpec.post enc Try.prog Try.f5 false true false false) := by
  refine returnsInHanded_of_change (C := Try.checked) own started (by kernel_rfl) Try.func5
    (ChangeSpec.witness6 (enc := enc) (C := Try.checked) false ⟨#[], #[.slice none 0 0], []⟩ 8 (by kernel_rfl) (by kernel_rfl) (by kernel_rfl) (by kernel_rfl)) ?_
  intro W base args ds gs before hval0 hW hcnd _
  have hval : ∀ (j : Nat) t v, Try.f5.params[j]? = some t → args[j]? = some v → Value.okWide Try.prog W .any base t v := hval0
  have hW' := hW
  obtain ⟨p, q, hA0, hV, rfl, hfz, hnd⟩ := hW
  have hA : DataW.TrodAll enc Try.prog W 0 (fun _ => true) true Try.f5.params.toList args.toList ds p := hA0
  rw [Try.params5] at hA hval
  obtain ⟨v0, vs0, d0, ds0, p0, q0, hargs, rfl, rfl, h0, r0⟩ := trodAll_cons hA
  obtain ⟨rfl, rfl, rfl⟩ := trodAll_nil r0
  obtain rfl : args = #[v0] := by cases args; simp_all
  obtain ⟨rfl, rfl⟩ := trodVars_none hV
  obtain ⟨a0, len0, cap0, rfl⟩ := okWide_slice Try.underlying22 (hval 0 22 v0 rfl rfl)
  have k0 := h0
  have lt0 : ∀ x ∈ p0, x.block < W.heap.size := by obtain ⟨m, hm⟩ := k0; exact DataW.trod_lt m _ _ _ hm
  obtain ⟨hlen, prs, rfl, hprs⟩ : len0 ≤ maxLen ∧ ∃ prs : List (Int × Int), prs.length = len0 ∧ PairsIn W a0 prs := by
    obtain ⟨fuel, hf⟩ := h0
    exact pairs_in (by simpa [Value.cells] using hf)
  clear hA0 hval0
  refine (walk a0 cap0 prs W hlen hprs).mono fun e W' ⟨he, bel⟩ => ?_
  subst he
  exact ⟨_, rfl, _, _, _, [], _, [], hW', trodAll_mk1 (shut_bool Try.underlying4 _), (trodAll_cons_mk (Below.trod laidOut (by kernel_rfl) (of_decide_eq_true (by kernel_rfl)) k0 bel lt0) trodAll_mk0), rfl, bel.frame _, fun h => by cases h⟩

theorem over : Rows.bitsBackRow.holds Try.pinned (OpenSpec.ofChange Rows.bitsBackSpec) :=
  OpenClaim.holds_of_wide 5 Try.f5 rfl rfl rfl rfl rfl rfl rfl ⟨rfl, rfl, rfl, rfl, rfl⟩ rfl rfl rfl rfl rfl (by kernel_rfl) Try.func5 (by kernel_rfl)
    (of_decide_eq_true (by kernel_rfl)) (by unfold Func.isWrapper; first | (rw [if_pos (by decide +kernel)]; kernel_rfl) | (rw [if_neg (by decide +kernel)]; exact ⟨rfl, rfl⟩))
    (fun os started H enc _ => lifted os started H enc)

end Go.Proofs.Ytfmnnhpadpjegaa.LawBack

namespace Go.Proofs.Ytfmnnhpadpjegaa
theorem bitsBack_holds : Rows.BitsBackSaid := LawBack.over
#print axioms bitsBack_holds
end Go.Proofs.Ytfmnnhpadpjegaa
