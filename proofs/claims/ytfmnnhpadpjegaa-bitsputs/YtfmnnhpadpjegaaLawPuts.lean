/- BitsPuts: whatever pairs come in, it returns true: how many bits there are, and they as bytes, are the document's all along; no condition. -/
import Derived.Test.YtfmnnhpadpjegaaRefBytes
import Derived.Deep.RegionHeld3
import Derived.Deep.DrawnRows
namespace Go.Proofs.Ytfmnnhpadpjegaa.LawPuts
open Go.ChangeShapes Go.WideShapes Go.ChangeAt Go.RowKit
open Bt

theorem pairs_bd {H : Type} {enc : TypeId × Value → H} {W : World} {base : Nat} {spare : Nat → Bool} {held : Bool} {fuel : Nat} {ao : Option Addr} {len cap : Nat} {x : DataW H × List MemPlace}
    (h : DataW.trod enc Try.prog W base spare held fuel 22 [.slice ao len cap] = some x) :
    len ≤ maxLen ∧ ∃ prs : List (Int × Int), prs.length = len ∧ PairsIn W ao prs ∧ ∀ p ∈ prs, p.1 ≤ 9223372036854775807 := by
  rcases Deep.open_slice_pairs (e := 35) Try.underlying22 Try.underlying35 (by kernel_rfl) rfl rfl (by kernel_rfl) (by kernel_rfl) h with ⟨h0, _⟩ | ⟨a, l, c, m, n, V0, V1, D0, D1, P0, P1, h0, _, hl, hm, hmm, _, hx⟩
  · simp only [List.cons.injEq, Value.slice.injEq, and_true] at h0
    obtain ⟨rfl, rfl, rfl⟩ := h0
    exact ⟨Nat.zero_le _, [], rfl, fun h => absurd h (by simp), by simp⟩
  · simp only [List.cons.injEq, Value.slice.injEq, and_true] at h0
    obtain ⟨rfl, rfl, rfl⟩ := h0
    have hlm : len ≤ m := by rw [hmm]; split <;> omega
    have v0 : ∀ i, i < m → V0 i = .int .i64 (intOf (V0 i)) := by
      intro i hi
      obtain ⟨z, e, _⟩ := DataW.trod_int Try.underlying3 (hx i hi).2.2.1
      simp only [List.cons.injEq, and_true] at e
      rw [e]; rfl
    have v1 : ∀ i, i < m → V1 i = .int .i64 (intOf (V1 i)) := by
      intro i hi
      obtain ⟨z, e, _⟩ := DataW.trod_int Try.underlying3 (hx i hi).2.2.2
      simp only [List.cons.injEq, and_true] at e
      rw [e]; rfl
    refine ⟨by omega, (List.range len).map (fun i => (intOf (V0 i), intOf (V1 i))), by simp, ?_, ?_⟩
    rotate_left
    · intro p hp
      obtain ⟨i, hi, rfl⟩ := List.mem_map.1 hp
      have hi' := List.mem_range.1 hi
      obtain ⟨z, e, _, hw⟩ := DataW.trod_int Try.underlying3 (hx i (by omega)).2.2.1
      simp only [List.cons.injEq, and_true] at e
      have := bounds_i64 hw
      rw [e]; exact this.2
    intro h0
    simp only [List.length_map, List.length_range] at h0
    obtain ⟨b, off, spot⟩ := a
    have c0 := (hx 0 (by omega)).1
    have hs : spot = none := by simpa [Addr.add] using World.cell?_spot c0
    subst hs
    refine ⟨b, off, rfl, fun i hi => ?_⟩
    simp only [List.length_map, List.length_range] at hi
    have c1 := (hx i (by omega)).1
    have c2 := (hx i (by omega)).2.1
    rw [v0 i (by omega)] at c1
    rw [v1 i (by omega)] at c2
    rw [WideShapes.add_plain] at c1 c2
    simp only [List.getElem_map, List.getElem_range]
    exact ⟨c1, by rw [Nat.add_assoc]; exact c2⟩

theorem walk_far (a : Option Addr) (len cap : Nat) (w : World) (hlen : len ≤ maxLen) (h : 100 < len) :
    Calls Try.prog 3 #[.slice a len cap] w fun e w' => e = .returned (.bool true) ∧ Below w.heap.size w w' := by
  unfold maxLen at hlen
  go_enter Try.func3, Try.ntmps3
  go_wp2_with (go_at_call 9; refine (alive_any _).mono ?_; rintro e w1 ⟨rfl, B1⟩)
  go_ret
  exact ⟨rfl, B1⟩

attribute [local go_sem ↓] Go.wp_at_zero Go.wp_at_succ

set_option maxRecDepth 100000 in
set_option maxHeartbeats 2000000 in
theorem walk_pos (bb off cap : Nat) (prs : List (Int × Int)) (w : World) (h1 : 0 < prs.length) (h2 : prs.length ≤ 100) (hbd : ∀ p ∈ prs, p.1 ≤ 9223372036854775807)
    (hc : ∀ i, (hi : i < prs.length) → w.cell? ⟨bb, off + i * 2, none⟩ = some (.int .i64 prs[i].1) ∧ w.cell? ⟨bb, off + i * 2 + 1, none⟩ = some (.int .i64 prs[i].2)) :
    Calls Try.prog 3 #[.slice (some ⟨bb, off, none⟩) prs.length cap] w fun e w' => e = .returned (.bool true) ∧ Below w.heap.size w w' := by
  have HC := Hid.intro hc
  have HBD := Hid.intro hbd
  clear hc hbd
  obtain ⟨i0, hi0, hz0, hz1, hz2⟩ := info_parts info_int
  have hdec : decide ((100 : Int) < (prs.length : Int)) = false := by simp; omega
  go_enter Try.func3, Try.ntmps3
  go_wp2_with (go_at_call 9; refine (alive_any _).mono ?_; rintro e w1 ⟨rfl, B1⟩)
  have P2 := pen_new w1
  have B2 := B1.alloc B1.size (.cells #[.slice none 0 0, .int .i64 0] 26)
  have hpb := B1.size
  generalize hpbe : w1.heap.size = pb at P2 hpb ⊢
  generalize w1.alloc (.cells #[.slice none 0 0, .int .i64 0] 26) = w2 at P2 B2 ⊢
  clear B1 hpbe
  refine (put_nil 1 1 w2).mono ?_
  rintro e w3 ⟨rfl, rfl⟩
  go_wp2_with fail
  refine (len_nil w2).mono ?_
  rintro e w3 ⟨rfl, rfl⟩
  go_wp2_with fail
  refine (bytes_nil w2).mono ?_
  rintro e w3 ⟨rfl, rfl⟩
  go_wp2_with fail
  go_loopw [5, 6] (fun al i wr => ∃ k : Nat, k ≤ prs.length ∧ i = .int .i64 k ∧ ∃ v, PenAt wr pb v (bitsP (prs.take k)) ∧ Own w.heap.size pb v ∧
      wr.ownsRow 0 3 1 al (bitsP (prs.take k)).length ((bitsP (prs.take k)).map I) ∧ (∀ j, al.ownBlock = some j → w.heap.size ≤ j) ∧ Below w.heap.size w wr)
    (fun _ i _ => prs.length - (intOf i).toNat)
  case atStart => exact ⟨0, by omega, rfl, _, P2, own_new _ _ hpb, World.ownsRow_nil _ _ _ _, nil_own _, B2⟩
  case round =>
    obtain ⟨k, hk, rfl, v, PK, OK, RK, NK, BK⟩ := hrel
    have NKH := Hid.intro NK
    have RKH := Hid.intro RK
    clear NK RK P2 B2
    by_cases hlt : k < prs.length
    · have c := HC.out k hlt
      have hxb := HBD.out prs[k] (List.getElem_mem hlt)
      have TS := Hid.intro (take_snoc prs k hlt)
      have c1 : wr.cell? ⟨bb, off + k * 2, none⟩ = some (.int .i64 prs[k].1) := (BK.cell (cell_lt c.1)).trans c.1
      have c2 : wr.cell? ⟨bb, off + k * 2 + 1, none⟩ = some (.int .i64 prs[k].2) := (BK.cell (cell_lt c.2)).trans c.2
      have hold : bb < w.heap.size := cell_lt c.1
      generalize prs[k] = p at c c1 c2 TS hxb
      obtain ⟨x, y⟩ := p
      simp only at c c1 c2 hxb
      have i1 : (0 : Int) ≤ (k : Int) := by omega
      have i2 : (k : Int) < (prs.length : Int) := by omega
      have hbl := bitsP_length (prs.take k)
      simp only [List.length_take] at hbl
      have hpb32 := putB_length x y
      have hLL : bitsP (prs.take (k + 1)) = bitsP (prs.take k) ++ putB x y := by rw [TS.out, bitsP_snoc]
      have hLLl : (bitsP (prs.take k) ++ putB x y).length ≤ 3200 := by simp; omega
      generalize hLD : bitsP (prs.take k) ++ putB x y = LL at hLL hLLl
      have HLL := Hid.intro hLL
      have HLD := Hid.intro hLD
      clear hLL hLD TS
      obtain ⟨ao5, c5, hv5, hform⟩ := ownsRow_form RKH.out
      subst hv5
      cases hF : isF x y with
      | false =>
        have hpe : putB x y = [] := by simp [putB, hF]
        have HPE := Hid.intro hpe
        clear hpe
        go_wp2_with fail
        go_region_held3 (fun w' => w'.cell? ⟨bb, off + k * 2, none⟩ = some (.int .i64 x) ∧ w'.cell? ⟨bb, off + k * 2 + 1, none⟩ = some (.int .i64 y))
          (first | go_keep | exact ⟨((BK.drew.trans (B5.mono BK.drew.size)).cell hold).trans c.1, ((BK.drew.trans (B5.mono BK.drew.size)).cell hold).trans c.2⟩)
          ((go_at_call 13; refine (field_f x y hxb hF _).mono ?_; rintro e w5 ⟨v5, rfl, B5⟩))
        have B5w := BK.drew.trans (B5.mono BK.drew.size)
        have P5 : PenAt w5 pb v (bitsP (prs.take k)) := (show PenAt wr.drew pb v (bitsP (prs.take k)) from ⟨PK.bits, PK.here, PK.row⟩).kept (below_chg B5) (fun _ _ h => h)
        have A5 := ownsRow_keep (w' := w5) (show wr.drew.ownsRow _ _ _ _ _ _ from RKH.out) (fun j hj => B5.block j (World.ownsRow.lt RKH.out j hj).2)
        have d1 : w5.cell? ⟨bb, off + k * 2, none⟩ = some (.int .i64 x) := (B5w.cell hold).trans c.1
        have d2 : w5.cell? ⟨bb, off + k * 2 + 1, none⟩ = some (.int .i64 y) := (B5w.cell hold).trans c.2
        have A5H := Hid.intro A5
        clear A5 B5 BK PK RKH c1 c2
        go_wp2_with fail
        go_region_held3 (fun w' => w'.cell? ⟨bb, off + k * 2, none⟩ = some (.int .i64 x) ∧ w'.cell? ⟨bb, off + k * 2 + 1, none⟩ = some (.int .i64 y))
          (first | go_keep | exact ⟨((B5w.drew.trans ((OK.chg C6).below B5w.drew.size fun _ h => h)).cell hold).trans c.1, ((B5w.drew.trans ((OK.chg C6).below B5w.drew.size fun _ h => h)).cell hold).trans c.2⟩)
          ((go_at_call 10; refine (put_any pb x y v (bitsP (prs.take k)) (by omega) _ ?_).mono ?_; exact ⟨P5.bits, P5.here, P5.row⟩; rintro e w6 ⟨rfl, v6, P6, C6, K6⟩))
        have B6 := B5w.drew.trans ((OK.chg C6).below B5w.drew.size fun _ h => h)
        have O6 := OK.next B5w.drew.size K6
        have A6 := ownsRow_keep (w' := w6) (show w5.drew.ownsRow _ _ _ _ _ _ from A5H.out) (fun j hj => C6.block j (World.ownsRow.lt A5H.out j hj).2 (fun hf => by
          rcases hf with hf | hf
          · exact row_not_block A5H.out P5.here (by decide) (by rw [hj, hf])
          · exact rows_apart A5H.out P5.row (by decide) j hj hf))
        have hll : (bitsP (prs.take k)).length = LL.length := by rw [← HLD.out, HPE.out, List.append_nil]
        have A6H : Hid (w6.ownsRow 0 3 1 (.slice ao5 LL.length c5) LL.length (LL.map I)) := by
          have e : LL = bitsP (prs.take k) := by rw [← HLD.out, HPE.out, List.append_nil]
          show World.ownsRow _ _ _ _ _ _ _
          rw [e]; exact A6
        have N6H : Hid (∀ j, (Value.slice ao5 LL.length c5).ownBlock = some j → w.heap.size ≤ j) := by
          have := NKH.out
          rw [hll] at this
          exact this
        rw [HLD.out] at P6
        rw [hll]
        clear hll A6 A5H P5 d1 d2 C6 K6 OK B5w NKH
        go_wp2_with fail
        refine (len_any pb v6 LL w6 P6).mono ?_
        rintro e w7 ⟨rfl, rfl⟩
        go_wp2_with fail
        refine (bytes_any pb v6 LL (by omega) w6 P6).mono ?_
        rintro e w8 ⟨g8, rfl, hg8, R8, C8⟩
        have P8 := P6.kept C8 (fun _ _ h => h)
        have B8 := B6.trans ((C8.below (Nat.le_refl _) (fun _ h => h.elim)).mono B6.size)
        have A8 := ownsRow_keep (w' := w8) A6H.out (fun j hj => C8.block j (World.ownsRow.lt A6H.out j hj).2 (fun h => h))
        clear C8 hg8
        go_wp2_with fail
        refine (refBytes_any _ LL (by omega) P6.bits w8 A8).mono ?_
        rintro e w9 ⟨ao9, c9, rfl, Rd9, B9a⟩
        have R9 := R8.kept (below_chg B9a) (fun h => h)
        have P9 := P8.kept (below_chg B9a) (fun _ _ h => h)
        have A9 := ownsRow_keep (w' := w9) A8 (fun j hj => B9a.block j (World.ownsRow.lt A8 j hj).2)
        have B9 := B8.trans (B9a.mono B8.size)
        clear A8 P8 B8 R8 B9a P6 B6
        go_wp2_with fail
        refine (same_true (some ⟨g8, 0, none⟩) ao9 _ _ (pack LL) (by rw [pack_length]; omega) w9 R9.reads Rd9).mono ?_
        rintro e w10 ⟨rfl, n10, rfl⟩
        have P10 : PenAt (w9.drewN n10) pb v6 LL := ⟨P9.bits, P9.here, P9.row⟩
        have A10 := Hid.intro (ownsRow_keep (w' := w9.drewN n10) A9 (fun _ _ => rfl))
        have B10 : Below w.heap.size w (w9.drewN n10) := ⟨B9.os, B9.tape, B9.output, B9.size, B9.block⟩
        generalize w9.drewN n10 = wz at P10 A10 B10 ⊢
        clear A9 P9 B9 R9 Rd9
        go_wp2
        go_roundw
        case rel => exact ⟨k + 1, by omega, by go_num, v6, by rw [HLL.out]; exact P10, O6, by rw [HLL.out]; exact A10.out, N6H.out, B10⟩
        case measure => simp [intOf]; omega
      | true =>
        have hm1 : 0 < (putB x y).length := by
          have hb := isF_bounds hF
          simp only [putB, hF, if_true, fld_length]; omega
        go_wp2_with fail
        go_region_held3 (fun w' => w'.cell? ⟨bb, off + k * 2, none⟩ = some (.int .i64 x) ∧ w'.cell? ⟨bb, off + k * 2 + 1, none⟩ = some (.int .i64 y))
          (first | go_keep | exact ⟨((BK.drew.trans (B5.mono BK.drew.size)).cell hold).trans c.1, ((BK.drew.trans (B5.mono BK.drew.size)).cell hold).trans c.2⟩)
          ((go_at_call 13; refine (field_t x y hF _).mono ?_; rintro e w5 ⟨g5, rfl, hg5, R5, B5⟩))
        have B5w := BK.drew.trans (B5.mono BK.drew.size)
        have P5 : PenAt w5 pb v (bitsP (prs.take k)) := (show PenAt wr.drew pb v (bitsP (prs.take k)) from ⟨PK.bits, PK.here, PK.row⟩).kept (below_chg B5) (fun _ _ h => h)
        have A5 := ownsRow_keep (w' := w5) (show wr.drew.ownsRow _ _ _ _ _ _ from RKH.out) (fun j hj => B5.block j (World.ownsRow.lt RKH.out j hj).2)
        have d1 : w5.cell? ⟨bb, off + k * 2, none⟩ = some (.int .i64 x) := (B5w.cell hold).trans c.1
        have d2 : w5.cell? ⟨bb, off + k * 2 + 1, none⟩ = some (.int .i64 y) := (B5w.cell hold).trans c.2
        have A5H := Hid.intro A5
        have R5H := Hid.intro R5
        clear R5
        clear A5 B5 BK PK RKH c1 c2
        go_wp2_with fail
        go_region_held3 (fun w' => w'.cell? ⟨bb, off + k * 2, none⟩ = some (.int .i64 x) ∧ w'.cell? ⟨bb, off + k * 2 + 1, none⟩ = some (.int .i64 y))
          (first | go_keep | exact ⟨((B5w.drew.trans ((OK.chg C6).below B5w.drew.size fun _ h => h)).cell hold).trans c.1, ((B5w.drew.trans ((OK.chg C6).below B5w.drew.size fun _ h => h)).cell hold).trans c.2⟩)
          ((go_at_call 10; refine (put_any pb x y v (bitsP (prs.take k)) (by omega) _ ?_).mono ?_; exact ⟨P5.bits, P5.here, P5.row⟩; rintro e w6 ⟨rfl, v6, P6, C6, K6⟩))
        have B6 := B5w.drew.trans ((OK.chg C6).below B5w.drew.size fun _ h => h)
        have O6 := OK.next B5w.drew.size K6
        have A6 := ownsRow_keep (w' := w6) (show w5.drew.ownsRow _ _ _ _ _ _ from A5H.out) (fun j hj => C6.block j (World.ownsRow.lt A5H.out j hj).2 (fun hf => by
          rcases hf with hf | hf
          · exact row_not_block A5H.out P5.here (by decide) (by rw [hj, hf])
          · exact rows_apart A5H.out P5.row (by decide) j hj hf))
        have R6 := ownsRow_keep (w' := w6) (show w5.drew.ownsRow _ _ _ _ _ _ from R5H.out) (fun j hj => C6.block j (World.ownsRow.lt R5H.out j hj).2 (fun hf => by
          rcases hf with hf | hf
          · exact row_not_block R5H.out P5.here (by decide) (by rw [hj, hf])
          · exact rows_apart R5H.out P5.row (by decide) j hj hf))
        have news : ∀ j u, ((putB x y).map I)[j]? = some u → w6.cell? ((⟨g5, 0, none⟩ : Addr).add j) = some u := by
          intro j u hu
          have hj := (List.getElem?_eq_some_iff.1 hu).1
          simp only [List.length_map] at hj
          rw [WideShapes.add_plain, Nat.zero_add, R6.cellAt j (by omega)]; exact hu
        have one : ∀ u ∈ (putB x y).map I, u.oneCell' = true := by
          intro u hu
          obtain ⟨q, _, rfl⟩ := List.mem_map.1 hu
          rfl
        rw [HLD.out] at P6
        have NEWS := Hid.intro news
        have ONE := Hid.intro one
        have A6H := Hid.intro A6
        have hLLn : LL.length = (bitsP (prs.take k)).length + (putB x y).length := by rw [← HLD.out]; simp
        have HLLN := Hid.intro hLLn
        have NHK := Hid.intro NKH.out
        clear A6 A5H R5H R6 news one P5 d1 d2 C6 K6 OK B5w hg5 hLLn NKH
        go_wp2_with (at_builtin; refine wpList_append_lies _ rfl _ _ 28 rfl 0 3 i0 (.int .i64 0) 1 8 Try.underlying28 hi0 hz0 hz1 hz2 rfl (by decide) _ _ _ rfl A6H.out ⟨g5, 0, none⟩ (putB x y).length (putB x y).length ((putB x y).map I) rfl (by simp) NEWS.out ONE.out hm1 (by unfold maxLen; omega) (by omega) (Nat.zero_le _) w6.heap.size rfl ?_)
        intro ga cp wa hown hgrow hat hgl
        have Ca : Chg (fun j => (Value.slice ao5 (bitsP (prs.take k)).length c5).ownBlock = some j) w6 wa := (Chg.refl _ _).grown hgrow (fun j hj _ => hj)
        have Ba := B6.trans (Ca.below B6.size (fun j hj => NHK.out j hj))
        have Pa := P6.kept Ca (fun j hf hj => by
          rcases hf with hf | hf
          · exact row_not_block A6H.out P6.here (by decide) (by rw [hj, hf])
          · exact rows_apart A6H.out P6.row (by decide) j hj hf)
        have Na : ∀ j, (Value.slice (some ⟨ga, 0, none⟩) LL.length cp).ownBlock = some j → w.heap.size ≤ j := by
          intro j hj
          have e : ga = j := by simpa [Value.ownBlock] using hj
          subst e
          rcases hat with hat | hat
          · exact NHK.out ga hat
          · have := B6.size; omega
        have Aa : wa.ownsRow 0 3 1 (.slice (some ⟨ga, 0, none⟩) LL.length cp) LL.length (LL.map I) := by
          rw [← List.map_append, HLD.out, ← HLLN.out] at hown
          exact hown
        have AaH := Hid.intro Aa
        have NaH := Hid.intro Na
        rw [← HLLN.out]
        clear Aa Na hown hgrow hat Ca P6 B6 A6H NEWS ONE NHK
        go_wp2_with fail
        refine (len_any pb v6 LL wa Pa).mono ?_
        rintro e w7 ⟨rfl, rfl⟩
        go_wp2_with fail
        refine (bytes_any pb v6 LL (by omega) wa Pa).mono ?_
        rintro e w8 ⟨g8, rfl, hg8, R8, C8⟩
        have P8 := Pa.kept C8 (fun _ _ h => h)
        have B8 := Ba.trans ((C8.below (Nat.le_refl _) (fun _ h => h.elim)).mono Ba.size)
        have A8 := ownsRow_keep (w' := w8) AaH.out (fun j hj => C8.block j (World.ownsRow.lt AaH.out j hj).2 (fun h => h))
        clear C8 hg8
        go_wp2_with fail
        refine (refBytes_any _ LL (by omega) Pa.bits w8 A8).mono ?_
        rintro e w9 ⟨ao9, c9, rfl, Rd9, B9a⟩
        have R9 := R8.kept (below_chg B9a) (fun h => h)
        have P9 := P8.kept (below_chg B9a) (fun _ _ h => h)
        have A9 := ownsRow_keep (w' := w9) A8 (fun j hj => B9a.block j (World.ownsRow.lt A8 j hj).2)
        have B9 := B8.trans (B9a.mono B8.size)
        clear A8 P8 B8 R8 B9a Pa Ba
        go_wp2_with fail
        refine (same_true (some ⟨g8, 0, none⟩) ao9 _ _ (pack LL) (by rw [pack_length]; omega) w9 R9.reads Rd9).mono ?_
        rintro e w10 ⟨rfl, n10, rfl⟩
        have P10 : PenAt (w9.drewN n10) pb v6 LL := ⟨P9.bits, P9.here, P9.row⟩
        have A10 := Hid.intro (ownsRow_keep (w' := w9.drewN n10) A9 (fun _ _ => rfl))
        have B10 : Below w.heap.size w (w9.drewN n10) := ⟨B9.os, B9.tape, B9.output, B9.size, B9.block⟩
        generalize w9.drewN n10 = wz at P10 A10 B10 ⊢
        clear A9 P9 B9 R9 Rd9
        go_wp2
        go_roundw
        case rel => exact ⟨k + 1, by omega, by go_num, v6, by rw [HLL.out]; exact P10, O6, by rw [HLL.out]; exact A10.out, NaH.out, B10⟩
        case measure => simp [intOf]; omega
    · go_wp2
      go_ret
      exact ⟨rfl, BK⟩

theorem walk_zero (a : Option Addr) (cap : Nat) (w : World) :
    Calls Try.prog 3 #[.slice a 0 cap] w fun e w' => e = .returned (.bool true) ∧ Below w.heap.size w w' := by
  go_enter Try.func3, Try.ntmps3
  go_wp2_with (go_at_call 9; refine (alive_any _).mono ?_; rintro e w1 ⟨rfl, B1⟩)
  have B2 := B1.alloc B1.size (.cells #[.slice none 0 0, .int .i64 0] 26)
  generalize w1.heap.size = pb
  generalize w1.alloc (.cells #[.slice none 0 0, .int .i64 0] 26) = w2 at B2 ⊢
  clear B1
  refine (put_nil 1 1 w2).mono ?_
  rintro e w3 ⟨rfl, rfl⟩
  go_wp2_with fail
  refine (len_nil w2).mono ?_
  rintro e w3 ⟨rfl, rfl⟩
  go_wp2_with fail
  refine (bytes_nil w2).mono ?_
  rintro e w3 ⟨rfl, rfl⟩
  go_wp2_with fail
  refine wp_loop_rounds 1 ?_
  rw [rounds_succ]
  go_wp2
  go_ret
  exact ⟨rfl, B2⟩

theorem walk (a : Option Addr) (cap : Nat) (prs : List (Int × Int)) (w : World) (hlen : prs.length ≤ maxLen) (h : PairsIn w a prs) (hbd : ∀ p ∈ prs, p.1 ≤ 9223372036854775807) :
    Calls Try.prog 3 #[.slice a prs.length cap] w fun e w' => e = .returned (.bool true) ∧ Below w.heap.size w w' := by
  by_cases h100 : 100 < prs.length
  · exact walk_far a prs.length cap w hlen h100
  · by_cases h0 : prs.length = 0
    · rw [h0]; exact walk_zero a cap w
    · obtain ⟨b, off, rfl, hc⟩ := h (by omega)
      exact walk_pos b off cap prs w (by omega) (by omega) hbd hc

set_option maxRecDepth 100000 in
theorem lifted (os : Os) (started : os.Started) (H : Type) (enc : TypeId × Value → H) :
    ReturnsInHanded {} Try.checked os 3 .any (Rows.bitsPutsSpec.pre6 enc Try.prog Try.f3 Rows.bitsPutsRow.domain false) (Rows.bitsPutsSpec.post enc Try.prog Try.f3 false true false false) := by
  refine returnsInHanded_of_change (C := Try.checked) own started (by kernel_rfl) Try.func3
    (ChangeSpec.witness6 (enc := enc) (C := Try.checked) false ⟨#[], #[.slice none 0 0], []⟩ 8 (by kernel_rfl) (by kernel_rfl) (by kernel_rfl) (by kernel_rfl)) ?_
  intro W base args ds gs before hval0 hW hcnd _
  have hval : ∀ (j : Nat) t v, Try.f3.params[j]? = some t → args[j]? = some v → Value.okWide Try.prog W .any base t v := hval0
  have hW' := hW
  obtain ⟨p, q, hA0, hV, rfl, hfz, hnd⟩ := hW
  have hA : DataW.TrodAll enc Try.prog W 0 (fun _ => true) true Try.f3.params.toList args.toList ds p := hA0
  rw [Try.params3] at hA hval
  obtain ⟨v0, vs0, d0, ds0, p0, q0, hargs, rfl, rfl, h0, r0⟩ := trodAll_cons hA
  obtain ⟨rfl, rfl, rfl⟩ := trodAll_nil r0
  obtain rfl : args = #[v0] := by cases args; simp_all
  obtain ⟨rfl, rfl⟩ := trodVars_none hV
  obtain ⟨a0, len0, cap0, rfl⟩ := okWide_slice Try.underlying22 (hval 0 22 v0 rfl rfl)
  have k0 := h0
  have lt0 : ∀ x ∈ p0, x.block < W.heap.size := by obtain ⟨m, hm⟩ := k0; exact DataW.trod_lt m _ _ _ hm
  obtain ⟨hlen, prs, rfl, hprs, hbd⟩ : len0 ≤ maxLen ∧ ∃ prs : List (Int × Int), prs.length = len0 ∧ PairsIn W a0 prs ∧ ∀ p ∈ prs, p.1 ≤ 9223372036854775807 := by
    obtain ⟨fuel, hf⟩ := h0
    exact pairs_bd (by simpa [Value.cells] using hf)
  clear hA0 hval0
  refine (walk a0 cap0 prs W hlen hprs hbd).mono fun e W' ⟨he, bel⟩ => ?_
  subst he
  exact ⟨_, rfl, _, _, _, [], _, [], hW', trodAll_mk1 (shut_bool Try.underlying4 _), (trodAll_cons_mk (Below.trod laidOut (by kernel_rfl) (of_decide_eq_true (by kernel_rfl)) k0 bel lt0) trodAll_mk0), rfl, bel.frame _, fun h => by cases h⟩

theorem over : Rows.bitsPutsRow.holds Try.pinned (OpenSpec.ofChange Rows.bitsPutsSpec) :=
  OpenClaim.holds_of_wide 3 Try.f3 rfl rfl rfl rfl rfl rfl rfl ⟨rfl, rfl, rfl, rfl, rfl⟩ rfl rfl rfl rfl rfl (by kernel_rfl) Try.func3 (by kernel_rfl)
    (of_decide_eq_true (by kernel_rfl)) (by unfold Func.isWrapper; first | (rw [if_pos (by decide +kernel)]; kernel_rfl) | (rw [if_neg (by decide +kernel)]; exact ⟨rfl, rfl⟩))
    (fun os started H enc _ => lifted os started H enc)

end Go.Proofs.Ytfmnnhpadpjegaa.LawPuts

namespace Go.Proofs.Ytfmnnhpadpjegaa
theorem bitsPuts_holds : Rows.BitsPutsSaid := LawPuts.over
#print axioms bitsPuts_holds
end Go.Proofs.Ytfmnnhpadpjegaa

