/- Package panel: slices.Clone, List. -/
import Derived.Test.YtbeeigfcchjdlaaPnK3
import Derived.Test.YtbeeigfcchjdlaaPnSort
import Derived.Lib.SliceRun
namespace Go.Proofs.Ytbeeigfcchjdlaa
open Go.RowKit Go.Shelf
open Pn

theorem pclone_none (w : World) :
    Calls Try.prog 32 #[.slice none 0 0] w fun e w' => e = .returned (.slice none 0 0) ∧ w = w' := by
  have en := fun (w : World) => Lib.run_eql_slice_nil (P := Try.prog) w 45 48 none 0 0 0 0 Try.underlying45
  go_enter Try.func32, Try.ntmps32
  go_wp2
  go_ret
  exact ⟨rfl, rfl⟩

theorem pclone_some (g c : Nat) (L : List Al) (hl : L.length ≤ 100) (w : World) (own : w.ownsRow 0 48 5 (.slice (some ⟨g, 0, none⟩) L.length c) L.length (acells L)) :
    Calls Try.prog 32 #[.slice (some ⟨g, 0, none⟩) L.length c] w fun e w' => ∃ v', e = .returned v' ∧ NewR 48 5 w.heap.size w L.length (acells L) w' v' := by
  have SV : Hid (SrcV (w.alloc (.cells #[] 48)) 5 (.slice (some ⟨g, 0, none⟩) L.length c) L.length (acells L)) := src_own (ownsRow_keep own fun k hk => alloc_keepR (World.ownsRow.lt own k hk).2)
  have EL := Hid.intro elem_sh
  have ON := Hid.intro (acells_onecell L)
  have en := fun (w : World) => Lib.run_eql_slice_nil (P := Try.prog) w 45 48 (some ⟨g, 0, none⟩) L.length c 0 0 Try.underlying45
  clear own
  generalize acells L = xs at *
  generalize L.length = n at *
  go_enter Try.func32, Try.ntmps32
  go_wp2_with (at_builtin; refine append_row (by rfl) _ _ EL.out (by rfl) (.slice (some ⟨w.heap.size, 0, none⟩) 0 0) 0 [] (by rfl) (own_emptyR (heap_alloc_new w _)) (.slice (some ⟨g, 0, none⟩) n c) n xs (by rfl) SV.out ON.out (by omega) ?_; intro va wa hown hgrow hat; have QF := apF (H := w.heap.size) (w0 := w) (heap_alloc_new w _) (Nat.le_refl _) (bel_allocR (Below.refl _ w) (Nat.le_refl _) _) (Nat.le_refl _) hown hgrow hat; have own2 := QF.own; obtain ⟨oa, oc, e, _⟩ := ownsRow_form own2; subst e; clear hown hgrow hat own2)
  go_ret
  exact ⟨_, rfl, QF.own, QF.below, QF.ge⟩

theorem pclone_all (v : Value) (L : List Al) (hl : L.length ≤ 100) (w : World) (own : w.ownsRow 0 48 5 v L.length (acells L)) :
    Calls Try.prog 32 #[v] w fun e w' => ∃ v', e = .returned v' ∧ NewR 48 5 w.heap.size w L.length (acells L) w' v' := by
  rcases own.2 with ⟨hv, h0⟩ | ⟨g, c, cur, hv, _⟩
  · subst hv
    have e : L = [] := List.eq_nil_of_length_eq_zero h0
    subst e
    refine (pclone_none w).mono ?_
    rintro e w' ⟨rfl, rfl⟩
    exact ⟨_, rfl, own_noneR _ _ _, Below.refl _ _, fun k hk => by cases hk⟩
  · subst hv
    exact pclone_some g c L hl w own

/-- The sort over whatever new row. -/
theorem psort_new (v : Value) (L : List Al) (hl : L.length ≤ 40) (hn : (L.map keyA).Nodup) (w0 w : World) (h : NewR 48 5 w0.heap.size w0 L.length (acells L) w v) :
    Calls Try.prog 33 #[v, .func (.func 34) #[] #[]] w fun e w' => e = .returned (.tuple #[]) ∧ NewR 48 5 w0.heap.size w0 L.length (acells (sortA L)) w' v := by
  rcases h.own.2 with ⟨hv, h0⟩ | ⟨g, c, cur, hv, _⟩
  · subst hv
    have e : L = [] := List.eq_nil_of_length_eq_zero h0
    subst e
    refine (psort_none _ _ rfl w).mono ?_
    rintro e w' ⟨rfl, rfl⟩
    exact ⟨rfl, h⟩
  · subst hv
    refine (psort_any g c L hl hn w h.own).mono ?_
    rintro e w' ⟨rfl, o, C⟩
    have hg := h.ge g rfl
    refine ⟨rfl, o, ?_, h.ge⟩
    have s := C.size
    have s1 := h.below.size
    refine ⟨C.os.trans h.below.os, C.tape.trans h.below.tape, C.output.trans h.below.output, Nat.le_trans s1 s, fun k hk => (C.block k (by omega) (fun q => by omega)).trans (h.below.block k hk)⟩

theorem plist_nil (w : World) :
    Calls Try.prog 16 #[.pointer none] w fun e w' => e = .returned (.slice none 0 0) ∧ w = w' := by
  go_enter Try.func16, Try.ntmps16
  go_wp2
  go_ret
  exact ⟨rfl, rfl⟩

set_option maxRecDepth 100000 in
set_option maxHeartbeats 1000000 in
theorem plist_any (b : Nat) (S : Nat → Prop) (L : List Al) (u : Int) (w : World) (h : PK b L u S w) :
    Calls Try.prog 16 #[.pointer (some ⟨b, 0, none⟩)] w fun e w' => ∃ v', e = .returned v' ∧ NewR 42 5 w.heap.size w L.length (acells (sortA L)) w' v' := by
  obtain ⟨v, h⟩ := h
  have hf := h.ok.few
  have CH := Hid.intro (pclone_all v L (by omega) w h.own)
  have SH := Hid.intro (fun (v1 : Value) (w1 : World) (hN : NewR 48 5 w.heap.size w L.length (acells L) w1 v1) => psort_new v1 L hf h.ok.once w w1 hN)
  have c0 := h.cells.1
  have el := sortA_length L
  clear h
  generalize sortA L = M at *
  rw [← el] at hf CH SH ⊢
  clear el
  have EL := Hid.intro elem_al
  go_enter Try.func16, Try.ntmps16
  go_wp2_with fail
  refine CH.out.mono ?_
  rintro e w2 ⟨v1, rfl, hN1⟩
  have S2 := Hid.intro (SH.out v1 w2 hN1)
  clear CH SH hN1 c0
  go_wp2_with fail
  refine S2.out.mono ?_
  rintro e w3 ⟨rfl, hN⟩
  have NH := Hid.intro hN
  obtain ⟨ao, c, rfl, hz⟩ := ownsRow_form hN.own
  have HZ := Hid.intro hz
  have HA := Hid.intro (fun (W : World) (hW : Below w3.heap.size w3 W) t (ht : t < M.length) (g : Nat) (e : ao = some ⟨g, 0, none⟩) => (show AlAt W g (t * 5) M[t] from by
    subst e
    exact al_at (ownsRow_keep hN.own fun k hk => hW.block k (World.ownsRow.lt hN.own k hk).2) ht))
  obtain ⟨n, hn⟩ : ∃ n, n = M.length := ⟨_, rfl⟩
  have HM := Hid.intro hn
  rw [← hn] at hf NH ⊢
  clear S2 hN hz hn
  go_wp2_with fail
  go_loopw [4, 18] (fun ov iv ws => ∃ t : Nat, t ≤ n ∧ iv = .int .i64 t ∧ NewR 42 5 w3.heap.size w3 t (acells (M.take t)) ws ov) (fun _ iv _ => n - (intOf iv).toNat)
  case atStart => exact ⟨0, by omega, rfl, own_noneR _ _ _, Below.refl _ _, (fun k hk => by cases hk)⟩
  case round =>
    obtain ⟨t, ht, rfl, hR⟩ := hrel
    have RH := Hid.intro hR
    by_cases hlt : t < n
    · have hlt' : t < M.length := by rw [← HM.out]; exact hlt
      obtain ⟨g, hg⟩ := HZ.out.resolve_left (by have := HM.out; omega)
      have hx := HA.out wr hR.below t hlt' g hg
      have NX : Hid (acells (M.take (t + 1)) = acells (M.take t) ++ acells [M[t]]) := by
        rw [Hid, List.take_succ_eq_append_getElem hlt', acells_append]
      have t0 : (0 : Int) ≤ (t : Int) := by omega
      have t1 : (t : Int) < (n : Int) := by omega
      subst hg
      clear hR
      generalize M[t] = x at *
      obtain ⟨x0, x1, x2, x3, x4⟩ := x
      obtain ⟨d0, d1, d2, d3, d4⟩ := hx
      simp only at d0 d1 d2 d3 d4
      have N1 := Hid.intro (heap_alloc_new (wr.alloc (.cells #[.int .i64 x0, .int .i64 x1, .int .i64 x2, .bool x3, .bool x4] 48)) (.cells #[.int .i64 x0, .int .i64 x1, .int .i64 x2, .bool x3, .bool x4] 42))
      have B2 := Hid.intro (bel_allocR (bel_allocR RH.out.below (Nat.le_refl _) (.cells #[.int .i64 x0, .int .i64 x1, .int .i64 x2, .bool x3, .bool x4] 48)) (Nat.le_refl _) (.cells #[.int .i64 x0, .int .i64 x1, .int .i64 x2, .bool x3, .bool x4] 42))
      have OW := Hid.intro (ownsRow_keep RH.out.own fun k hk => (alloc_keepR (o := .cells #[.int .i64 x0, .int .i64 x1, .int .i64 x2, .bool x3, .bool x4] 42) (by have := (World.ownsRow.lt RH.out.own k hk).2; simp; omega)).trans (alloc_keepR (o := .cells #[.int .i64 x0, .int .i64 x1, .int .i64 x2, .bool x3, .bool x4] 48) (World.ownsRow.lt RH.out.own k hk).2))
      rw [World.size_alloc] at N1
      generalize acells (M.take t) = xs at *
      go_wp2_with (at_builtin; refine append_row (by rfl) _ _ EL.out (by rfl) _ t xs (by rfl) OW.out (.slice (some ⟨wr.heap.size + 1, 0, none⟩) 1 1) 1 (acells [⟨x0, x1, x2, x3, x4⟩]) (by rfl) (src_block N1.out rfl) (acells_onecell _) (by omega) ?_; intro v' wb hown hgrow hat; have QG := Hid.intro (newR RH.out.ge B2.out (Nat.le_refl _) hown hgrow hat); clear hown hgrow hat)
      go_roundw
      case rel =>
        refine ⟨t + 1, by omega, by go_num, ?_⟩
        rw [NX.out]
        exact QG.out
      case measure => simp [intOf]; omega
    · obtain rfl : t = n := by omega
      have t1 : ¬ (t : Int) < (t : Int) := by omega
      have TA : Hid (M.take t = M) := by rw [Hid, HM.out]; exact List.take_of_length_le (Nat.le_refl _)
      clear hR
      go_wp2
      go_ret
      have q := RH.out
      rw [TA.out] at q
      have hm := HM.out
      rw [hm] at q
      exact ⟨_, rfl, q.own, NH.out.below.trans (q.below.mono NH.out.below.size), fun k hk => Nat.le_trans NH.out.below.size (q.ge k hk)⟩

end Go.Proofs.Ytbeeigfcchjdlaa
