/- Package edf: slices.Clone of a line, List. -/
import Derived.Test.YtgcpkploeobafabEdK8
import Derived.Lib.SliceRun
namespace Go.Proofs.Ytgcpkploeobafab
open Go.RowKit
open Bt

theorem empty_wait (w : World) : (w.alloc (.cells #[] 46)).ownsRow 0 46 8 (.slice (some ⟨w.heap.size, 0, none⟩) 0 0) 0 [] :=
  ⟨rfl, .inr ⟨w.heap.size, 0, #[], rfl, Nat.zero_le _, heap_alloc_new _ _, Nat.le_refl _, Nat.zero_le _, rfl, rfl⟩⟩

theorem wclone_nil (w : World) :
    Calls Try.prog 13 #[.slice none 0 0] w fun e w' => e = .returned (.slice none 0 0) ∧ Below w.heap.size w w' := by
  have en := fun (w : World) => Lib.run_eql_slice_nil (P := Try.prog) w 40 46 none 0 0 0 0 Try.underlying40
  go_enter Try.func13, Try.ntmps13
  go_wp2
  go_ret
  exact ⟨rfl, Below.refl _ _⟩

theorem wclone_some (g c : Nat) (l : List It) (hl : l.length ≤ 100) (w : World) (own : w.ownsRow 0 46 8 (.slice (some ⟨g, 0, none⟩) l.length c) l.length (wcells l)) :
    Calls Try.prog 13 #[.slice (some ⟨g, 0, none⟩) l.length c] w fun e w' => ∃ v, e = .returned v ∧ w'.ownsRow 0 46 8 v l.length (wcells l) ∧ (∀ k, v.ownBlock = some k → w.heap.size ≤ k) ∧ Below w.heap.size w w' := by
  have BA := (Below.refl _ w).alloc (Nat.le_refl _) (.cells #[] 46)
  have HB := Hid.intro BA
  have ER := Hid.intro (empty_wait w)
  have en := fun (w : World) => Lib.run_eql_slice_nil (P := Try.prog) w 40 46 (some ⟨g, 0, none⟩) l.length c 0 0 Try.underlying40
  have NW := Hid.intro (World.ownsRow.cells (ownsRow_keep own fun k hk => BA.block k (World.ownsRow.lt own k hk).2) (g := g) rfl)
  have LN := Hid.intro (wcells_length l)
  have ONE := Hid.intro (wcells_onecell l)
  obtain ⟨iF, hiF, hzF0, hzF1, hzF2⟩ := info_parts info_wait
  clear BA own
  generalize wcells l = ns at *
  generalize l.length = L at *
  go_enter Try.func13, Try.ntmps13
  go_wp2_with (at_builtin; refine wpList_append_own_at _ rfl _ _ 40 rfl 0 46 iF (.agg #[.int .i64 0, .int .i64 0, .int .i64 0, .int .i64 0, .int .i64 0, .int .i64 0, .int .i64 0, .int .i64 0]) 8 64 Try.underlying40 hiF hzF0 hzF1 hzF2 rfl (by decide) (.slice (some ⟨w.heap.size, 0, none⟩) 0 0) 0 [] rfl ER.out ⟨g, 0, none⟩ L c ns rfl LN.out NW.out ONE.out (by unfold maxLen; omega) (by omega) (Nat.zero_le _) ?_)
  intro v1 w1 hown hgrow hnil hat
  obtain ⟨B1, N1⟩ := grownJ hgrow (by rw [World.size_alloc]; exact hat) HB.out (Nat.le_refl _) (fun k hk => by
    have e : w.heap.size = k := by simpa [Value.ownBlock] using hk
    omega)
  obtain ⟨a1, cc, rfl, _⟩ := ownsRow_form hown
  have H1 := Hid.intro hown
  have H2 := Hid.intro N1
  have H3 := Hid.intro B1
  clear hown hgrow hnil hat N1 B1
  go_wp2
  go_ret
  exact ⟨_, rfl, H1.out, H2.out, H3.out⟩

theorem wclone_any (v : Value) (l : List It) (hl : l.length ≤ 100) (w : World) (own : w.ownsRow 0 46 8 v l.length (wcells l)) :
    Calls Try.prog 13 #[v] w fun e w' => ∃ v, e = .returned v ∧ w'.ownsRow 0 46 8 v l.length (wcells l) ∧ (∀ k, v.ownBlock = some k → w.heap.size ≤ k) ∧ Below w.heap.size w w' := by
  rcases own.2 with ⟨hv, h0⟩ | ⟨g, cap, cur, hv, _⟩
  · subst hv
    refine (wclone_nil w).mono ?_
    rintro e w' ⟨rfl, B⟩
    have e : l = [] := List.eq_nil_of_length_eq_zero h0
    subst e
    exact ⟨_, rfl, World.ownsRow_nil _ _ _ _, fun k hk => by simp [Value.ownBlock] at hk, B⟩
  · subst hv
    exact wclone_some g cap l hl w own

set_option maxRecDepth 100000 in
set_option maxHeartbeats 4000000 in
theorem elist_any (b : Nat) (F : Nat → Prop) (x : List Jb) (n : Nat) (w : World) (hc : Que F w b x n) :
    Calls Try.prog 7 #[.pointer (some ⟨b, 0, none⟩)] w fun e w' => ∃ v, e = .returned v ∧ JsAt (fun k => w.heap.size ≤ k ∧ k < w'.heap.size) w' v x ∧ Below w.heap.size w w' := by
  obtain ⟨h, m, came, q, _⟩ := hc
  obtain ⟨v, hv⟩ := q.ln
  have c0 := hv.cell
  have ml := q.len
  have few := q.ok.few
  have m40 : m ≤ 40 := by omega
  have CL := Hid.intro (wclone_any v _ (by rw [mapr_length]; omega) w hv.own)
  rw [mapr_length] at CL
  have RP := Hid.intro q.rep
  have HP := Hid.intro q.heap
  clear q ml few hv
  go_enter Try.func7, Try.ntmps7
  go_wp2_with fail
  refine CL.out.mono ?_
  rintro e w1 ⟨v1, rfl, O1, N1, B1⟩
  obtain ⟨a1, cc, rfl, _⟩ := ownsRow_form O1
  have BA := (Below.refl _ w1).alloc (Nat.le_refl _) (.cells #[.slice a1 m cc] 40)
  have B2 := Hid.intro (B1.trans (BA.mono B1.size))
  have sz1 := B1.size
  have L2 : Hid (Ln w1.heap.size 40 [] (fun k => k = w1.heap.size ∨ (Value.slice a1 m cc).ownBlock = some k) (w1.alloc (.cells #[.slice a1 m cc] 40)) h m) := by
    refine ⟨.slice a1 m cc, heap_alloc_new w1 _, ?_, .inl rfl, fun k hk => ⟨.inr hk, ?_⟩, fun k hk => ?_⟩
    · rw [mapr_length]
      exact O1.alloc _
    · have := (World.ownsRow.lt O1 k hk).2; omega
    · rw [World.size_alloc]
      rcases hk with z | z
      · omega
      · have := (World.ownsRow.lt O1 k z).2; omega
  have SG : Hid (∀ k, (k = w1.heap.size ∨ (Value.slice a1 m cc).ownBlock = some k) → w.heap.size ≤ k ∧ k < w1.heap.size + 1) := fun k hk => by
    rcases hk with z | z
    · omega
    · have := N1 k z
      have := (World.ownsRow.lt O1 k z).2
      omega
  have SZ : Hid ((w1.alloc (.cells #[.slice a1 m cc] 40)).heap.size = w1.heap.size + 1) := by rw [Hid, World.size_alloc]
  clear CL O1 N1 B1 BA c0
  go_wp2_with fail
  generalize hw2 : w1.alloc (.cells #[.slice a1 m cc] 40) = w2 at *
  generalize hbr : w1.heap.size = br at *
  generalize hSS : (fun k => k = br ∨ (Value.slice a1 m cc).ownBlock = some k) = SS at *
  have SH := Hid.intro (fun k (hk : SS k) => SG.out k (by rw [← hSS] at hk; exact hk))
  clear hw2 hbr hSS SG sz1
  go_loopw [3] (fun dv ws => ∃ (k m : Nat) (D y : List Jb) (h : Nat → It), k + m ≤ 40 ∧ Mk w2.heap.size ws dv k D ∧ Ln br 40 [] SS ws h m ∧ HeapF ltI 0 h m ∧ Rep ((List.range m).map h) y ∧ Chg SS w2 ws ∧ D ++ y = x) (fun dv _ => 40 - lenV dv)
  case atStart => exact ⟨0, m, [], x, h, by omega, mk_start _ _, L2.out, HP.out, RP.out, Chg.refl _ _, rfl⟩
  case round =>
    clear L2 HP RP
    obtain ⟨k, m, D, y, h, hkm, hM, hL, hH, hR, hC, e1⟩ := hrel
    have MH := Hid.intro hM
    have LH := Hid.intro hL
    have HH := Hid.intro hH
    have RH := Hid.intro hR
    have CH := Hid.intro hC
    have E1 := Hid.intro e1
    have ml := hR.len
    rw [mapr_length] at ml
    clear hM hH hR hC e1
    obtain ⟨da, dc, rfl⟩ := MH.out.form
    obtain ⟨v, hv⟩ := hL
    have c0 := hv.cell
    obtain ⟨ao, c, rfl, _⟩ := hv.form
    rw [mapr_length] at c0
    have lt2 : Hid (∀ k, SS k → k < w2.heap.size) := fun k hk => by have := (SH.out k hk).2; have := SZ.out; omega
    cases m with
    | zero =>
      have y0 : y = [] := List.eq_nil_of_length_eq_zero ml.symm
      subst y0
      have FIN : Hid (JsAt (fun k => w.heap.size ≤ k ∧ k < wr.heap.size) wr (.slice da k dc) x ∧ Below w.heap.size w wr) := by
        have a1 := E1.out
        rw [List.append_nil] at a1
        rw [Hid, ← a1]
        have s2 := B2.out.size
        refine ⟨(MH.out.answer lt2.out).mono (fun k hk => ⟨by omega, hk.2.1⟩), B2.out.trans (CH.out.below s2 (fun k hk => (SH.out k hk).1))⟩
      clear hv ml
      go_wp2
      go_ret
      exact ⟨_, rfl, FIN.out⟩
    | succ n =>
      obtain ⟨y', ey, r1, _⟩ := RH.out.root HH.out
      have NX := Hid.intro (enext_any br _ _ SS h n (by omega) wr LH.out HH.out)
      have R1 := Hid.intro r1
      have EY := Hid.intro ey
      have n0 : (0 : Int) < ((n + 1 : Nat) : Int) := by omega
      have n1 : (0 : Int) < (n : Int) + 1 := by omega
      generalize (h 0).job = zj at *
      obtain ⟨z0, z1, z2, z3, z4, z5, z6⟩ := zj
      clear hv ml r1 ey
      go_wp2_with fail
      refine NX.out.mono ?_
      rintro e w3 ⟨rfl, h9, L9, H9, P9, C9⟩
      have R9 := R1.out _ P9
      have C3 := CH.out.trans C9 (fun _ z _ => z)
      have M3 := (MH.out.kept C9 lt2.out)
      have BN := (Below.refl _ w3).alloc (Nat.le_refl _) (.cells #[.int .i64 z0, .int .i64 z1, .int .i64 z2, .int .i64 z3, .int .i64 z4, .int .i64 z5, .int .i64 z6] 31)
      have GR := Hid.intro ((js_block (l := [⟨z0, z1, z2, z3, z4, z5, z6⟩]) (heap_alloc_new w3 (.cells #[.int .i64 z0, .int .i64 z1, .int .i64 z2, .int .i64 z3, .int .i64 z4, .int .i64 z5, .int .i64 z6] 31)) (c := 1) (by simp)).mono (R' := fun _ => True) (fun _ _ => trivial))
      have M4 := M3.below BN
      have ON := Hid.intro M4.own
      have HLN := Hid.intro M4.len
      have C4 := C3.trans ((below_chg BN).mono (T := fun _ => False) (fun _ f _ => f)) (fun _ f _ => f.elim)
      have FIN := Hid.intro (fun (v' : Value) (wb : World) hown hgrow hat => (show Mk w2.heap.size wb v' (k + 1) (D ++ [⟨z0, z1, z2, z3, z4, z5, z6⟩]) ∧ Chg SS w2 wb ∧ Ln br 40 [] SS wb h9 n from by
        have q := M4.push (v' := v') (wb := wb) (j := ⟨z0, z1, z2, z3, z4, z5, z6⟩) C4 rfl hown hgrow hat
        obtain ⟨v9, hv9⟩ := L9
        refine ⟨q.1, q.2, v9, (hv9.below BN).kept (T := fun t => (Value.slice da k dc).ownBlock = some t) ⟨hgrow.os, hgrow.tape, hgrow.output, hgrow.size, fun t ht hn => hgrow.block t ht (fun z => hn z.symm)⟩ (fun t ht z => ?_)⟩
        have := lt2.out t ht
        have := M4.new t z
        omega))
      have HQ2 := Hid.intro (show D ++ [⟨z0, z1, z2, z3, z4, z5, z6⟩] ++ y' = x from by
        have a1 := E1.out
        rw [EY.out] at a1
        rw [List.append_assoc]
        exact a1)
      have H9H := Hid.intro H9
      have R9H := Hid.intro R9
      clear NX L9 H9 P9 C9 R9 C3 M3 M4 C4 BN E1 EY R1 RH HH LH CH MH c0
      go_wp2_with (refine append_jobs (by rfl) _ _ (by rfl) (.slice da k dc) k D HLN.out (by rfl) ON.out (fun _ => True) (some ⟨w3.heap.size, 0, none⟩) 1 1 [⟨z0, z1, z2, z3, z4, z5, z6⟩] rfl (by rfl) GR.out (fun h => by cases h) (by omega) ?_; intro v' wb hown hgrow hat; have FN := Hid.intro (FIN.out v' wb hown hgrow (by simpa using hat)); obtain ⟨ao', cc', hv', _⟩ := ownsRow_form hown; subst hv'; clear hown hgrow hat)
      refine ⟨⟨k + 1, n, _, y', h9, by omega, FN.out.1, FN.out.2.2, H9H.out, R9H.out, FN.out.2.1, HQ2.out⟩, ?_⟩
      simp [lenV]; omega

end Go.Proofs.Ytgcpkploeobafab
