/- Package edf: Work, Late. -/
import Derived.Test.YtgcpkploeobafaaEdK6
import Derived.Test.YtgcpkploeobafaaEdMk
import Derived.Test.YtgcpkploeobafaaEdStep
namespace Go.Proofs.Ytgcpkploeobafaa
open Go.RowKit
open Bt

/-- What is left of one is written. -/
theorem owns_left {w : World} {g c n : Nat} {l : List It} (h : w.ownsRow 0 56 8 (.slice (some ⟨g, 0, none⟩) n c) n (wcells l)) (h0 : 0 < l.length) (z : Int) : (w.setCell ⟨g, 6, none⟩ (.int .i64 z)).ownsRow 0 56 8 (.slice (some ⟨g, 0, none⟩) n c) n (wcells (l.set 0 ⟨{ l[0].job with left := z }, l[0].num⟩)) := by
  have q := (World.ownsRow.stored h 6 (.int .i64 z)).1
  have e : (wcells l).set 6 (.int .i64 z) = wcells (l.set 0 ⟨{ l[0].job with left := z }, l[0].num⟩) := by
    rw [← wcells_set]
    unfold setW
    have s : ∀ (L : List Value) (k : Nat) (u : Value), L[k]? = some u → L.set k u = L := fun L k u hu => by
      apply List.ext_getElem?
      intro j
      rw [List.getElem?_set]
      split
      · rename_i ee
        subst ee
        split
        · exact hu.symm
        · rw [List.getElem?_eq_none (by omega)]
      · rfl
    have a : ∀ j, j < 8 → (wcells l)[0 * 8 + j]? = (wcell l[0])[j]? := fun j hj => wcells_at l h0 hj
    have a0 := a 0 (by omega)
    have a1 := a 1 (by omega)
    have a2 := a 2 (by omega)
    have a3 := a 3 (by omega)
    have a4 := a 4 (by omega)
    have a5 := a 5 (by omega)
    have a7 := a 7 (by omega)
    simp only [wcell] at a0 a1 a2 a3 a4 a5 a7
    simp only [Nat.zero_mul, Nat.zero_add] at *
    rw [s _ 0 _ a0, s _ 1 _ a1, s _ 2 _ a2, s _ 3 _ a3, s _ 4 _ a4, s _ 5 _ a5]
    refine (s _ 7 _ ?_).symm
    rw [List.getElem?_set_ne (by decide)]
    exact a7
  rw [← e]
  exact q

section
variable {S : Nat → Prop} {w w' : World} {b m came : Nat} {h : Nat → It} {x y : List Jb}

/-- The root of a queue in memory: where it lies, and what it is when something of it was worked. -/
theorem QH.root {n : Nat} (q : QH S w b h (n + 1) came y) : ∃ g c y', LnV b 53 [.int .i64 (came : Int)] S w (.slice (some ⟨g, 0, none⟩) (n + 1) c) ((List.range (n + 1)).map h) ∧ WtAt w g 0 (h 0) ∧ w.frozen? ⟨g, 6, none⟩ = false ∧ y = (h 0).job :: y' ∧
    (∀ l : List It, l.Perm ((List.range n).map (swp h 0 n)) → Rep l y') ∧
    ∀ z : Int, Ln b 53 [.int .i64 (came : Int)] S (w.setCell ⟨g, 6, none⟩ (.int .i64 z)) (rootI h ⟨{ (h 0).job with left := z }, (h 0).num⟩) (n + 1) ∧ HeapF ltI 0 (rootI h ⟨{ (h 0).job with left := z }, (h 0).num⟩) (n + 1) ∧ Rep ((List.range (n + 1)).map (rootI h ⟨{ (h 0).job with left := z }, (h 0).num⟩)) ({ (h 0).job with left := z } :: y') ∧ Chg S w (w.setCell ⟨g, 6, none⟩ (.int .i64 z)) := by
  obtain ⟨v, hv⟩ := q.ln
  obtain ⟨ao, c, rfl, hf⟩ := hv.form
  obtain ⟨g, rfl⟩ := hf.resolve_left (by simp)
  obtain ⟨y', e, r1, r2⟩ := q.rep.root q.heap
  have hw := wt_of_owns hv.own (i := 0) (by simp)
  rw [mapr_at, Nat.zero_mul] at hw
  have hv' := hv
  rw [mapr_length] at hv'
  refine ⟨g, c, y', hv', hw, hv.own.frozenAt 6, e, r1, fun z => ?_⟩
  have o2 := owns_left hv.own (by simp) z
  have C : Chg (fun k => k = g) w (w.setCell ⟨g, 6, none⟩ (.int .i64 z)) := Chg.setCell (S := fun k => k = g) (Chg.refl _ w) (fun _ => rfl) _
  obtain ⟨k1, k2⟩ := hv.wrote C (by simp) o2
  rw [mapr_at, mapr_root] at k1
  exact ⟨⟨_, k1⟩, heapF_root rfl rfl rfl q.heap, r2 _ rfl rfl rfl, k2⟩

theorem QH.num_root {n : Nat} (q : QH S w b h (n + 1) came y) (z : Int) : ∀ a ∈ (List.range (n + 1)).map (rootI h ⟨{ (h 0).job with left := z }, (h 0).num⟩), a.num < came := by
  intro a ha
  obtain ⟨k, hk, rfl⟩ := List.mem_map.1 ha
  unfold rootI
  split
  · exact (show (h 0).num < came from q.num (h 0) (List.mem_map.2 ⟨0, by simp, rfl⟩))
  · exact q.num _ (List.mem_map.2 ⟨k, hk, rfl⟩)

/-- Behind taking the root out. -/
theorem QH.next {n : Nat} {h0 : Nat → It} {y' : List Jb} (q : QH S w b h (n + 1) came y) (hr : ∀ l : List It, l.Perm ((List.range n).map (swp h 0 n)) → Rep l y') (a : It) (e0 : h0 = rootI h a) (hok : QOk y') {w1 w2 : World} (hX : LeftX b 53 [.int .i64 (came : Int)] S w1 w2 h0 n) : ∃ h', QH S w2 b h' n came y' ∧ Chg S w1 w2 := by
  obtain ⟨h', M, F, P, C⟩ := hX
  have ee : (List.range n).map (swp h0 0 n) = (List.range n).map (swp h 0 n) := by
    rw [e0]
    refine List.map_congr_left fun k hk => ?_
    have hk : k < n := List.mem_range.1 hk
    unfold swp rootI
    by_cases e : k = 0
    · rw [if_pos e, if_pos e, if_neg (by omega)]
    · have kn : ¬ k = n := by omega
      simp [e, kn]
  rw [ee] at P
  refine ⟨h', ⟨M, F, hr _ P, fun b hb => ?_, hok⟩, C⟩
  obtain ⟨k, hk, rfl⟩ := List.mem_map.1 (P.mem_iff.1 hb)
  have hk : k < n := List.mem_range.1 hk
  unfold swp
  by_cases e : k = 0
  · rw [if_pos e]; exact q.num _ (List.mem_map.2 ⟨n, by simp, rfl⟩)
  · rw [if_neg e, if_neg (by omega)]; exact q.num _ (List.mem_map.2 ⟨k, by simp; omega, rfl⟩)
end

theorem qok_tail {j : Jb} {y : List Jb} (h : QOk (j :: y)) : QOk y := ⟨(List.pairwise_cons.1 h.srt).2, fun a ha => h.all a (by simp [ha]), by have := h.few; simp at this; omega⟩

theorem work_less {j : Jb} {y : List Jb} {u : Nat} {A : Nat} (hA : j.left = (A : Int)) (h0 : 0 < u) (h : A ≤ u) : workD (j :: y) u = zeroJ j :: workD y (u - A) ∧ workR (j :: y) u = workR y (u - A) ∧ workN (j :: y) u = workN y (u - A) := by
  have e : j.left ≤ (u : Int) := by omega
  have e2 : j.left.toNat = A := by omega
  have u0 : ¬ u = 0 := by omega
  refine ⟨?_, ?_, ?_⟩
  · rw [workD, if_neg u0, if_pos e, e2]
  · rw [workR, if_neg u0, if_pos e, e2]
  · rw [workN, if_neg u0, if_pos e, e2]

theorem work_more {j : Jb} {y : List Jb} {u : Nat} {A : Nat} (hA : j.left = (A : Int)) (h0 : 0 < u) (h : ¬ A ≤ u) : workD (j :: y) u = [] ∧ workR (j :: y) u = { j with left := (A : Int) - u } :: y ∧ workN (j :: y) u = 0 := by
  have e : ¬ j.left ≤ (u : Int) := by omega
  have u0 : ¬ u = 0 := by omega
  refine ⟨?_, ?_, ?_⟩
  · rw [workD, if_neg u0, if_neg e]
  · rw [workR, if_neg u0, if_neg e, hA]
  · rw [workN, if_neg u0, if_neg e]

set_option maxRecDepth 100000 in
set_option maxHeartbeats 4000000 in
theorem ework_in (b U came : Nat) (F : Nat → Prop) (x : List Jb) (h : Nat → It) (m : Nat) (hUb : U ≤ 9223372036854775807) (w : World) (hq : QH F w b h m came x) :
    Calls Try.prog 11 #[.pointer (some ⟨b, 0, none⟩), .int .i64 (U : Int)] w fun e w' => ∃ v, e = .returned (.tuple #[v, .int .i64 (workN x U : Int)]) ∧ LeftJ F w w' b (workR x U) v (workD x U) came := by
  have HLT := Hid.intro hq.lt
  have HQ := Hid.intro hq
  obtain ⟨RN, hRN⟩ : ∃ RN, RN = workN x U := ⟨_, rfl⟩
  have HRN := Hid.intro hRN
  rw [← hRN]
  have U0 : (0 : Int) ≤ (U : Int) := by omega
  clear hRN hq
  go_enter Try.func11, Try.ntmps11
  go_wp2_with fail
  go_loopw [1, 6] (fun uv dv ws => ∃ (u k m : Nat) (D y : List Jb) (h : Nat → It), u ≤ U ∧ k ≤ 40 ∧ k + m ≤ 40 ∧ uv = .int .i64 (u : Int) ∧ Mk w.heap.size ws dv k D ∧ QH F ws b h m came y ∧ Chg F w ws ∧ D ++ workD y u = workD x U ∧ workR y u = workR x U ∧ workN y u = workN x U) (fun uv _ _ => (intOf uv).toNat)
  case atStart =>
    have := HQ.out.len
    have := HQ.out.ok.few
    exact ⟨U, 0, m, [], x, h, Nat.le_refl _, by omega, by omega, rfl, mk_start _ _, HQ.out, Chg.refl _ _, rfl, rfl, rfl⟩
  case round =>
    clear HQ
    obtain ⟨u, k, m, D, y, h, huU, hk40, hkm, rfl, hM, hQ, hC, e1, e2, e3⟩ := hrel
    have MH := Hid.intro hM
    have QQ := Hid.intro hQ
    have CH := Hid.intro hC
    have E1 := Hid.intro e1
    have E2 := Hid.intro e2
    have E3 := Hid.intro e3
    have ml := hQ.len
    clear hM hC e1 e2 e3
    obtain ⟨da, dc, rfl⟩ := MH.out.form
    by_cases hu : u = 0
    · subst hu
      have FIN : Hid (RN = 0 ∧ LeftJ F w wr b (workR x U) (.slice da k dc) (workD x U) came) := by
        obtain ⟨z1, z2, z3⟩ := work_zero y
        have a1 := E1.out
        have a2 := E2.out
        have a3 := E3.out
        rw [z1, List.append_nil] at a1
        rw [z2] at a2
        rw [z3] at a3
        refine ⟨by rw [HRN.out, ← a3], ?_⟩
        rw [← a1, ← a2]
        exact ⟨F, MH.out.answer HLT.out, ⟨h, m, came, QQ.out, Nat.le_refl _⟩, CH.out, fun _ z => .inl z⟩
      clear hQ ml
      go_wp2
      go_ret2
      exact ⟨_, by rw [FIN.out.1]; rfl, FIN.out.2⟩
    · have u0 : 0 < u := by omega
      have u1 : (0 : Int) < (u : Int) := by omega
      cases m with
      | zero =>
        have y0 : y = [] := List.eq_nil_of_length_eq_zero ml.symm
        subst y0
        obtain ⟨v, hv⟩ := hQ.ln
        have c0 := hv.cell
        obtain ⟨ao, c, rfl, _⟩ := hv.form
        rw [mapr_length] at c0
        have FIN : Hid (RN = u ∧ LeftJ F w wr b (workR x U) (.slice da k dc) (workD x U) came) := by
          have a1 := E1.out
          have a2 := E2.out
          have a3 := E3.out
          rw [workD, List.append_nil] at a1
          rw [workR] at a2
          rw [workN] at a3
          refine ⟨by rw [HRN.out, ← a3], ?_⟩
          rw [← a1, ← a2]
          exact ⟨F, MH.out.answer HLT.out, ⟨h, 0, came, QQ.out, Nat.le_refl _⟩, CH.out, fun _ z => .inl z⟩
        clear hQ ml hv hu
        go_wp2
        go_ret2
        exact ⟨_, by rw [FIN.out.1]; rfl, FIN.out.2⟩
      | succ n =>
        obtain ⟨g, c, y', hv, hw, fz, ey, r1, r2⟩ := hQ.root
        have c0 := hv.cell
        have may := (mayJ_true (hQ.ok.all (h 0).job (by rw [ey]; simp))).1
        obtain ⟨A, hA⟩ := Int.eq_ofNat_of_zero_le (show 0 ≤ (h 0).job.left by omega)
        have HA := Hid.intro hA
        obtain ⟨d0, d1, d2, d3, d4, d5, d6, d7⟩ := hw
        rw [hA] at d6 may
        have A1 : 1 ≤ A := by omega
        have A2 : A ≤ 1000 := by omega
        have R1 := Hid.intro r1
        have EY := Hid.intro ey
        have OKY := Hid.intro (qok_tail (by rw [← ey]; exact hQ.ok))
        have n0 : (0 : Int) < ((n + 1 : Nat) : Int) := by omega
        have n1 : (0 : Int) < (n : Int) + 1 := by omega
        by_cases hlt : A < u
        · have hle : A ≤ u := by omega
          have hle' : ¬ (u : Int) ≤ (A : Int) := by omega
          have hlt' : (A : Int) < (u : Int) := by omega
          have W := work_less (j := (h 0).job) (y := y') hA u0 hle
          obtain ⟨L2, H2, P2, C2⟩ := r2 0
          have NX := Hid.intro (enext_any b _ _ F _ n (by omega) (wr.setCell ⟨g, 6, none⟩ (.int .i64 0)) L2 H2)
          have C2H := Hid.intro C2
          have WH := Hid.intro W
          have HZ : Hid (zeroJ (h 0).job = { (h 0).job with left := 0 }) := rfl
          obtain ⟨N, hN⟩ : ∃ N : Nat, N = u - A := ⟨_, rfl⟩
          have HN := Hid.intro hN
          have sN : (u : Int) - (A : Int) = (N : Int) := by omega
          have sA : (A : Int) - (A : Int) = 0 := by omega
          have Nle : N < u := by omega
          have ZE : Hid ((rootI h ⟨{ (h 0).job with left := 0 }, (h 0).num⟩ 0).job = zeroJ (h 0).job) := rfl
          rw [ZE.out] at NX
          generalize hzj : zeroJ (h 0).job = zj at *
          obtain ⟨z0, z1, z2, z3, z4, z5, z6⟩ := zj
          clear r1 r2 ey may hA L2 H2 P2 C2 W hv d0 d1 d2 d3 d4 d5 d7 hQ ml hu hN hle HZ hzj
          go_wp2_with fail
          refine NX.out.mono ?_
          rintro e w2 ⟨rfl, hX⟩
          obtain ⟨h9, Q9, C9⟩ := QQ.out.next R1.out _ rfl OKY.out hX
          have C3 := CH.out.trans (C2H.out.trans C9 (fun _ z _ => z)) (fun _ z _ => z)
          have M3 := (MH.out.kept (C2H.out.trans C9 (fun _ z _ => z)) HLT.out)
          have BN := (Below.refl _ w2).alloc (Nat.le_refl _) (.cells #[.int .i64 z0, .int .i64 z1, .int .i64 z2, .int .i64 z3, .int .i64 z4, .int .i64 z5, .int .i64 z6] 38)
          have GR := Hid.intro ((js_block (l := [⟨z0, z1, z2, z3, z4, z5, z6⟩]) (heap_alloc_new w2 (.cells #[.int .i64 z0, .int .i64 z1, .int .i64 z2, .int .i64 z3, .int .i64 z4, .int .i64 z5, .int .i64 z6] 38)) (c := 1) (by simp)).mono (R' := fun _ => True) (fun _ _ => trivial))
          have M4 := M3.below BN
          have ON := Hid.intro M4.own
          have HLN := Hid.intro M4.len
          have C4 := C3.trans ((below_chg BN).mono (T := fun _ => False) (fun _ f _ => f)) (fun _ f _ => f.elim)
          have FIN := Hid.intro (fun (v' : Value) (wb : World) hown hgrow hat => (show Mk w.heap.size wb v' (k + 1) (D ++ [⟨z0, z1, z2, z3, z4, z5, z6⟩]) ∧ Chg F w wb ∧ QH F wb b h9 n came y' from by
            have q := M4.push (v' := v') (wb := wb) (j := ⟨z0, z1, z2, z3, z4, z5, z6⟩) C4 rfl hown hgrow hat
            refine ⟨q.1, q.2, (Q9.kept (below_chg BN) (fun _ _ => id)).kept (T := fun t => (Value.slice da k dc).ownBlock = some t) ⟨hgrow.os, hgrow.tape, hgrow.output, hgrow.size, fun t ht hn => hgrow.block t ht (fun z => hn z.symm)⟩ (fun t ht z => ?_)⟩
            have := HLT.out t ht
            have := M4.new t z
            omega))
          have HQ2 := Hid.intro (show D ++ [⟨z0, z1, z2, z3, z4, z5, z6⟩] ++ workD y' N = workD x U ∧ workR y' N = workR x U ∧ workN y' N = workN x U from by
            have a1 := E1.out
            have a2 := E2.out
            have a3 := E3.out
            rw [EY.out, WH.out.1, ← HN.out] at a1
            rw [EY.out, WH.out.2.1, ← HN.out] at a2
            rw [EY.out, WH.out.2.2, ← HN.out] at a3
            exact ⟨by rw [List.append_assoc]; exact a1, a2, a3⟩)
          clear NX hX Q9 C9 C3 M3 M4 C4 BN WH E1 E2 E3 EY R1 QQ C2H CH MH HN c0 fz d6
          go_wp2_with (refine append_jobs (by rfl) _ _ (by rfl) (.slice da k dc) k D HLN.out (by rfl) ON.out (fun _ => True) (some ⟨w2.heap.size, 0, none⟩) 1 1 [⟨z0, z1, z2, z3, z4, z5, z6⟩] rfl (by rfl) GR.out (fun h => by cases h) (by omega) ?_; intro v' wb hown hgrow hat; have FN := Hid.intro (FIN.out v' wb hown hgrow (by simpa using hat)); clear hown hgrow hat)
          refine ⟨⟨N, k + 1, n, _, y', h9, by omega, by omega, by omega, rfl, FN.out.1, FN.out.2.2, FN.out.2.1, HQ2.out⟩, ?_⟩
          simp [intOf]; omega
        · by_cases heq : A = u
          · have hle : A ≤ u := by omega
            subst heq
            have W := work_less (j := (h 0).job) (y := y') hA u0 hle
            obtain ⟨L2, H2, P2, C2⟩ := r2 0
            have NX := Hid.intro (enext_any b _ _ F _ n (by omega) (wr.setCell ⟨g, 6, none⟩ (.int .i64 0)) L2 H2)
            have C2H := Hid.intro C2
            have WH := Hid.intro W
            have HZ : Hid (zeroJ (h 0).job = { (h 0).job with left := 0 }) := rfl
            have HN : Hid (0 = A - A) := by rw [Hid]; omega
            have sA : (A : Int) - (A : Int) = 0 := by omega
            have Nle : 0 < A := by omega
            have ZE : Hid ((rootI h ⟨{ (h 0).job with left := 0 }, (h 0).num⟩ 0).job = zeroJ (h 0).job) := rfl
            rw [ZE.out] at NX
            generalize hzj : zeroJ (h 0).job = zj at *
            obtain ⟨z0, z1, z2, z3, z4, z5, z6⟩ := zj
            clear r1 r2 ey may hA L2 H2 P2 C2 W hv d0 d1 d2 d3 d4 d5 d7 hQ ml hu hle HZ hzj
            go_wp2_with fail
            refine NX.out.mono ?_
            rintro e w2 ⟨rfl, hX⟩
            obtain ⟨h9, Q9, C9⟩ := QQ.out.next R1.out _ rfl OKY.out hX
            have C3 := CH.out.trans (C2H.out.trans C9 (fun _ z _ => z)) (fun _ z _ => z)
            have M3 := (MH.out.kept (C2H.out.trans C9 (fun _ z _ => z)) HLT.out)
            have BN := (Below.refl _ w2).alloc (Nat.le_refl _) (.cells #[.int .i64 z0, .int .i64 z1, .int .i64 z2, .int .i64 z3, .int .i64 z4, .int .i64 z5, .int .i64 z6] 38)
            have GR := Hid.intro ((js_block (l := [⟨z0, z1, z2, z3, z4, z5, z6⟩]) (heap_alloc_new w2 (.cells #[.int .i64 z0, .int .i64 z1, .int .i64 z2, .int .i64 z3, .int .i64 z4, .int .i64 z5, .int .i64 z6] 38)) (c := 1) (by simp)).mono (R' := fun _ => True) (fun _ _ => trivial))
            have M4 := M3.below BN
            have ON := Hid.intro M4.own
            have HLN := Hid.intro M4.len
            have C4 := C3.trans ((below_chg BN).mono (T := fun _ => False) (fun _ f _ => f)) (fun _ f _ => f.elim)
            have FIN := Hid.intro (fun (v' : Value) (wb : World) hown hgrow hat => (show Mk w.heap.size wb v' (k + 1) (D ++ [⟨z0, z1, z2, z3, z4, z5, z6⟩]) ∧ Chg F w wb ∧ QH F wb b h9 n came y' from by
              have q := M4.push (v' := v') (wb := wb) (j := ⟨z0, z1, z2, z3, z4, z5, z6⟩) C4 rfl hown hgrow hat
              refine ⟨q.1, q.2, (Q9.kept (below_chg BN) (fun _ _ => id)).kept (T := fun t => (Value.slice da k dc).ownBlock = some t) ⟨hgrow.os, hgrow.tape, hgrow.output, hgrow.size, fun t ht hn => hgrow.block t ht (fun z => hn z.symm)⟩ (fun t ht z => ?_)⟩
              have := HLT.out t ht
              have := M4.new t z
              omega))
            have HQ2 := Hid.intro (show D ++ [⟨z0, z1, z2, z3, z4, z5, z6⟩] ++ workD y' 0 = workD x U ∧ workR y' 0 = workR x U ∧ workN y' 0 = workN x U from by
              have a1 := E1.out
              have a2 := E2.out
              have a3 := E3.out
              rw [EY.out, WH.out.1, ← HN.out] at a1
              rw [EY.out, WH.out.2.1, ← HN.out] at a2
              rw [EY.out, WH.out.2.2, ← HN.out] at a3
              exact ⟨by rw [List.append_assoc]; exact a1, a2, a3⟩)
            clear NX hX Q9 C9 C3 M3 M4 C4 BN WH E1 E2 E3 EY R1 QQ C2H CH MH HN c0 fz d6
            go_wp2_with (refine append_jobs (by rfl) _ _ (by rfl) (.slice da k dc) k D HLN.out (by rfl) ON.out (fun _ => True) (some ⟨w2.heap.size, 0, none⟩) 1 1 [⟨z0, z1, z2, z3, z4, z5, z6⟩] rfl (by rfl) GR.out (fun h => by cases h) (by omega) ?_; intro v' wb hown hgrow hat; have FN := Hid.intro (FIN.out v' wb hown hgrow (by simpa using hat)); clear hown hgrow hat)
            refine ⟨⟨0, k + 1, n, _, y', h9, by omega, by omega, by omega, rfl, FN.out.1, FN.out.2.2, FN.out.2.1, HQ2.out⟩, ?_⟩
            simp [intOf]; omega
          · have hgt : u < A := by omega
            have hgt' : (u : Int) < (A : Int) := by omega
            have hge' : (u : Int) ≤ (A : Int) := by omega
            have W := work_more (j := (h 0).job) (y := y') hA u0 (by omega)
            obtain ⟨L2, H2, P2, C2⟩ := r2 ((A : Int) - u)
            have sz : ¬ (A : Int) - (u : Int) = 0 := by omega
            have nz : ((A : Int) - (u : Int) == 0) = false := by rw [beq_eq_false_iff_ne]; omega
            have FIN : Hid (QH F (wr.setCell ⟨g, 6, none⟩ (.int .i64 ((A : Int) - u))) b (rootI h ⟨{ (h 0).job with left := (A : Int) - u }, (h 0).num⟩) (n + 1) came (workR y u) ∧ Mk w.heap.size (wr.setCell ⟨g, 6, none⟩ (.int .i64 ((A : Int) - u))) (.slice da k dc) k D ∧ Chg F w (wr.setCell ⟨g, 6, none⟩ (.int .i64 ((A : Int) - u)))) := by
              have ok := workR_ok hQ.ok u
              have e : workR y u = { (h 0).job with left := (A : Int) - u } :: y' := by rw [ey, W.2.1]
              refine ⟨⟨L2, H2, by rw [e]; exact P2, hQ.num_root _, ok⟩, MH.out.kept C2 HLT.out, CH.out.trans C2 (fun _ z _ => z)⟩
            have HQ2 := Hid.intro (show D ++ workD (workR y u) 0 = workD x U ∧ workR (workR y u) 0 = workR x U ∧ workN (workR y u) 0 = workN x U from by
              obtain ⟨z1, z2, z3⟩ := work_zero (workR y u)
              have a1 := E1.out
              have a2 := E2.out
              have a3 := E3.out
              rw [EY.out, W.1] at a1
              rw [EY.out, W.2.2] at a3
              rw [z1, z2, z3]
              exact ⟨a1, a2, a3⟩)
            clear r1 r2 ey may hA L2 H2 P2 C2 W hv d0 d1 d2 d3 d4 d5 d7 hQ ml hu E1 E2 E3 EY MH CH QQ
            go_wp2
            go_roundw
            case rel => exact ⟨0, k, n + 1, D, workR y u, _, by omega, by omega, by omega, by go_num, FIN.out.2.1, FIN.out.1, FIN.out.2.2, HQ2.out⟩
            case measure => simp [intOf]; omega

end Go.Proofs.Ytgcpkploeobafaa
