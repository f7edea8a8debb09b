/- Package edf: Work of whatever units, Late, Left. -/
import Derived.Test.YtgcpkploeobafaaEdK7
namespace Go.Proofs.Ytgcpkploeobafaa
open Go.RowKit
open Bt

set_option maxRecDepth 100000 in
set_option maxHeartbeats 1000000 in
theorem ework_neg (b came : Nat) (F : Nat → Prop) (x : List Jb) (h : Nat → It) (m : Nat) (u : Int) (hu : u < 0) (w : World) (hq : QH F w b h m came x) :
    Calls Try.prog 11 #[.pointer (some ⟨b, 0, none⟩), .int .i64 u] w fun e w' => ∃ v, e = .returned (.tuple #[v, .int .i64 0]) ∧ LeftJ F w w' b x v [] came := by
  have FIN : Hid (LeftJ F w w b x (.slice none 0 0) [] came) := ⟨F, js_nil _ _, ⟨h, m, came, hq, Nat.le_refl _⟩, Chg.refl _ _, fun _ z => .inl z⟩
  have u0 : ¬ (0 : Int) ≤ u := by omega
  clear hq
  go_enter Try.func11, Try.ntmps11
  go_wp2_with fail
  go_loopw [1, 6] (fun uv dv ws => uv = .int .i64 0 ∧ dv = .slice none 0 0 ∧ ws = w) (fun uv _ _ => (intOf uv).toNat)
  case atStart => exact ⟨rfl, rfl, rfl⟩
  case round =>
    obtain ⟨rfl, rfl, rfl⟩ := hrel
    go_wp2
    go_ret2
    exact ⟨_, rfl, FIN.out⟩

theorem ework_any (b : Nat) (u : Int) (F : Nat → Prop) (x : List Jb) (n : Nat) (hu : u ≤ 9223372036854775807) (w : World) (hc : Que F w b x n) :
    Calls Try.prog 11 #[.pointer (some ⟨b, 0, none⟩), .int .i64 u] w fun e w' => ∃ v, e = .returned (.tuple #[v, .int .i64 (workN x u.toNat : Int)]) ∧ LeftJ F w w' b (workR x u.toNat) v (workD x u.toNat) n := by
  obtain ⟨h, m, came, q, hn⟩ := hc
  have more : ∀ {w' : World} {y l : List Jb} {v : Value}, LeftJ F w w' b y v l came → LeftJ F w w' b y v l n := fun ⟨S', a, b, c, d⟩ => ⟨S', a, b.more hn, c, d⟩
  by_cases h0 : 0 ≤ u
  · obtain ⟨U, rfl⟩ := Int.eq_ofNat_of_zero_le h0
    refine (ework_in b U came F x h m (by omega) w q).mono ?_
    rintro e w' ⟨v, rfl, l⟩
    exact ⟨v, rfl, more l⟩
  · have e : u.toNat = 0 := by omega
    rw [e]
    obtain ⟨z1, z2, z3⟩ := work_zero x
    rw [z1, z2, z3]
    refine (ework_neg b came F x h m u (by omega) w q).mono ?_
    rintro e w' ⟨v, rfl, l⟩
    exact ⟨v, rfl, more l⟩

theorem late_yes {j : Jb} {y : List Jb} {now : Int} (h : j.dl ≤ now) : lateD (j :: y) now = j :: lateD y now ∧ lateR (j :: y) now = lateR y now := by
  unfold lateD lateR
  exact ⟨List.filter_cons_of_pos (by simpa using h), List.filter_cons_of_neg (by simpa using h)⟩

theorem late_no {j : Jb} {y : List Jb} {now : Int} (hs : SrtJ (j :: y)) (h : ¬ j.dl ≤ now) : lateD (j :: y) now = [] ∧ lateR (j :: y) now = j :: y := by
  have hall : ∀ a ∈ j :: y, ¬ a.dl ≤ now := fun a ha => by
    rcases List.mem_cons.1 ha with rfl | ha
    · exact h
    · have r := (List.pairwise_cons.1 hs).1 a ha
      rw [ahJ_false] at r
      omega
  unfold lateD lateR
  refine ⟨List.filter_eq_nil_iff.2 (fun a ha => by have := hall a ha; simpa using this), List.filter_eq_self.2 (fun a ha => by have := hall a ha; simpa using this)⟩

set_option maxRecDepth 100000 in
set_option maxHeartbeats 4000000 in
theorem elate_in (b came : Nat) (now : Int) (F : Nat → Prop) (x : List Jb) (h : Nat → It) (m : Nat) (w : World) (hq : QH F w b h m came x) :
    Calls Try.prog 12 #[.pointer (some ⟨b, 0, none⟩), .int .i64 now] w fun e w' => ∃ v, e = .returned v ∧ LeftJ F w w' b (lateR x now) v (lateD x now) came := by
  have HLT := Hid.intro hq.lt
  have HQ := Hid.intro hq
  clear hq
  go_enter Try.func12, Try.ntmps12
  go_wp2_with fail
  go_loopw [5] (fun dv ws => ∃ (k m : Nat) (D y : List Jb) (h : Nat → It), k + m ≤ 40 ∧ Mk w.heap.size ws dv k D ∧ QH F ws b h m came y ∧ Chg F w ws ∧ D ++ lateD y now = lateD x now ∧ lateR y now = lateR x now) (fun dv _ => 40 - lenV dv)
  case atStart =>
    have := HQ.out.len
    have := HQ.out.ok.few
    exact ⟨0, m, [], x, h, by omega, mk_start _ _, HQ.out, Chg.refl _ _, rfl, rfl⟩
  case round =>
    clear HQ
    obtain ⟨k, m, D, y, h, hkm, hM, hQ, hC, e1, e2⟩ := hrel
    have MH := Hid.intro hM
    have QQ := Hid.intro hQ
    have CH := Hid.intro hC
    have E1 := Hid.intro e1
    have E2 := Hid.intro e2
    have ml := hQ.len
    clear hM hC e1 e2
    obtain ⟨da, dc, rfl⟩ := MH.out.form
    cases m with
    | zero =>
      have y0 : y = [] := List.eq_nil_of_length_eq_zero ml.symm
      subst y0
      obtain ⟨v, hv⟩ := hQ.ln
      have c0 := hv.cell
      obtain ⟨ao, c, rfl, _⟩ := hv.form
      rw [mapr_length] at c0
      have FIN : Hid (LeftJ F w wr b (lateR x now) (.slice da k dc) (lateD x now) came) := by
        have a1 := E1.out
        have a2 := E2.out
        have l1 : lateD [] now = [] := rfl
        have l2 : lateR [] now = [] := rfl
        rw [l1, List.append_nil] at a1
        rw [l2] at a2
        rw [Hid, ← a1, ← a2]
        exact ⟨F, MH.out.answer HLT.out, ⟨h, 0, came, QQ.out, Nat.le_refl _⟩, CH.out, fun _ z => .inl z⟩
      clear hQ ml hv
      go_wp2
      go_ret
      exact ⟨_, rfl, FIN.out⟩
    | succ n =>
      obtain ⟨g, c, y', hv, hw, fz, ey, r1, r2⟩ := hQ.root
      have c0 := hv.cell
      obtain ⟨d0, d1, d2, d3, d4, d5, d6, d7⟩ := hw
      have R1 := Hid.intro r1
      have EY := Hid.intro ey
      have OKY := Hid.intro (qok_tail (by rw [← ey]; exact hQ.ok))
      have SR := Hid.intro (show SrtJ ((h 0).job :: y') from by rw [← ey]; exact hQ.ok.srt)
      have n0 : (0 : Int) < ((n + 1 : Nat) : Int) := by omega
      have n1 : (0 : Int) < (n : Int) + 1 := by omega
      by_cases hlt : (h 0).job.dl ≤ now
      · have W := late_yes (j := (h 0).job) (y := y') hlt
        have NX := Hid.intro (enext_any b _ _ F h n (by omega) wr hQ.ln hQ.heap)
        have WH := Hid.intro W
        have RS := Hid.intro (root_self h)
        have HLD := Hid.intro hlt
        generalize (h 0).job = zj at *
        obtain ⟨z0, z1, z2, z3, z4, z5, z6⟩ := zj
        simp only at hlt d5
        clear r1 r2 ey W hv d0 d1 d2 d3 d4 d6 d7 hQ ml
        go_wp2_with fail
        refine NX.out.mono ?_
        rintro e w2 ⟨rfl, hX⟩
        obtain ⟨h9, Q9, C9⟩ := QQ.out.next R1.out (h 0) RS.out.symm OKY.out hX
        have C3 := CH.out.trans C9 (fun _ z _ => z)
        have M3 := (MH.out.kept C9 HLT.out)
        have BN := (Below.refl _ w2).alloc (Nat.le_refl _) (.cells #[.int .i64 z0, .int .i64 z1, .int .i64 z2, .int .i64 z3, .int .i64 z4, .int .i64 z5, .int .i64 z6] 38)
        have GR := Hid.intro ((js_block (l := [⟨z0, z1, z2, z3, z4, z5, z6⟩]) (heap_alloc_new w2 (.cells #[.int .i64 z0, .int .i64 z1, .int .i64 z2, .int .i64 z3, .int .i64 z4, .int .i64 z5, .int .i64 z6] 38)) (c := 1) (by simp)).mono (R' := fun _ => True) (fun _ _ => trivial))
        have M4 := M3.below BN
        have ON := Hid.intro M4.own
        have HLN := Hid.intro M4.len
        have C4 := C3.trans ((below_chg BN).mono (T := fun _ => False) (fun _ f _ => f)) (fun _ f _ => f.elim)
        have FIN := Hid.intro (fun (v' : Value) (wb : World) hown hgrow hat => (show Mk w.heap.size wb v' (k + 1) (D ++ [⟨z0, z1, z2, z3, z4, z5, z6⟩]) ∧ Chg F w wb ∧ QH F wb b h9 n came y' from by
          have q := M4.push (v' := v') (wb := wb) (j := ⟨z0, z1, z2, z3, z4, z5, z6⟩) C4 rfl hown hgrow hat
          refine ⟨q.1, q.2, (Q9.kept (below_chg BN) (fun _ _ => id)).kept (T := fun t => (Value.slice da k dc).ownBlock = some t) ⟨hgrow.os, hgrow.tape, hgrow.output, hgrow.size, fun t ht hn => hgrow.block t ht (fun z => hn z.symm)⟩ (fun t ht z => ?_)⟩
          have := HLT.out t ht
          have := M4.new t z
          omega))
        have HQ2 := Hid.intro (show D ++ [⟨z0, z1, z2, z3, z4, z5, z6⟩] ++ lateD y' now = lateD x now ∧ lateR y' now = lateR x now from by
          have a1 := E1.out
          have a2 := E2.out
          rw [EY.out, WH.out.1] at a1
          rw [EY.out, WH.out.2] at a2
          exact ⟨by rw [List.append_assoc]; exact a1, a2⟩)
        clear NX hX Q9 C9 C3 M3 M4 C4 BN WH E1 E2 EY R1 QQ CH MH c0 fz d5 hlt RS
        go_wp2_with (refine append_jobs (by rfl) _ _ (by rfl) (.slice da k dc) k D HLN.out (by rfl) ON.out (fun _ => True) (some ⟨w2.heap.size, 0, none⟩) 1 1 [⟨z0, z1, z2, z3, z4, z5, z6⟩] rfl (by rfl) GR.out (fun h => by cases h) (by omega) ?_; intro v' wb hown hgrow hat; have FN := Hid.intro (FIN.out v' wb hown hgrow (by simpa using hat)); obtain ⟨ao', cc', hv', _⟩ := ownsRow_form hown; subst hv'; clear hown hgrow hat)
        refine ⟨⟨k + 1, n, _, y', h9, by omega, FN.out.1, FN.out.2.2, FN.out.2.1, HQ2.out⟩, ?_⟩
        simp [lenV]; omega
      · have W := late_no SR.out hlt
        have FIN : Hid (LeftJ F w wr b (lateR x now) (.slice da k dc) (lateD x now) came) := by
          have a1 := E1.out
          have a2 := E2.out
          rw [EY.out, W.1, List.append_nil] at a1
          rw [EY.out, W.2, ← EY.out] at a2
          rw [Hid, ← a1, ← a2]
          exact ⟨F, MH.out.answer HLT.out, ⟨h, n + 1, came, QQ.out, Nat.le_refl _⟩, CH.out, fun _ z => .inl z⟩
        clear hQ ml hv r1 r2 ey W
        go_wp2
        go_ret
        exact ⟨_, rfl, FIN.out⟩

theorem elate_any (b : Nat) (now : Int) (F : Nat → Prop) (x : List Jb) (n : Nat) (w : World) (hc : Que F w b x n) :
    Calls Try.prog 12 #[.pointer (some ⟨b, 0, none⟩), .int .i64 now] w fun e w' => ∃ v, e = .returned v ∧ LeftJ F w w' b (lateR x now) v (lateD x now) n := by
  obtain ⟨h, m, came, q, hn⟩ := hc
  refine (elate_in b came now F x h m w q).mono ?_
  rintro e w' ⟨v, rfl, S', a, c, d, f⟩
  exact ⟨v, rfl, S', a, c.more hn, d, f⟩

theorem leftQ_snoc (h : Nat → It) (t : Nat) : leftQ (((List.range (t + 1)).map h).map (·.job)) = leftQ (((List.range t).map h).map (·.job)) + (h t).job.left := by
  rw [mapr_succ, List.map_append, leftQ_append]
  simp [leftQ]

set_option maxRecDepth 100000 in
set_option maxHeartbeats 1000000 in
theorem eleft_any (b : Nat) (F : Nat → Prop) (x : List Jb) (n : Nat) (w : World) (hc : Que F w b x n) :
    Calls Try.prog 15 #[.pointer (some ⟨b, 0, none⟩)] w fun e w' => e = .returned (.int .i64 (leftQ x)) ∧ Below w.heap.size w w' := by
  obtain ⟨h, m, came, q, _⟩ := hc
  obtain ⟨v, hv⟩ := q.ln
  have c0 := hv.cell
  have HV := Hid.intro hv
  have ml := q.len
  have few := q.ok.few
  have OK := Hid.intro (fun t (ht : t < m) => (mayJ_true (q.ok.all (h t).job (by
    obtain ⟨s, p, _, e⟩ := q.rep
    rw [← e]
    exact List.mem_map.2 ⟨h t, p.mem_iff.2 (List.mem_map.2 ⟨t, by simpa using ht, rfl⟩), rfl⟩))).1)
  have LR := Hid.intro q.rep.left
  obtain ⟨Z, hZ⟩ : ∃ Z, Z = leftQ x := ⟨_, rfl⟩
  rw [← hZ] at LR ⊢
  have m40 : m ≤ 40 := by omega
  obtain ⟨ao, c, rfl, hf⟩ := hv.form
  rw [mapr_length] at c0 hf
  clear hZ q ml few hv
  go_enter Try.func15, Try.ntmps15
  go_wp2_with fail
  go_loopw [3, 13] (fun nv iv ws => ∃ (k N : Nat), k ≤ m ∧ N ≤ 1000 * k ∧ iv = .int .i64 k ∧ nv = .int .i64 N ∧ (N : Int) = leftQ (((List.range k).map h).map (·.job)) ∧ Below w.heap.size w ws) (fun _ iv _ => m - (intOf iv).toNat)
  case atStart => exact ⟨0, 0, by omega, by omega, rfl, rfl, rfl, Below.refl _ _⟩
  case round =>
    obtain ⟨k, N, hk, hNb, rfl, rfl, hN, hB⟩ := hrel
    have HN := Hid.intro hN
    have BH := Hid.intro hB
    clear hN hB
    by_cases hlt : k < m
    · have k0 : (0 : Int) ≤ (k : Int) := by omega
      have k1 : (k : Int) < (m : Int) := by omega
      obtain ⟨g, rfl⟩ := hf.resolve_left (by omega)
      have hw := wt_of_owns (HV.out.below BH.out).own (i := k) (by simpa using hlt)
      rw [mapr_at] at hw
      have mj := OK.out k hlt
      have ST := Hid.intro (leftQ_snoc h k)
      generalize h k = it at *
      obtain ⟨⟨a0, a1, a2, a3, a4, a5, a6⟩, na⟩ := it
      obtain ⟨d0, d1, d2, d3, d4, d5, d6, d7⟩ := hw
      simp only at d0 d1 d2 d3 d4 d5 d6 d7 mj ST
      obtain ⟨A, rfl⟩ := Int.eq_ofNat_of_zero_le (show 0 ≤ a6 by omega)
      have mA : A ≤ 1000 := by omega
      have FB := Hid.intro (BH.out.trans (((Below.refl _ wr).alloc (Nat.le_refl _) (.cells #[.int .i64 a0, .int .i64 a1, .int .i64 a2, .int .i64 a3, .int .i64 a4, .int .i64 a5, .int .i64 (A : Int), .int .i64 (na : Int)] 56)).mono BH.out.size))
      clear mj BH
      go_wp2
      go_roundw
      case rel => exact ⟨k + 1, N + A, by omega, by omega, by go_num, by go_num, by rw [ST.out, ← HN.out]; push_cast; rfl, FB.out⟩
      case measure => simp [intOf]; omega
    · obtain rfl : k = m := by omega
      have k1 : ¬ (k : Int) < (k : Int) := by omega
      have FN : Hid ((N : Int) = Z) := by rw [Hid, HN.out, LR.out]
      go_wp2
      go_ret
      exact ⟨by rw [← FN.out]; rfl, BH.out⟩

end Go.Proofs.Ytgcpkploeobafaa
