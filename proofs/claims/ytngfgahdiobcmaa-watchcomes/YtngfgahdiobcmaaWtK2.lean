/- Package watch: within, New, Lost, Heard, isSilent. -/
import Derived.Test.YtngfgahdiobcmaaWtFd
import Derived.BigQuiet
namespace Go.Proofs.Ytngfgahdiobcmaa
open Go.RowKit
open Bt

theorem wwithin_any (n lo hi : Int) (w : World) :
    Calls Try.prog 25 #[.int .i64 n, .int .i64 lo, .int .i64 hi] w fun e w' => e = .returned (.bool (decide (lo ≤ n) && decide (n ≤ hi))) ∧ w = w' := by
  by_cases h1 : lo ≤ n <;> by_cases h2 : n ≤ hi <;> simp only [h1, h2, decide_true, decide_false, Bool.and_true, Bool.and_false]
  all_goals
    go_enter Try.func25, Try.ntmps25
    go_wp2
    go_ret
    exact ⟨rfl, rfl⟩

theorem wnew_any (w : World) :
    Calls Try.prog 17 #[] w fun e w' => ∃ b F, e = .returned (.pointer (some ⟨b, 0, none⟩)) ∧ WS b [] F w' ∧ (∀ k, F k → w.heap.size ≤ k) ∧ Below w.heap.size w w' := by
  have HB := Hid.intro ((Below.refl _ w).alloc (Nat.le_refl _) (.cells #[.slice none 0 0] 56))
  have Q0 := Hid.intro (ws_new w)
  go_enter Try.func17, Try.ntmps17
  go_wp2
  go_ret
  exact ⟨_, _, rfl, Q0.out, fun k hk => by rw [hk]; exact Nat.le_refl _, HB.out⟩

set_option maxRecDepth 100000 in
set_option maxHeartbeats 1000000 in
theorem wlost_any (b : Nat) (bed : Int) (S : Nat → Prop) (v : Value) (L : List Wb) (w : World) (h : WtS S w b v L) :
    Calls Try.prog 15 #[.pointer (some ⟨b, 0, none⟩), .int .i64 bed] w fun e w' => e = .returned (.bool (lostWb L bed)) ∧ Below w.heap.size w w' := by
  have FI := Hid.intro (wfind_any b bed S v L w h)
  rcases posP_ways (isWb bed) L with ⟨p1, p2, _⟩ | ⟨i, hi, p1, p2, _⟩
  · rw [p1, atW_miss] at FI
    unfold lostWb
    rw [p2]
    clear h p1 p2
    go_enter Try.func15, Try.ntmps15
    go_wp2_with fail
    refine FI.out.mono ?_
    rintro e w1 ⟨rfl, B1⟩
    have BH := Hid.intro B1
    clear FI B1
    go_wp2
    go_ret
    exact ⟨rfl, BH.out⟩
  · rw [p1, atW_hit] at FI
    unfold lostWb
    rw [p2]
    show Calls Try.prog _ _ w fun e w' => e = .returned (.bool L[i].lost) ∧ Below w.heap.size w w'
    obtain ⟨ao, c, rfl, hz⟩ := ownsRow_form h.own
    obtain ⟨g, rfl⟩ := hz.resolve_left (by omega)
    change Hid (Calls Try.prog _ _ w fun e w' => e = .returned (.pointer (some ⟨g, i * 4, none⟩)) ∧ _) at FI
    have HA := Hid.intro (fun (W : World) (hW : Below w.heap.size w W) => (ws_at (h.below hW).own hi).2.2.2)
    clear h p1 p2 hz
    generalize L[i].lost = r at *
    go_enter Try.func15, Try.ntmps15
    go_wp2_with fail
    refine FI.out.mono ?_
    rintro e w1 ⟨rfl, B1⟩
    have BH := Hid.intro B1
    have c3 := HA.out w1 B1
    clear FI B1 HA
    go_wp2
    go_ret
    exact ⟨rfl, BH.out⟩

theorem wlost_nil (bed : Int) (w : World) :
    Calls Try.prog 15 #[.pointer none, .int .i64 bed] w fun e w' => e = .returned (.bool false) ∧ Below w.heap.size w w' := by
  have FI := Hid.intro (wfind_nil bed w)
  go_enter Try.func15, Try.ntmps15
  go_wp2_with fail
  refine FI.out.mono ?_
  rintro e w1 ⟨rfl, B1⟩
  have BH := Hid.intro B1
  clear FI B1
  go_wp2
  go_ret
  exact ⟨rfl, BH.out⟩

theorem wheard_nil (bed now : Int) (w : World) :
    Calls Try.prog 13 #[.pointer none, .int .i64 bed, .int .i64 now] w fun e w' => e = .returned (.bool false) ∧ Below w.heap.size w w' := by
  have FI := Hid.intro (wfind_nil bed w)
  go_enter Try.func13, Try.ntmps13
  go_wp2_with fail
  refine FI.out.mono ?_
  rintro e w1 ⟨rfl, B1⟩
  have BH := Hid.intro B1
  clear FI B1
  go_wp2
  go_ret
  exact ⟨rfl, BH.out⟩

/-- What a look at a list behind a call leaves. -/
theorem left_fromW {P : (Nat → Prop) → World → Prop} {S : Nat → Prop} {w w1 w2 : World} (hb : Below w.heap.size w w1) (h : LeftG P S w1 w2) : LeftG P S w w2 := by
  obtain ⟨S', h1, h2, h3⟩ := h
  exact ⟨S', h1, ((below_chg hb).mono (fun _ f _ => f.elim)).trans h2 (fun _ q _ => q), fun k hk => (h3 k hk).imp id (fun q => Nat.le_trans hb.size q)⟩

set_option maxRecDepth 100000 in
set_option maxHeartbeats 1000000 in
theorem wheard_any (b : Nat) (bed now : Int) (ht : timeWb now) (S : Nat → Prop) (v : Value) (L : List Wb) (w : World) (h : WtS S w b v L) :
    Calls Try.prog 13 #[.pointer (some ⟨b, 0, none⟩), .int .i64 bed, .int .i64 now] w fun e w' => e = .returned (.bool (lostWb L bed)) ∧ LeftG (WS b (heardWt L bed now)) S w w' := by
  have FI := Hid.intro (wfind_any b bed S v L w h)
  rcases posP_ways (isWb bed) L with ⟨p1, p2, p3⟩ | ⟨i, hi, p1, p2, p3⟩
  · rw [p1, atW_miss] at FI
    unfold lostWb
    rw [p2, heard_none now p3]
    have HS := Hid.intro (fun (W : World) (hW : Below w.heap.size w W) => h.same hW)
    clear h p1 p2 p3
    go_enter Try.func13, Try.ntmps13
    go_wp2_with fail
    refine FI.out.mono ?_
    rintro e w1 ⟨rfl, B1⟩
    have BH := Hid.intro (HS.out w1 B1)
    clear FI B1 HS
    go_wp2
    go_ret
    exact ⟨rfl, BH.out⟩
  · rw [p1, atW_hit] at FI
    have ok := heardWt_ok h.ok bed now ht
    have eH : heardWt L bed now = L.set i { L[i] with last := now, lost := false } := map_placeW h.ok.once hi p3 (fun x => { x with last := now, lost := false })
    have eL : lostWb L bed = L[i].lost := by unfold lostWb; rw [p2]
    rw [eH] at ok
    rw [eH, eL]
    obtain ⟨ao, c, rfl, hz⟩ := ownsRow_form h.own
    obtain ⟨g, rfl⟩ := hz.resolve_left (by omega)
    change Hid (Calls Try.prog _ _ w fun e w' => e = .returned (.pointer (some ⟨g, i * 4, none⟩)) ∧ _) at FI
    have HA := Hid.intro (fun (W : World) (hW : Below w.heap.size w W) => ws_at (h.below hW).own hi)
    have HF := Hid.intro (fun (W : World) (hW : Below w.heap.size w W) j => frozen_own15 (h.below hW).own j)
    have PU : Hid (∀ (W : World) (hW : Below w.heap.size w W), LeftG (WS b (L.set i { L[i] with last := now, lost := false })) S w ((W.setCell ⟨g, i * 4 + 2, none⟩ (.int .i64 now)).setCell ⟨g, i * 4 + 3, none⟩ (.bool false))) := fun W hW => by
      have h1 := h.below hW
      have e1 : L.set i { L[i] with last := now } = L.map (fun x => if isWb bed x = true then { x with last := now } else x) := (map_placeW h.ok.once hi p3 (fun x => { x with last := now })).symm
      have ok1 : OkWb (L.set i { L[i] with last := now }) := by
        rw [e1]
        exact map_okW h.ok _ (fun x => by split <;> rfl) (fun x => by split <;> rfl) (fun x hx => by
          split
          · exact ht
          · exact h.ok.last x hx)
      obtain ⟨q1, q2⟩ := h1.put (k := 2) (y := { L[i] with last := now }) (u := .int .i64 now) hi (by omega) rfl ok1
      have hi2 : i < (L.set i { L[i] with last := now }).length := by simpa using hi
      obtain ⟨r1, r2⟩ := q1.put (k := 3) (y := { L[i] with last := now, lost := false }) (u := .bool false) hi2 (by omega) (by simp [wcell15]) (by rw [List.set_set]; exact ok)
      rw [List.set_set] at r1
      exact left_fromW hW ⟨S, ⟨_, r1⟩, q2.trans r2 (fun _ q _ => q), fun _ hk => .inl hk⟩
    clear h p1 p2 p3 hz ok eH eL
    generalize L.set i { L[i] with last := now, lost := false } = L2 at *
    generalize L[i] = x at *
    obtain ⟨x0, x1, x2, x3⟩ := x
    go_enter Try.func13, Try.ntmps13
    go_wp2_with fail
    refine FI.out.mono ?_
    rintro e w1 ⟨rfl, B1⟩
    obtain ⟨c0, c1, c2, c3⟩ := HA.out w1 B1
    simp only at c0 c1 c2 c3
    have f2 := HF.out w1 B1 (i * 4 + 2)
    have f3 := HF.out w1 B1 (i * 4 + 3)
    have PH := Hid.intro (PU.out w1 B1)
    clear FI B1 HA HF PU c0 c1
    go_wp2
    go_ret
    exact ⟨rfl, PH.out⟩

set_option maxRecDepth 100000 in
set_option maxHeartbeats 1000000 in
theorem wsilent_any (g o : Nat) (now last most : Int) (h0 : 0 ≤ now) (h1 : now ≤ 1099511627776) (h2 : 0 ≤ last) (h3 : last ≤ 1099511627776) (h4 : 1 ≤ most) (h5 : most ≤ 1000) (w : World) (c1 : w.cell? ⟨g, o + 1, none⟩ = some (.int .i64 most)) (c2 : w.cell? ⟨g, o + 2, none⟩ = some (.int .i64 last)) :
    Calls Try.prog 30 #[.pointer (some ⟨g, o, none⟩), .int .i64 now] w fun e w' => e = .returned (.bool (decide (last + most < now))) ∧ Below w.heap.size w w' := by
  by_cases q : last < now
  · have e1 : IntKind.u64.wrap now = now := by unfold IntKind.wrap; simp [IntKind.bits, IntKind.signed]; omega
    have e2 : IntKind.u64.wrap last = last := by unfold IntKind.wrap; simp [IntKind.bits, IntKind.signed]; omega
    have e3 : IntKind.u64.wrap most = most := by unfold IntKind.wrap; simp [IntKind.bits, IntKind.signed]; omega
    have e4 : IntKind.u64.wrap (now - last) = now - last := by unfold IntKind.wrap; simp [IntKind.bits, IntKind.signed]; omega
    have e5 : decide (last + most < now) = decide (most < now - last) := by
      by_cases r : last + most < now
      · rw [decide_eq_true r, decide_eq_true (by omega)]
      · rw [decide_eq_false r, decide_eq_false (by omega)]
    rw [e5]
    clear e5
    go_enter Try.func30, Try.ntmps30
    go_wp2_with fail
    go_quiet (fail)
    go_wp2
    go_ret
    exact ⟨rfl, below_drewN (Below.refl _ w) _⟩
  · rw [decide_eq_false (by omega : ¬ last + most < now)]
    go_enter Try.func30, Try.ntmps30
    go_wp2_with fail
    have q2 : ¬ last < now := by omega
    go_quiet (fail)
    go_wp2
    go_ret
    exact ⟨rfl, below_drewN (Below.refl _ w) _⟩

end Go.Proofs.Ytngfgahdiobcmaa
