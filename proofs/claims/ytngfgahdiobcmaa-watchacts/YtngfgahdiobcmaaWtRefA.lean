/- The document's own answer of layer 15: Lost, Heard, Beds, Look. -/
import Derived.Test.YtngfgahdiobcmaaWtRT
import Derived.BigQuiet
namespace Go.Proofs.Ytngfgahdiobcmaa
open Go.RowKit
open Bt

set_option maxRecDepth 100000 in
set_option maxHeartbeats 1000000 in
theorem refLost15_any (b : Nat) (bed : Int) (S : Nat → Prop) (L : List Wb) (w : World) (h : WR b L S w) :
    Calls Try.prog 23 #[.pointer (some ⟨b, 0, none⟩), .int .i64 bed] w fun e w' => e = .returned (.bool (lostWb L bed)) ∧ Below w.heap.size w w' := by
  obtain ⟨v, h⟩ := h
  have FI := Hid.intro (refFind15_any b bed S v L w h)
  rcases posP_ways (isWb bed) L with ⟨p1, p2, _⟩ | ⟨i, hi, p1, p2, p3⟩
  · rw [p1] at FI
    unfold lostWb
    rw [p2]
    clear h p1 p2
    go_enter Try.func23, Try.ntmps23
    go_wp2_with fail
    refine FI.out.mono ?_
    rintro e w1 ⟨rfl, rfl⟩
    clear FI
    go_wp2
    go_ret
    exact ⟨rfl, Below.refl _ _⟩
  · rw [p1] at FI
    unfold lostWb
    rw [p2]
    show Calls Try.prog _ _ w fun e w' => e = .returned (.bool L[i].lost) ∧ Below w.heap.size w w'
    have c0 := h.cells.1
    obtain ⟨ao, c, rfl, hz⟩ := ownsRow_form h.own
    obtain ⟨g, rfl⟩ := hz.resolve_left (by omega)
    have c3 := (wb_at h.own hi).2.2.2
    have i0 : (0 : Int) ≤ (i : Int) := by omega
    have i1 : (i : Int) < (L.length : Int) := by omega
    clear h p1 p2 hz p3
    generalize L[i].lost = r at *
    clear hi
    generalize L.length = n at *
    go_enter Try.func23, Try.ntmps23
    go_wp2_with fail
    refine FI.out.mono ?_
    rintro e w1 ⟨rfl, rfl⟩
    clear FI
    go_wp2
    go_ret
    exact ⟨rfl, Below.refl _ _⟩

set_option maxRecDepth 100000 in
set_option maxHeartbeats 1000000 in
theorem refHeard15_any (b : Nat) (bed now : Int) (ht : timeWb now) (S : Nat → Prop) (L : List Wb) (w : World) (h : WR b L S w) :
    Calls Try.prog 20 #[.pointer (some ⟨b, 0, none⟩), .int .i64 bed, .int .i64 now] w fun e w' => e = .returned (.bool (lostWb L bed)) ∧ LeftG (WR b (heardWt L bed now)) S w w' := by
  obtain ⟨v, h⟩ := h
  have FI := Hid.intro (refFind15_any b bed S v L w h)
  rcases posP_ways (isWb bed) L with ⟨p1, p2, p3⟩ | ⟨i, hi, p1, p2, p3⟩
  · rw [p1] at FI
    unfold lostWb
    rw [p2, heard_none now p3]
    have HS := Hid.intro (h.same (Below.refl _ w))
    clear h p1 p2 p3
    go_enter Try.func20, Try.ntmps20
    go_wp2_with fail
    refine FI.out.mono ?_
    rintro e w1 ⟨rfl, rfl⟩
    clear FI
    go_wp2
    go_ret
    exact ⟨rfl, HS.out⟩
  · rw [p1] at FI
    have ok := heardWt_ok h.ok bed now ht
    have eH : heardWt L bed now = L.set i { L[i] with last := now, lost := false } := map_placeW h.ok.once hi p3 (fun x => { x with last := now, lost := false })
    have eL : lostWb L bed = L[i].lost := by unfold lostWb; rw [p2]
    rw [eH] at ok
    rw [eH, eL]
    have k0 := h.cells.1
    obtain ⟨ao, c, rfl, hz⟩ := ownsRow_form h.own
    obtain ⟨g, rfl⟩ := hz.resolve_left (by omega)
    obtain ⟨c0, c1, c2, c3⟩ := wb_at h.own hi
    have f2 := frozen_own15 h.own (i * 4 + 2)
    have e1 : L.set i { L[i] with last := now } = L.map (fun x => if isWb bed x = true then { x with last := now } else x) := (map_placeW h.ok.once hi p3 (fun x => { x with last := now })).symm
    have ok1 : OkWb (L.set i { L[i] with last := now }) := by
      rw [e1]
      exact map_okW h.ok _ (fun x => by split <;> rfl) (fun x => by split <;> rfl) (fun x hx => by
        split
        · exact ht
        · exact h.ok.last x hx)
    obtain ⟨q1, q2⟩ := h.put (k := 2) (y := { L[i] with last := now }) (u := .int .i64 now) hi (by omega) rfl ok1
    have hi2 : i < (L.set i { L[i] with last := now }).length := by simpa using hi
    have k1 := q1.cells.1
    have own1 := q1.own
    rw [List.length_set] at own1
    have c3' := (wb_at own1 (by simpa using hi) (t := i)).2.2.2
    rw [List.getElem_set_self] at c3'
    have f3 := frozen_own15 own1 (i * 4 + 3)
    obtain ⟨r1, r2⟩ := q1.put (k := 3) (y := { L[i] with last := now, lost := false }) (u := .bool false) hi2 (by omega) (by simp [wcell15]) (by rw [List.set_set]; exact ok)
    rw [List.set_set] at r1
    have FN : Hid (LeftG (WR b (L.set i { L[i] with last := now, lost := false })) S w ((w.setCell ⟨g, i * 4 + 2, none⟩ (.int .i64 now)).setCell ⟨g, i * 4 + 3, none⟩ (.bool false))) := ⟨S, ⟨_, r1⟩, q2.trans r2 (fun _ q _ => q), fun _ hk => .inl hk⟩
    have i0 : (0 : Int) ≤ (i : Int) := by omega
    have i1 : (i : Int) < (L.length : Int) := by omega
    have i2 : ¬ (i : Int) < 0 := by omega
    clear h p1 p2 p3 hz ok eH eL e1 ok1 q1 q2 hi2 own1 r1 r2 c0 c1
    generalize L.set i { L[i] with last := now, lost := false } = L2 at *
    generalize L[i] = x at *
    obtain ⟨x0, x1, x2, x3⟩ := x
    simp only at c2 c3 c3'
    clear hi
    generalize L.length = n at *
    go_enter Try.func20, Try.ntmps20
    go_wp2_with fail
    refine FI.out.mono ?_
    rintro e w1 ⟨rfl, rfl⟩
    clear FI
    go_wp2
    go_ret
    exact ⟨rfl, FN.out⟩

set_option maxRecDepth 100000 in
set_option maxHeartbeats 1000000 in
theorem refBeds15_any (b : Nat) (S : Nat → Prop) (L : List Wb) (w : World) (h : WR b L S w) :
    Calls Try.prog 24 #[.pointer (some ⟨b, 0, none⟩)] w fun e w' => ∃ v', e = .returned v' ∧ NumsAt (fun k => w.heap.size ≤ k ∧ k < w'.heap.size) w' v' (bedsWb L) ∧ Below w.heap.size w w' := by
  obtain ⟨v, h⟩ := h
  have hf := h.ok.few
  obtain ⟨ao, c, rfl, hz⟩ := ownsRow_form h.own
  have HK := Hid.intro (fun (W : World) (hW : Below w.heap.size w W) => (h.below hW).cells.1)
  have HA := Hid.intro (fun (W : World) (hW : Below w.heap.size w W) t (ht : t < L.length) (g : Nat) (e : ao = some ⟨g, 0, none⟩) => (show W.cell? ⟨g, t * 4, none⟩ = some (.int .i64 L[t].bed) from by subst e; exact (wb_at (h.below hW).own ht).1))
  have HZ := Hid.intro hz
  have EL := Hid.intro elem_int15
  obtain ⟨n, hn⟩ : ∃ n, n = L.length := ⟨_, rfl⟩
  have HN := Hid.intro hn
  rw [← hn] at HK hf
  clear h hz hn
  go_enter Try.func24, Try.ntmps24
  go_wp2_with fail
  go_loopw [3, 4] (fun ov iv ws => ∃ t : Nat, t ≤ n ∧ iv = .int .i64 t ∧ Below w.heap.size w ws ∧ ws.ownsRow 0 3 1 ov t ((bedsWb (L.take t)).map Iv15) ∧ ∀ k, ov.ownBlock = some k → w.heap.size ≤ k) (fun _ iv _ => n - (intOf iv).toNat)
  case atStart => exact ⟨0, by omega, rfl, Below.refl _ _, own_noneR _ _ _, (fun k hk => by cases hk)⟩
  case round =>
    obtain ⟨t, ht, rfl, hB, hO, hG⟩ := hrel
    have k0 := HK.out wr hB
    have BH := Hid.intro hB
    have OH := Hid.intro hO
    have GH := Hid.intro hG
    by_cases hlt : t < n
    · have hlt' : t < L.length := by rw [← HN.out]; exact hlt
      obtain ⟨g, hg⟩ := HZ.out.resolve_left (by have := HN.out; omega)
      have c0 := HA.out wr hB t hlt' g hg
      have NX : Hid ((bedsWb (L.take (t + 1))).map Iv15 = (bedsWb (L.take t)).map Iv15 ++ [Iv15 L[t].bed]) := by
        rw [Hid]
        unfold bedsWb
        rw [List.take_succ_eq_append_getElem hlt', List.map_append, List.map_append]
        rfl
      subst hg
      have t0 : (0 : Int) ≤ (t : Int) := by omega
      have t1 : (t : Int) < (n : Int) := by omega
      generalize L[t].bed = x at *
      have BA := (Below.refl wr.heap.size wr).alloc (Nat.le_refl _) (.cells #[.int .i64 x] 3)
      have O1 := Hid.intro (ownsRow_keep hO fun k hk => BA.block k (World.ownsRow.lt hO k hk).2)
      have B2 := Hid.intro (hB.trans (BA.mono hB.size))
      generalize (bedsWb (L.take t)).map Iv15 = xs at *
      clear hB hO hG BA
      go_wp2_with (at_builtin; refine append_row (by rfl) _ _ EL.out (by rfl) u3 t xs (by rfl) O1.out (.slice (some ⟨wr.heap.size, 0, none⟩) 1 1) 1 [Iv15 x] (by rfl) (src_block (ys := [Iv15 x]) (heap_alloc_new wr _) rfl) (fun z hz => by rw [List.mem_singleton.1 hz]; rfl) (by omega) ?_; intro v' wb hown hgrow hat; obtain ⟨z1, z2⟩ := grownR hgrow hat B2.out (Nat.le_refl _) GH.out; have Z1 := Hid.intro z1; have Z2 := Hid.intro z2; have Z3 := Hid.intro hown; clear hown hgrow hat z1 z2 k0 c0)
      go_roundw
      case rel => exact ⟨t + 1, by omega, by go_num, Z1.out, by rw [NX.out]; exact Z3.out, Z2.out⟩
      case measure => simp [intOf]; omega
    · obtain rfl : t = n := by omega
      have t1 : ¬ (t : Int) < (t : Int) := by omega
      clear hB hO hG
      go_wp2
      go_ret
      have ow := OH.out
      rw [HN.out, List.take_length] at ow
      have e : L.length = (bedsWb L).length := by simp [bedsWb]
      exact ⟨_, rfl, nums_own15 e ow (fun k hk => ⟨GH.out k hk, (World.ownsRow.lt ow k hk).2⟩), BH.out⟩

end Go.Proofs.Ytngfgahdiobcmaa
