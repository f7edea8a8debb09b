/- The document's own answer of layer 14: Beyond, On. -/
import Derived.Test.YtcloneccfbcclaaLmRT
import Derived.Deep.RegionHeld3
namespace Go.Proofs.Ytcloneccfbcclaa
open Go.RowKit
open Bt

theorem row_atR {w : World} {n c g : Nat} {l : List Int} (h : w.ownsRow 0 3 1 (.slice (some ⟨g, 0, none⟩) n c) n (l.map Iv)) {i : Nat} (hi : i < l.length) : w.cell? ⟨g, i, none⟩ = some (.int .i64 l[i]) := by
  have hl : l.length = n := by have := h.1; simpa using this
  rw [h.cellAt i (by omega)]
  simp [hi]

theorem bey_at {zs : List Rz} {bed kind : Int} {i : Nat} {hi : i < (kpsR zs).length} (h : findK (kpsR zs) bed kind = some (kpsR zs)[i]) : ∃ hz : i < zs.length, beyK (kpsR zs) bed kind = outN zs[i].lm zs[i].vs ∧ onK (kpsR zs) bed kind = decide (zs[i].lm.cnt ≤ (outN zs[i].lm zs[i].vs : Int)) := by
  have hz : i < zs.length := by rw [← kps_len]; exact hi
  have e : (kpsR zs)[i] = kpR zs[i] := by simp [kpsR]
  rw [e] at h
  exact ⟨hz, by unfold beyK; rw [h]; rfl, by unfold onK; rw [h]; rfl⟩

set_option maxRecDepth 100000 in
set_option maxHeartbeats 2000000 in
theorem refBey14_any (b : Nat) (bed kind : Int) (S : Nat → Prop) (vL vV : Value) (zs : List Rz) (m : Nat) (hm : m ≤ 100000) (w : World) (h : RT S w b vL vV zs m) :
    Calls Try.prog 24 #[.pointer (some ⟨b, 0, none⟩), .int .i64 bed, .int .i64 kind] w fun e w' => e = .returned (.int .i64 (beyK (kpsR zs) bed kind : Int)) ∧ Below w.heap.size w w' := by
  have FI := Hid.intro (refFind14_any b bed kind S vL vV zs m w h)
  rcases posK_ways (kpsR zs) bed kind with ⟨e1, e2⟩ | ⟨i, hi, e1, e2, e9⟩
  · have e3 : beyK (kpsR zs) bed kind = 0 := by simp [beyK, e2]
    rw [e3]
    rw [e1] at FI
    clear h e1 e2 e3
    go_enter Try.func24, Try.ntmps24
    go_wp2_with fail
    refine FI.out.mono ?_
    rintro e w2 ⟨rfl, rfl⟩
    go_wp2
    go_ret
    exact ⟨rfl, Below.refl _ _⟩
  · obtain ⟨hz, e3, e8⟩ := bey_at e2
    rw [e3]
    rw [e1] at FI
    clear e1 e2 e3 e8 e9
    have hf := h.ok.few
    rw [kps_len] at hf
    have c0 := h.cells.1
    have c1 := h.cells.2.1
    have hv := h.few zs[i] (List.getElem_mem hz)
    have iv := (h.iv zs[i] (List.getElem_mem hz)).1
    obtain ⟨aL, cL, rfl, zL⟩ := ownsRow_form h.ol
    obtain ⟨aV, cV, rfl, zV⟩ := ownsRow_form h.ov
    obtain ⟨gL, rfl⟩ := zL.resolve_left (by omega)
    obtain ⟨gV, rfl⟩ := zV.resolve_left (by omega)
    obtain ⟨d0, d1, d2, d3, d4⟩ := h.limAt hz rfl
    clear d0 d1 d4
    have dv := h.valAt hz rfl
    generalize zs[i].v = v at *
    obtain ⟨ao, cc, rfl, zz⟩ := ownsRow_form iv
    have HV := Hid.intro (fun p (hp : p < zs[i].vs.length) (g : Nat) (e : ao = some ⟨g, 0, none⟩) => (show w.cell? ⟨g, p, none⟩ = some (.int .i64 zs[i].vs[p]) from by subst e; exact row_atR iv hp))
    have HZ := Hid.intro zz
    have OE := Hid.intro (outN_eq zs[i].lm zs[i].vs)
    obtain ⟨O, hO⟩ : ∃ O, O = outN zs[i].lm zs[i].vs := ⟨_, rfl⟩
    have OL := outN_le zs[i].lm zs[i].vs
    rw [← hO] at OE OL ⊢
    have OK := Hid.intro (fun v => show outK zs[i].lm v = (decide (v < zs[i].lm.lo) || decide (zs[i].lm.hi < v)) from rfl)
    generalize zs[i].lm = l at *
    generalize zs[i].vs = vs at *
    have i0 : (0 : Int) ≤ (i : Int) := by omega
    have i1 : (i : Int) < (zs.length : Int) := by omega
    generalize zs.length = n at *
    generalize l.lo = lo at *
    generalize l.hi = hh at *
    obtain ⟨N, hN⟩ : ∃ N, N = vs.length := ⟨_, rfl⟩
    have HN := Hid.intro hN
    rw [← hN] at dv hv HZ OL
    clear h hO iv zz zL zV hN hi hz
    go_enter Try.func24, Try.ntmps24
    go_wp2_with fail
    refine FI.out.mono ?_
    rintro e w2 ⟨rfl, rfl⟩
    clear FI
    go_wp2_with fail
    go_loopw [8, 9] (fun nv kv ws => ∃ (t q : Nat), t ≤ N ∧ nv = .int .i64 t ∧ kv = .int .i64 ((N : Int) - 1 - t) ∧ (∀ j, (hj : j < vs.length) → vs.length ≤ j + t → outK l vs[j] = true) ∧ ws = w.drewN q) (fun nv _ _ => N - (intOf nv).toNat)
    case atStart => exact ⟨0, 0, by omega, rfl, by go_num, fun j hj q => by omega, rfl⟩
    case round =>
      obtain ⟨t, q, ht, rfl, rfl, hah, hwr⟩ := hrel
      have AH := Hid.intro hah
      have HWR := Hid.intro hwr
      have BR : Hid (Below w.heap.size w wr) := by rw [Hid, hwr]; exact ⟨rfl, rfl, rfl, Nat.le_refl _, fun _ _ => rfl⟩
      have r0 : wr.cell? ⟨b, 0, none⟩ = some (.slice (some ⟨gL, 0, none⟩) n cL) := by rw [hwr]; exact c0
      have r1 : wr.cell? ⟨b, 1, none⟩ = some (.slice (some ⟨gV, 0, none⟩) n cV) := by rw [hwr]; exact c1
      have r2 : wr.cell? ⟨gL, i * 5 + 2, none⟩ = some (.int .i64 lo) := by rw [hwr]; exact d2
      have r3 : wr.cell? ⟨gL, i * 5 + 3, none⟩ = some (.int .i64 hh) := by rw [hwr]; exact d3
      have rv : wr.cell? ⟨gV, i, none⟩ = some (.slice ao N cc) := by rw [hwr]; exact dv
      clear hah hwr
      by_cases hlt : t < N
      · obtain ⟨p, hp⟩ : ∃ p : Nat, p + t + 1 = N := ⟨N - 1 - t, by omega⟩
        have hpv : p < vs.length := by rw [← HN.out]; omega
        obtain ⟨gn, rfl⟩ := HZ.out.resolve_left (by omega)
        have rn : wr.cell? ⟨gn, p, none⟩ = some (.int .i64 vs[p]) := by rw [HWR.out]; exact HV.out p hpv gn rfl
        have ek : (N : Int) - 1 - (t : Int) = (p : Int) := by omega
        rw [ek]
        have p0 : (0 : Int) ≤ (p : Int) := by omega
        have p1 : (p : Int) < (N : Int) := by omega
        have VO := OK.out vs[p]
        have NX : Hid (outK l vs[p] = true → ∀ j, (hj : j < vs.length) → vs.length ≤ j + (t + 1) → outK l vs[j] = true) := fun h1 j hj h2 => by
          by_cases e : j = p
          · subst e; exact h1
          · exact AH.out j hj (by have := HN.out; omega)
        have ST : Hid (outK l vs[p] = false → O = t) := fun h1 => by
          refine OE.out t (by rw [← HN.out]; omega) AH.out (fun hj => ?_)
          have e : vs.length - 1 - t = p := by have := HN.out; omega
          simp only [e]
          exact h1
        have KN : Hid ((p : Int) - 1 = (N : Int) - 1 - ((t + 1 : Nat) : Int)) := by show _ = _; omega
        clear ek c0 c1 d2 d3 dv
        generalize vs[p] = a at *
        by_cases h1 : a < lo
        · have nx := Hid.intro (NX.out (by rw [VO]; simp [h1]))
          clear VO NX ST
          go_wp2_with fail
          go_quiet (fail)
          go_wp2
          go_roundw
          case rel => exact ⟨t + 1, q + nq, by omega, by go_num, by rw [← KN.out], nx.out, by rw [HWR.out]; simp [World.drewN, Nat.add_assoc]⟩
          case measure => simp [intOf]; omega
        · by_cases h2 : hh < a
          · have nx := Hid.intro (NX.out (by rw [VO]; simp [h2]))
            clear VO NX ST
            go_wp2_with fail
            go_quiet (fail)
            go_wp2
            go_roundw
            case rel => exact ⟨t + 1, q + nq, by omega, by go_num, by rw [← KN.out], nx.out, by rw [HWR.out]; simp [World.drewN, Nat.add_assoc]⟩
            case measure => simp [intOf]; omega
          · have st := Hid.intro (ST.out (by rw [VO]; simp [h1, h2]))
            clear VO NX ST
            go_wp2_with fail
            go_quiet (fail)
            go_wp2
            go_ret
            exact ⟨by rw [st.out]; rfl, ⟨BR.out.os, BR.out.tape, BR.out.output, BR.out.size, BR.out.block⟩⟩
      · obtain rfl : t = N := by omega
        have ek : (t : Int) - 1 - (t : Int) = -1 := by omega
        rw [ek]
        have st : Hid (O = t) := OE.out t (by rw [← HN.out]; omega) AH.out (fun hj => by have := HN.out; omega)
        clear ek c0 c1 d2 d3 dv
        go_wp2_with fail
        go_quiet (fail)
        go_wp2
        go_ret
        exact ⟨by rw [st.out]; rfl, ⟨BR.out.os, BR.out.tape, BR.out.output, BR.out.size, BR.out.block⟩⟩

end Go.Proofs.Ytcloneccfbcclaa
