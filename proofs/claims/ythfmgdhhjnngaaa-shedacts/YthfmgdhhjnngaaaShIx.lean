/- Package shed: the closures that look at a bed, slices.IndexFunc, find. -/
import Derived.Test.YthfmgdhhjnngaaaShK1
namespace Go.Proofs.Ythfmgdhhjnngaaa
open Go.RowKit
open Bt

theorem hfind1_any (q : Nat) (s : Sd) (bed : Int) (bt : Nat) (w : World) (h : SdAt w q s) (hc : w.cell? ⟨bt, 0, none⟩ = some (.int .i64 bed)) :
    Calls Try.prog 34 #[Pv q, Pv bt] w fun e w' => e = .returned (.bool (isBedS bed s)) ∧ Below w.heap.size w w' := by
  obtain ⟨c0, _, _, _⟩ := h.cells
  unfold isBedS
  generalize s.bed = y at *
  clear h
  go_enter Try.func34, Try.ntmps34
  go_wp2_with fail
  go_quiet (fail)
  go_wp2
  go_ret
  exact ⟨rfl, ⟨rfl, rfl, rfl, Nat.le_refl _, fun _ _ => rfl⟩⟩

theorem hput1_any (q : Nat) (s : Sd) (prio : Int) (bt : Nat) (w : World) (h : SdAt w q s) (hc : w.cell? ⟨bt, 0, none⟩ = some (.int .i64 prio)) :
    Calls Try.prog 35 #[Pv q, Pv bt] w fun e w' => e = .returned (.bool (lessS prio s)) ∧ Below w.heap.size w w' := by
  obtain ⟨_, c1, _, _⟩ := h.cells
  unfold lessS
  generalize s.prio = y at *
  clear h
  go_enter Try.func35, Try.ntmps35
  go_wp2_with fail
  go_quiet (fail)
  go_wp2
  go_ret
  exact ⟨rfl, ⟨rfl, rfl, rfl, Nat.le_refl _, fun _ _ => rfl⟩⟩

set_option maxRecDepth 100000 in
set_option maxHeartbeats 1000000 in
theorem hindex_any (F : Nat) (hF : F = 34 ∨ F = 35) (p : Sd → Bool) (bt : Nat) (zs : List (Nat × Sd)) (hl : zs.length ≤ 100) (v : Value) (w : World)
    (hcl : ∀ W, Below w.heap.size w W → ∀ z ∈ zs, Calls Try.prog F #[Pv z.1, Pv bt] W fun e w' => e = .returned (.bool (p z.2)) ∧ Below W.heap.size W w')
    (own : w.ownsRow 0 55 1 v zs.length (pcells zs)) :
    Calls Try.prog 33 #[v, .func (.func F) #[] #[Pv bt]] w fun e w' => e = .returned (.int .i64 (posS p (zs.map Prod.snd))) ∧ Below w.heap.size w w' := by
  obtain ⟨ao, c, rfl, hz⟩ := ownsRow_form own
  have HS := Hid.intro (fun t (ht : t < zs.length) (g : Nat) (e : ao = some ⟨g, 0, none⟩) => (show w.cell? ⟨g, t, none⟩ = some (Pv zs[t].1) from by subst e; rw [own.cellAt t (by omega)]; exact pcells_at ht))
  have HC := Hid.intro hcl
  have HZ := Hid.intro hz
  obtain ⟨P, hP⟩ : ∃ P, P = posS p (zs.map Prod.snd) := ⟨_, rfl⟩
  have HQ := Hid.intro hP
  obtain ⟨L, hL⟩ : ∃ L, L = zs.length := ⟨_, rfl⟩
  have HL := Hid.intro hL
  rw [← hP, ← hL]
  have hl' : L ≤ 100 := by omega
  clear own hcl hP hz hL hl
  have main : ∀ G : Nat, G = F → Calls Try.prog 33 #[.slice ao L c, .func (.func F) #[] #[Pv bt]] w fun e w' => e = .returned (.int .i64 P) ∧ Below w.heap.size w w' := fun _ _ => by
    rcases hF with rfl | rfl
    all_goals
      go_enter Try.func33, Try.ntmps33
      go_wp2_with fail
      go_loopw [8] (fun i ws => ∃ t : Nat, t ≤ L ∧ i = .int .i64 t ∧ Below w.heap.size w ws ∧ ∀ j, (hj : j < zs.length) → j < t → p zs[j].2 = false) (fun i _ => L - (intOf i).toNat)
      case atStart => exact ⟨0, by omega, rfl, Below.refl _ w, fun j _ hj => absurd hj (Nat.not_lt_zero _)⟩
      case round =>
        obtain ⟨t, ht, rfl, hB, hno⟩ := hrel
        have HNO := Hid.intro hno
        have BH := Hid.intro hB
        clear hno
        by_cases hlt : t < L
        · have hlt' : t < zs.length := by rw [← HL.out]; exact hlt
          obtain ⟨g, rfl⟩ := HZ.out.resolve_left (by omega)
          have c0 : wr.cell? ⟨g, t, none⟩ = some (Pv zs[t].1) := cell_chg (below_chg hB) (HS.out t hlt' g rfl) id
          have CL := Hid.intro (HC.out wr hB zs[t] (List.getElem_mem hlt'))
          have HIT : Hid (p zs[t].2 = true → P = (t : Int)) := fun e => by
            rw [HQ.out]
            exact posS_hit (by simpa using hlt') (by simpa using e) (fun j hj => by simpa using HNO.out j (by omega) hj)
          have NXT := Hid.intro (fun (e : p zs[t].2 = false) j (hj : j < zs.length) (h : j < t + 1) => (show p zs[j].2 = false from by
            by_cases q : j < t
            · exact HNO.out j hj q
            · obtain rfl : j = t := by omega
              exact e))
          have t1 : (t : Int) < (L : Int) := by omega
          have t0 : (0 : Int) ≤ (t : Int) := by omega
          generalize p zs[t].2 = r at *
          generalize zs[t].1 = q at *
          clear hB
          cases r with
          | true =>
            have HP := Hid.intro (HIT.out rfl)
            clear HIT NXT
            go_wp2_with fail
            refine CL.out.mono ?_
            rintro e w3 ⟨rfl, B3⟩
            have B3w := Hid.intro (BH.out.trans (B3.mono BH.out.size))
            clear CL B3 BH c0
            go_wp2
            go_ret
            exact ⟨by rw [HP.out]; rfl, B3w.out⟩
          | false =>
            have NX := Hid.intro (NXT.out rfl)
            clear HIT NXT
            go_wp2_with fail
            refine CL.out.mono ?_
            rintro e w3 ⟨rfl, B3⟩
            have B3w := Hid.intro (BH.out.trans (B3.mono BH.out.size))
            clear CL B3 BH c0 HNO
            go_wp2
            go_roundw
            case rel => exact ⟨t + 1, by omega, by go_num, B3w.out, NX.out⟩
            case measure => simp [intOf]; omega
        · obtain rfl : t = L := by omega
          have t1 : ¬ (t : Int) < (t : Int) := by omega
          have HP : Hid (P = -1) := by
            rw [Hid, HQ.out]
            exact posS_miss (fun j hj => by have hj' : j < zs.length := by (simpa using hj)
                                            simpa using HNO.out j hj' (by have := HL.out; omega))
          go_wp2
          go_ret
          exact ⟨by rw [HP.out]; rfl, BH.out⟩
  exact main F rfl

theorem hfind_any (b : Nat) (bed : Int) (S : Nat → Prop) (v : Value) (zs : List (Nat × Sd)) (x : Ctl) (w : World) (h : CS S w b v zs x) :
    Calls Try.prog 25 #[.pointer (some ⟨b, 0, none⟩), .int .i64 bed] w fun e w' => e = .returned (.int .i64 (posS (isBedS bed) x.beds)) ∧ Below w.heap.size w w' := by
  have BA := (Below.refl _ w).alloc (Nat.le_refl _) (.cells #[.int .i64 bed] 3)
  have h2 := h.below BA
  have nb := heap_alloc_new w (.cells #[.int .i64 bed] 3)
  have k0 : (w.alloc (.cells #[.int .i64 bed] 3)).cell? ⟨w.heap.size, 0, none⟩ = some (.int .i64 bed) := by rw [cell_of_row _ _ 0 _ _ _ nb]; rfl
  have IX := hindex_any 34 (.inl rfl) (isBedS bed) w.heap.size zs (by have := h.few; omega) v _ (fun W hW z hz => hfind1_any z.1 z.2 bed w.heap.size W ((h2.each z hz).below hW) (cell_chg (below_chg hW) k0 id)) h2.own
  rw [← h.beds] at IX
  have c2 := h2.cells.2.2.1
  have BH := Hid.intro BA
  have IH := Hid.intro IX
  obtain ⟨ao, c, rfl, _⟩ := h.form
  generalize posS (isBedS bed) x.beds = P at *
  clear h h2 IX BA nb k0
  go_enter Try.func25, Try.ntmps25
  go_wp2_with fail
  refine IH.out.mono ?_
  rintro e w3 ⟨rfl, B3⟩
  have B4 := Hid.intro (BH.out.trans (B3.mono BH.out.size))
  clear B3 BH IH c2
  go_wp2
  go_ret
  exact ⟨rfl, B4.out⟩

end Go.Proofs.Ythfmgdhhjnngaaa
