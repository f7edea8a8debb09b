/- The document's Parts, of lists that are alike. -/
import Derived.Test.YtceekoifljeddaaCoPart
import Derived.Test.YtceekoifljeddaaRefSame
import Derived.Test.YtceekoifljeddaaMRs
import Derived.Deep.RegionHeld3
namespace Go.Proofs.Ytceekoifljeddaa
open Go.RowKit
open Bt

set_option maxRecDepth 100000 in
set_option maxHeartbeats 1000000 in
theorem refParts_true (B B' : Nat) (va vb : Value) (ps : List Prt) (hn : ps.length ≤ 1000) (hl : ∀ t, (ht : t < ps.length) → ps[t].data.length ≤ 100000) (w : World) (ha : PartsAt B w va ps) (hb : PartsAt B' w vb ps) :
    Calls Try.prog 22 #[va, vb] w fun e w' => e = .returned (.bool true) ∧ Below w.heap.size w w' := by
  obtain ⟨ao, ca, rfl, ha⟩ := ha
  obtain ⟨bo, cb, rfl, hb⟩ := hb
  have HA := Hid.intro ha
  have HB := Hid.intro hb
  have HL := Hid.intro hl
  obtain ⟨n, hnn⟩ : ∃ n, n = ps.length := ⟨_, rfl⟩
  rw [← hnn] at hn ⊢
  have HN := Hid.intro hnn
  clear ha hb hl hnn
  go_enter Try.func22, Try.ntmps22
  go_wp2_with fail
  go_loopw [5] (fun i wr => ∃ t : Nat, t ≤ n ∧ i = .int .i64 t ∧ Below w.heap.size w wr) (fun i _ => n - (intOf i).toNat)
  case atStart => exact ⟨0, by omega, rfl, Below.refl _ _⟩
  case round =>
    obtain ⟨t, ht, rfl, hB⟩ := hrel
    have HBW := Hid.intro hB
    by_cases hlt : t < n
    · have hlt' : t < ps.length := by rw [← HN.out]; exact hlt
      obtain ⟨pa, oa, rfl, _, ra⟩ := HA.out (by omega)
      obtain ⟨pb, ob, rfl, _, rb⟩ := HB.out (by omega)
      obtain ⟨a1, c1, x0, x1, x2, xr, xm, xn⟩ := ra t hlt'
      obtain ⟨a2, c2, y0, y1, y2, yr, ym, yn⟩ := rb t hlt'
      replace x0 := cellK hB x0
      replace x1 := cellK hB x1
      replace x2 := cellK hB x2
      replace y0 := cellK hB y0
      replace y1 := cellK hB y1
      replace y2 := cellK hB y2
      have hL := HL.out t hlt'
      have SM := Hid.intro (same_true a1 a2 c1 c2 ps[t].data (by omega) wr.drew (xr.below (hB.drew)) (yr.below (hB.drew)))
      generalize ps[t].group = gr at x0 y0
      generalize ps[t].gap = gp at x1 y1
      generalize ps[t].data.length = L at x2 y2 hL SM
      have t0 : (0 : Int) ≤ (t : Int) := by omega
      have t1 : (t : Int) < (n : Int) := by omega
      have hne : ((gr : Int) != (gr : Int)) = false := by simp
      clear xm xn ym yn hB ra rb xr yr hlt'
      go_wp2_with fail
      go_region_held3 (fun w' => w'.cell? ⟨pa, oa + t * 3, none⟩ = some (.int .i64 (gr : Int)) ∧ w'.cell? ⟨pa, oa + t * 3 + 1, none⟩ = some (.bool gp) ∧ w'.cell? ⟨pa, oa + t * 3 + 2, none⟩ = some (.slice a1 L c1) ∧ w'.cell? ⟨pb, ob + t * 3, none⟩ = some (.int .i64 (gr : Int)) ∧ w'.cell? ⟨pb, ob + t * 3 + 1, none⟩ = some (.bool gp) ∧ w'.cell? ⟨pb, ob + t * 3 + 2, none⟩ = some (.slice a2 L c2))
        (first | exact ⟨cellK E6 x0, cellK E6 x1, cellK E6 x2, cellK E6 y0, cellK E6 y1, cellK E6 y2⟩ | go_keep)
        ((go_at_call 27; refine SM.out.mono ?_; rintro e w6 ⟨rfl, q6, hw6⟩; have E6 : Below wr.heap.size wr w6 := (by rw [hw6]; exact belowN (Below.refl _ wr).drew q6); clear hw6))
      all_goals
        have B6 := Hid.intro (HBW.out.trans (E6.mono HBW.out.size))
        clear E6 x0 x1 x2 y0 y1 y2 SM
        go_wp2
        go_roundw
        case rel => exact ⟨t + 1, by omega, by go_num, B6.out⟩
        case measure => simp [intOf]; omega
    · obtain rfl : n = t := by omega
      have t1 : ¬ (n : Int) < (n : Int) := by omega
      clear hB
      go_wp2
      go_ret
      exact ⟨rfl, HBW.out⟩

end Go.Proofs.Ytceekoifljeddaa
