/- Package roam: slices.Clone of those that are followed, List. -/
import Derived.Test.YtohedeeajcdjcaaDoorRoK5
import Derived.Laws.AppendOwnNone
import Derived.Lib.SliceRun
namespace Go.Proofs.YtohedeeajcdjcaaDoor
open Go.RowKit
open Bt

variable {S : Nat → Prop} {w w' : World} {b : Nat} {v : Value} {x : Tab}

/-- The row of '[]Seen{}'. -/
theorem empty_seen (w : World) : (w.alloc (.cells #[] 41)).ownsRow 0 41 4 (.slice (some ⟨w.heap.size, 0, none⟩) 0 0) 0 [] :=
  ⟨rfl, .inr ⟨w.heap.size, 0, #[], rfl, Nat.zero_le _, heap_alloc_new _ _, Nat.le_refl _, Nat.zero_le _, rfl, rfl⟩⟩

theorem grownO {w w1 w2 : World} {v v' : Value} {B : Nat} (hgrow : w1.grownBy w2 v.ownBlock) (hat : v'.ownBlock = v.ownBlock ∨ v'.ownBlock = some w1.heap.size) (hB : Below B w w1) (hBw : B ≤ w.heap.size) (hv : ∀ k, v.ownBlock = some k → B ≤ k) :
    Below B w w2 ∧ ∀ k, v'.ownBlock = some k → B ≤ k := by
  have hs := hB.size
  refine ⟨hB.grown hgrow (by omega) hv, fun k hk => ?_⟩
  rcases hat with h | h
  · exact hv k (by rw [← h]; exact hk)
  · rw [hk] at h
    have e : k = w1.heap.size := by simpa using h
    omega

theorem sclone_nil (w : World) :
    Calls Tryd.prog 29 #[.slice none 0 0] w fun e w' => e = .returned (.slice none 0 0) ∧ Below w.heap.size w w' := by
  have en := fun (w : World) => Lib.run_eql_slice_nil (P := Tryd.prog) w 35 41 none 0 0 0 0 Tryd.underlying35
  go_enter Tryd.func29, Tryd.ntmps29
  go_wp2
  go_ret
  exact ⟨rfl, Below.refl _ _⟩

theorem sclone_any (g c : Nat) (l : List Sen) (hl : l.length ≤ 100) (w : World) (own : w.ownsRow 0 41 4 (.slice (some ⟨g, 0, none⟩) l.length c) l.length (scells l)) :
    Calls Tryd.prog 29 #[.slice (some ⟨g, 0, none⟩) l.length c] w fun e w' => ∃ v, e = .returned v ∧ w'.ownsRow 0 41 4 v l.length (scells l) ∧ (∀ k, v.ownBlock = some k → w.heap.size ≤ k) ∧ Below w.heap.size w w' := by
  have BA := (Below.refl _ w).alloc (Nat.le_refl _) (.cells #[] 41)
  have HB := Hid.intro BA
  have ER := Hid.intro (empty_seen w)
  have en := fun (w : World) => Lib.run_eql_slice_nil (P := Tryd.prog) w 35 41 (some ⟨g, 0, none⟩) l.length c 0 0 Tryd.underlying35
  have NW := Hid.intro (World.ownsRow.cells (own_belowO own BA) (g := g) rfl)
  have LN := Hid.intro (scells_length l)
  have ONE := Hid.intro (scells_onecell l)
  obtain ⟨iF, hiF, hzF0, hzF1, hzF2⟩ := info_parts info_seen
  clear BA own
  generalize scells l = ns at *
  generalize l.length = L at *
  go_enter Tryd.func29, Tryd.ntmps29
  go_wp2_with (at_builtin; refine wpList_append_own_at _ rfl _ _ 35 rfl 0 41 iF (.agg #[.int .i64 0, .int .i64 0, .int .i64 0, .int .i64 0]) 4 32 Tryd.underlying35 hiF hzF0 hzF1 hzF2 rfl (by decide) (.slice (some ⟨w.heap.size, 0, none⟩) 0 0) 0 [] rfl ER.out ⟨g, 0, none⟩ L c ns rfl LN.out NW.out ONE.out (by unfold maxLen; omega) (by omega) (Nat.zero_le _) ?_)
  intro v1 w1 hown hgrow hnil hat
  obtain ⟨B1, N1⟩ := grownO hgrow (by rw [World.size_alloc]; exact hat) HB.out (Nat.le_refl _) (fun k hk => by
    have e : w.heap.size = k := by simpa [Value.ownBlock] using hk
    omega)
  obtain ⟨a1, cc, rfl, _⟩ := ownsRow_form hown
  have H1 := Hid.intro hown
  have H2 := Hid.intro N1
  have H3 := Hid.intro B1
  clear hown hgrow hnil hat N1 B1
  go_wp2
  go_ret
  exact ⟨_, rfl, H1.out, H2.out, H3.out⟩

theorem olist_any (b : Nat) (F : Nat → Prop) (x : Tab) (w : World) (hc : Tabl F w b x) :
    Calls Tryd.prog 17 #[.pointer (some ⟨b, 0, none⟩)] w fun e w' => ∃ v, e = .returned v ∧ SensAt (fun k => w.heap.size ≤ k ∧ k < w'.heap.size) w' v x.l ∧ Below w.heap.size w w' := by
  obtain ⟨v, h⟩ := hc
  have c3 := h.cells.2.2.2
  have hroom := (mayR_true h.ok.may).2.1
  have hfew := h.ok.few
  rcases h.own.2 with ⟨hv, h0⟩ | ⟨g, cap, cur, hv, _⟩
  · subst hv
    have e : x.l = [] := List.eq_nil_of_length_eq_zero h0
    rw [e]
    have SC := Hid.intro (sclone_nil w)
    clear h e h0
    go_enter Tryd.func17, Tryd.ntmps17
    go_wp2_with fail
    refine SC.out.mono ?_
    rintro e w1 ⟨rfl, B1⟩
    clear SC
    go_wp2
    go_ret
    exact ⟨_, rfl, ⟨none, 0, rfl, fun q => absurd q (by simp)⟩, B1⟩
  · subst hv
    have SC := Hid.intro (sclone_any g cap x.l (by omega) w h.own)
    clear h
    go_enter Tryd.func17, Tryd.ntmps17
    go_wp2_with fail
    refine SC.out.mono ?_
    rintro e w1 ⟨v1, rfl, O1, N1, B1⟩
    have FIN : Hid (SensAt (fun k => w.heap.size ≤ k ∧ k < w1.heap.size) w1 v1 x.l) := sens_of_owns O1 (fun k hk => ⟨N1 k hk, (World.ownsRow.lt O1 k hk).2⟩)
    obtain ⟨a1, cc, rfl, _⟩ := ownsRow_form O1
    have BH := Hid.intro B1
    clear SC O1 N1 B1
    go_wp2
    go_ret
    exact ⟨_, rfl, FIN.out, BH.out⟩

end Go.Proofs.YtohedeeajcdjcaaDoor
