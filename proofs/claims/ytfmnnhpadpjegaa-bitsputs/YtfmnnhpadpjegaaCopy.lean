/- The contracts of copied and of a pen's Bytes: a new row with the same bytes. -/
import Derived.Test.YtfmnnhpadpjegaaPut
import Derived.Laws.CopyOwn
namespace Go.Proofs.Ytfmnnhpadpjegaa
open Go.RowKit
open Bt

/-- A slice that begins at ao reads as the bytes bs. -/
def Reads (w : World) (ao : Option Addr) (bs : List Nat) : Prop :=
  0 < bs.length → ∃ ad, ao = some ad ∧ ∀ j u, (bs.map U)[j]? = some u → w.cell? (ad.add j) = some u

/-- A block that is a row of bytes, and nothing else. -/
def RowIs (w : World) (g : Nat) (bs : List Nat) : Prop := w.heap[g]? = some (.cells (bs.map U).toArray 5 (0, 0))

theorem cell_lt {w : World} {a : Addr} {v : Value} (h : w.cell? a = some v) : a.block < w.heap.size := World.block_lt_of_cell? w a h

theorem cell_chg {S : Nat → Prop} {w w' : World} (h : Chg S w w') {a : Addr} {v : Value} (hc : w.cell? a = some v) (hn : ¬ S a.block) : w'.cell? a = some v :=
  (World.cell?_of_block (h.block a.block (cell_lt hc) hn)).trans hc

theorem add_block (a : Addr) (j : Nat) : (a.add j).block = a.block := by unfold Addr.add; split <;> rfl

/-- What reads so still does where its block has stayed. -/
theorem Reads.kept {S : Nat → Prop} {w w' : World} {ao : Option Addr} {bs : List Nat} (h : Reads w ao bs) (hc : Chg S w w') (hS : ∀ ad, ao = some ad → ¬ S ad.block) : Reads w' ao bs := by
  intro h0
  obtain ⟨ad, ha, hr⟩ := h h0
  exact ⟨ad, ha, fun j u hu => cell_chg hc (hr j u hu) (by rw [add_block]; exact hS ad ha)⟩

theorem Reads.below {w w' : World} {ao : Option Addr} {bs : List Nat} (h : Reads w ao bs) (hb : Below w.heap.size w w') : Reads w' ao bs := by
  intro h0
  obtain ⟨ad, ha, hr⟩ := h h0
  exact ⟨ad, ha, fun j u hu => (hb.cell (cell_lt (hr j u hu))).trans (hr j u hu)⟩

theorem RowIs.reads {w : World} {g : Nat} {bs : List Nat} (h : RowIs w g bs) : Reads w (some ⟨g, 0, none⟩) bs := fun _ =>
  ⟨_, rfl, World.news_of_block (cs := (bs.map U).toArray) h⟩

theorem RowIs.kept {S : Nat → Prop} {w w' : World} {g : Nat} {bs : List Nat} (h : RowIs w g bs) (hc : Chg S w w') (hS : ¬ S g) : RowIs w' g bs := by
  unfold RowIs; rw [hc.block g (lt_of_heap h) hS]; exact h

theorem RowIs.lt {w : World} {g : Nat} {bs : List Nat} (h : RowIs w g bs) : g < w.heap.size := lt_of_heap h

theorem row_of_owns {w : World} {v : Value} {bs : List Nat} (h : w.ownsRow 0 5 1 v bs.length (bs.map U)) : ∃ ao cap, v = .slice ao bs.length cap ∧ Reads w ao bs ∧ ∀ ad, ao = some ad → v.ownBlock = some ad.block := by
  rcases h.2 with ⟨hv, h0⟩ | ⟨g, cap, cur, hv, _, _⟩
  · exact ⟨none, 0, by rw [h0]; exact hv, fun hp => by omega, fun ad e => by cases e⟩
  · refine ⟨some ⟨g, 0, none⟩, cap, hv, fun _ => ⟨_, rfl, fun j u hu => ?_⟩, fun ad e => by cases e; rw [hv]; rfl⟩
    have hj : j < bs.length := by
      have := (List.getElem?_eq_some_iff.1 hu).1; simpa using this
    have hadd : (⟨g, 0, none⟩ : Addr).add j = ⟨g, j, none⟩ := by unfold Addr.add; split <;> simp_all
    rw [hadd]
    rw [hv] at h
    rw [h.cellAt j (by omega)]; exact hu

theorem below_chg {w w' : World} (h : Below w.heap.size w w') : Chg (fun _ => False) w w' := ⟨h.os, h.tape, h.output, h.size, fun k hk _ => h.block k hk⟩

theorem splice_all {α : Type} (L cs : List α) (h : L.length = cs.length) : splice L 0 cs = cs := by
  simp [splice, h ▸ List.drop_length]

set_option maxHeartbeats 400000 in
theorem copied_any (ao : Option Addr) (cap : Nat) (bs : List Nat) (hb : bs.length < 2 ^ 40) (w : World) (hr : Reads w ao bs) :
    Calls Try.prog 23 #[.slice ao bs.length cap] w fun e w' => ∃ g, e = .returned (.slice (some ⟨g, 0, none⟩) bs.length bs.length) ∧ w.heap.size ≤ g ∧ RowIs w' g bs ∧ Chg (fun _ => False) w w' := by
  obtain ⟨i, hi, hz0, hz1, hz2⟩ := info_parts info_u8
  have hsz : (Try.prog.info? 5).map (·.size) = some 1 := by rw [hi]; simp [hz1]
  have HR := Hid.intro hr
  clear hr
  go_enter Try.func23, Try.ntmps23
  go_wp2_with (at_make; refine wpList_make_full _ rfl _ _ 24 rfl 0 5 i (.int .u8 0) 1 Try.underlying24 hi hz0 hz1 _ _ _ _ bs.length rfl rfl (by omega) (by omega) (by rw [hz2]; omega) (by unfold maxLen; omega) (Nat.zero_le _) ?_)
  intro w1 hown hgrow
  have hB : Below w.heap.size w w1 := (Below.refl _ w).grown hgrow (Nat.le_refl _) (fun k hk => by cases hk)
  obtain ⟨cur, hcur, hlen⟩ : ∃ cur : List Value, w1.heap[w.heap.size]? = some (.cells cur.toArray 5 (0, 0)) ∧ cur.length = bs.length := by
    rcases hown.2 with ⟨h', _⟩ | ⟨g', cap', cur, h', _, hg, _, _, hcs, _⟩
    · simp at h'
    · simp only [Value.slice.injEq, Option.some.injEq, Addr.mk.injEq, and_true, true_and] at h'
      obtain ⟨rfl, rfl⟩ := h'
      exact ⟨cur.toList, by simpa using hg, by simpa using hcs⟩
  have hR1 := HR.out.below hB
  have H1 := Hid.intro hcur
  have H2 := Hid.intro hR1
  have H3 := Hid.intro hB
  clear hown hgrow hcur hR1 hB
  go_wp2_with (refine wpList_copy_splice rfl _ _ 24 24 rfl 5 Try.underlying24 hsz (some ⟨w.heap.size, 0, none⟩) ao bs.length bs.length bs.length cap rfl rfl w.heap.size 0 cur 5 H1.out (bs.map U) (by simp) ?_ (by simp [hlen]) ?_ w.heap.size w H3.out (Nat.le_refl _) ?_)
  · intro h0
    obtain ⟨ad, ha, hj⟩ := H2.out (by simpa using h0)
    exact ⟨ad, ha, fun j a hja => hj j (U a) (by rw [List.getElem?_map, hja]; rfl)⟩
  · intro u hu
    obtain ⟨b, _, rfl⟩ := List.mem_map.1 hu
    rfl
  · intro w2 hg2 hB2
    go_wp2
    go_ret
    refine ⟨w.heap.size, rfl, Nat.le_refl _, ?_, below_chg hB2⟩
    have := hg2.out
    rw [splice_all _ _ (by simp [hlen])] at this
    exact this

theorem bytes_nil (w : World) :
    Calls Try.prog 12 #[.pointer none] w fun e w' => e = .returned (.slice none 0 0) ∧ w = w' := by
  go_enter Try.func12, Try.ntmps12
  go_wp2
  go_ret
  exact ⟨rfl, rfl⟩

theorem bytes_any (pb : Nat) (v : Value) (l : List Nat) (hl : l.length < 2 ^ 39) (w : World) (hp : PenAt w pb v l) :
    Calls Try.prog 12 #[.pointer (some ⟨pb, 0, none⟩)] w fun e w' => ∃ g, e = .returned (.slice (some ⟨g, 0, none⟩) (pack l).length (pack l).length) ∧ w.heap.size ≤ g ∧ RowIs w' g (pack l) ∧ Chg (fun _ => False) w w' := by
  have hpl : (pack l).length < 2 ^ 40 := by rw [pack_length]; omega
  have c0 : w.cell? ⟨pb, 0, none⟩ = some v := by rw [cell_of_row w pb 0 _ _ _ hp.here]; rfl
  obtain ⟨ao, cap, rfl, hr, _⟩ := row_of_owns hp.row
  clear hp
  have HR := Hid.intro hr
  clear hr
  go_enter Try.func12, Try.ntmps12
  go_wp2_with fail
  refine (copied_any ao cap (pack l) (by omega) w HR.out).mono ?_
  rintro e w1 ⟨g, rfl, hg, hrow, hc⟩
  have H1 := Hid.intro hrow
  have H2 := Hid.intro hc
  clear hrow hc
  go_wp2
  go_ret
  exact ⟨g, rfl, hg, H1.out, H2.out⟩

end Go.Proofs.Ytfmnnhpadpjegaa
