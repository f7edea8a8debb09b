/- Package roam: follow. -/
import Derived.Test.YtohedeeajcdjcaaDoorRoK2
import Derived.Deep.AppendLies
import Derived.Deep.RegionLaw
namespace Go.Proofs.YtohedeeajcdjcaaDoor
open Go.RowKit
open Bt

variable {S : Nat → Prop} {w w' : World} {b : Nat} {v : Value} {x : Tab}

/-- One more is followed. -/
def moreT (x : Tab) (s : Sen) : Tab := { x with l := x.l ++ [s] }

theorem TS.more (h : TS S w b v x) {s : Sen} (hok : (moreT x s).Ok) {W wb : World} {gz cz : Nat} (B : Below w.heap.size w W)
    (own : wb.ownsRow 0 41 4 (.slice (some ⟨gz, 0, none⟩) (x.l.length + 1) cz) (x.l.length + 1) (scells x.l ++ [.int .i64 s.tx, .int .i64 s.ant, .int .i64 s.rssi, .int .i64 s.last]))
    (hgrow : W.grownBy wb v.ownBlock) (hat : v.ownBlock = some gz ∨ gz = W.heap.size) :
    (wb.cell? ⟨b, 3, none⟩ = some v ∧ wb.frozen? ⟨b, 3, none⟩ = false) ∧ LeftT S w (wb.setCell ⟨b, 3, none⟩ (.slice (some ⟨gz, 0, none⟩) (x.l.length + 1) cz)) b (moreT x s) := by
  have hb := h.lt b h.inB
  have CB : Chg (fun k => v.ownBlock = some k) w wb := ((below_chg B).mono (fun _ q _ => q.elim)).grown hgrow (fun q hq _ => hq)
  have hsb := CB.size
  have hsW := B.size
  have hov : ∀ k, v.ownBlock = some k → k < w.heap.size ∧ S k ∧ k ≠ b := fun k hk => ⟨h.lt k (h.inV k hk).1, h.inV k hk⟩
  have hgz : (v.ownBlock = some gz ∧ gz < w.heap.size) ∨ w.heap.size ≤ gz := by
    rcases hat with q | q
    · exact .inl ⟨q, (hov gz q).1⟩
    · exact .inr (by omega)
  have hgb : gz ≠ b := by
    rcases hgz with q | q
    · exact (hov gz q.1).2.2
    · omega
  have hb3 := (CB.block b hb (fun q => (hov b q).2.2 rfl)).trans h.head
  have h3 := heap_setCell_same wb b 3 _ _ (.slice (some ⟨gz, 0, none⟩) (x.l.length + 1) cz) hb3
  have C3 : Chg (fun k => k = b) wb (wb.setCell ⟨b, 3, none⟩ (.slice (some ⟨gz, 0, none⟩) (x.l.length + 1) cz)) := Chg.setCell (S := fun k => k = b) (Chg.refl _ wb) (fun _ => rfl) _
  have hgl : gz < wb.heap.size := (World.ownsRow.lt own gz rfl).2
  refine ⟨⟨by rw [cell_of_row _ _ 3 _ _ _ hb3]; rfl, frozen_of_row wb b 3 _ _ hb3⟩, fun k => S k ∨ (w.heap.size ≤ k ∧ k < wb.heap.size), ⟨.slice (some ⟨gz, 0, none⟩) (x.l.length + 1) cz, by rw [h3]; rfl, ?_, .inl h.inB, fun k hk => ?_, fun k hk => ?_, hok⟩, ?_, fun k hk => ?_⟩
  · have e : scells (moreT x s).l = scells x.l ++ [.int .i64 s.tx, .int .i64 s.ant, .int .i64 s.rssi, .int .i64 s.last] := by
      show scells (x.l ++ [s]) = _
      rw [scells_append, scells_one]; rfl
    have e2 : (moreT x s).l.length = x.l.length + 1 := by show (x.l ++ [s]).length = _; simp
    rw [e, e2]
    exact ownsRow_keep own fun k hk => C3.block k (World.ownsRow.lt own k hk).2 (fun q => by
      have : gz = k := by simpa [Value.ownBlock] using hk
      omega)
  · obtain rfl : gz = k := by simpa [Value.ownBlock] using hk
    refine ⟨?_, hgb⟩
    rcases hgz with q2 | q2
    · exact .inl (hov gz q2.1).2.1
    · exact .inr ⟨q2, hgl⟩
  · have := C3.size
    rcases hk with q | q
    · have := h.lt k q; omega
    · omega
  · exact (CB.mono (fun k q _ => (hov k q).2.1)).trans C3 (fun k q _ => by rw [q]; exact h.inB)
  · rcases hk with q | q
    · exact .inl q
    · exact .inr q.1

theorem info_seen : (Tryd.prog.info? 41).map (fun i => (i.zero, i.size, i.bytes)) = some (some (.agg #[.int .i64 0, .int .i64 0, .int .i64 0, .int .i64 0]), 4, 32) := by kernel_rfl

theorem own_allocO {W : World} {e : TypeId} {s : Nat} {v : Value} {n : Nat} {xs : List Value} (h : W.ownsRow 0 e s v n xs) (o : Obj) : (W.alloc o).ownsRow 0 e s v n xs :=
  ownsRow_keep h fun k hk => ((Below.refl W.heap.size W).alloc (Nat.le_refl _) o).block k (World.ownsRow.lt h k hk).2

theorem own_drewO {W : World} {e : TypeId} {s : Nat} {v : Value} {n : Nat} {xs : List Value} (h : W.ownsRow 0 e s v n xs) : W.drew.ownsRow 0 e s v n xs :=
  ownsRow_keep h fun _ _ => rfl

theorem own_belowO {W W' : World} {e : TypeId} {s : Nat} {v : Value} {n : Nat} {xs : List Value} (h : W.ownsRow 0 e s v n xs) (hb : Below W.heap.size W W') : W'.ownsRow 0 e s v n xs :=
  ownsRow_keep h fun k hk => hb.block k (World.ownsRow.lt h k hk).2

theorem ofollow_no (b : Nat) (s : Sen) (F : Nat → Prop) (x : Tab) (v : Value) (w : World) (h : TS F w b v x) (hl : ¬ x.l.length < x.room) :
    Calls Tryd.prog 32 #[.pointer (some ⟨b, 0, none⟩), Sv s] w fun e w' => e = .returned (.int .i64 3) ∧ LeftT F w w' b x := by
  obtain ⟨t1, t2, t3, t4⟩ := s
  show Calls Tryd.prog 32 #[.pointer (some ⟨b, 0, none⟩), .agg #[.int .i64 t1, .int .i64 t2, .int .i64 t3, .int .i64 t4]] w _
  have BA := (Below.refl _ w).alloc (Nat.le_refl _) (.cells #[.int .i64 t1, .int .i64 t2, .int .i64 t3, .int .i64 t4] 41)
  have cs := (h.below BA).cells
  have c0 := cs.1
  have c3 := cs.2.2.2
  obtain ⟨ao, c, hv, hfm⟩ := h.form
  have hroom := (mayR_true h.ok.may).2.1
  have HH := Hid.intro h
  have HB := Hid.intro BA
  rw [hv] at c3
  have l1 : ¬ (x.l.length : Int) < (x.room : Int) := by omega
  generalize x.l.length = L at *
  generalize x.room = R at *
  clear cs hv hfm h BA
  go_enter Tryd.func32, Tryd.ntmps32
  go_wp2_with fail
  generalize w.alloc (.cells #[.int .i64 t1, .int .i64 t2, .int .i64 t3, .int .i64 t4] 41) = wa at *
  go_region_held3 (fun w' => w'.cell? ⟨b, 0, none⟩ = some (.int .i64 (R : Int)) ∧ w'.cell? ⟨b, 3, none⟩ = some (.slice ao L c)) (go_keep) (fail)
  all_goals
    go_wp2
    go_ret
    exact ⟨rfl, LeftT.same HH.out HB.out.drew⟩

set_option maxRecDepth 100000 in
set_option maxHeartbeats 2000000 in
theorem ofollow_yes (b : Nat) (s : Sen) (F : Nat → Prop) (x : Tab) (v : Value) (w : World) (h : TS F w b v x) (hok : (moreT x s).Ok) (hl : x.l.length < x.room) :
    Calls Tryd.prog 32 #[.pointer (some ⟨b, 0, none⟩), Sv s] w fun e w' => e = .returned (.int .i64 1) ∧ LeftT F w w' b (moreT x s) := by
  obtain ⟨t1, t2, t3, t4⟩ := s
  show Calls Tryd.prog 32 #[.pointer (some ⟨b, 0, none⟩), .agg #[.int .i64 t1, .int .i64 t2, .int .i64 t3, .int .i64 t4]] w _
  have BA := (Below.refl _ w).alloc (Nat.le_refl _) (.cells #[.int .i64 t1, .int .i64 t2, .int .i64 t3, .int .i64 t4] 41)
  have cs := (h.below BA).cells
  have c0 := cs.1
  have c3 := cs.2.2.2
  obtain ⟨ao, c, hv, hfm⟩ := h.form
  have hroom := (mayR_true h.ok.may).2.1
  have O := Hid.intro (own_belowO h.own BA)
  rw [hv] at c3 O
  have HLEN := Hid.intro (scells_length x.l)
  have FIN := Hid.intro (fun (W wb : World) (gz cz : Nat) (hB : Below w.heap.size w W) hown hgrow hat => h.more (s := ⟨t1, t2, t3, t4⟩) hok (W := W) hB (wb := wb) (gz := gz) (cz := cz) hown hgrow hat)
  rw [hv] at FIN
  have l1 : (x.l.length : Int) < (x.room : Int) := by omega
  obtain ⟨iF, hiF, hzF0, hzF1, hzF2⟩ := info_parts info_seen
  have hn := heap_alloc_new w (.cells #[.int .i64 t1, .int .i64 t2, .int .i64 t3, .int .i64 t4] 41)
  have HB := Hid.intro BA
  generalize scells x.l = ns at O FIN HLEN
  generalize x.l.length = L at *
  generalize x.room = R at *
  clear cs hv hfm h hok BA
  go_enter Tryd.func32, Tryd.ntmps32
  go_wp2_with fail
  generalize w.alloc (.cells #[.int .i64 t1, .int .i64 t2, .int .i64 t3, .int .i64 t4] 41) = wa at *
  have n0 : wa.cell? ⟨w.heap.size, 0, none⟩ = some (.int .i64 t1) := by rw [cell_of_row _ _ 0 _ _ _ hn]; rfl
  have n1 : wa.cell? ⟨w.heap.size, 1, none⟩ = some (.int .i64 t2) := by rw [cell_of_row _ _ 1 _ _ _ hn]; rfl
  have n2 : wa.cell? ⟨w.heap.size, 2, none⟩ = some (.int .i64 t3) := by rw [cell_of_row _ _ 2 _ _ _ hn]; rfl
  have n3 : wa.cell? ⟨w.heap.size, 3, none⟩ = some (.int .i64 t4) := by rw [cell_of_row _ _ 3 _ _ _ hn]; rfl
  have FIN2 := Hid.intro (fun (W wb : World) (gz cz : Nat) (hB : Below wa.heap.size wa W) => FIN.out W wb gz cz (HB.out.trans (hB.mono HB.out.size)))
  clear HB FIN hn
  generalize hbx : w.heap.size = bx at *
  clear hbx
  go_region_held3 (fun w' => w'.cell? ⟨b, 0, none⟩ = some (.int .i64 (R : Int)) ∧ w'.cell? ⟨b, 3, none⟩ = some (.slice ao L c)) (go_keep) (fail)
  all_goals
    have ONE9 : Hid (∀ u ∈ ([.int .i64 t1, .int .i64 t2, .int .i64 t3, .int .i64 t4] : List Value), u.oneCell' = true) := by simp [Hid, Value.oneCell']
    have c0' : wa.drew.cell? ⟨b, 0, none⟩ = some (.int .i64 (R : Int)) := c0
    have c3' : wa.drew.cell? ⟨b, 3, none⟩ = some (.slice ao L c) := c3
    have n0' : wa.drew.cell? ⟨bx, 0, none⟩ = some (.int .i64 t1) := n0
    have n1' : wa.drew.cell? ⟨bx, 1, none⟩ = some (.int .i64 t2) := n1
    have n2' : wa.drew.cell? ⟨bx, 2, none⟩ = some (.int .i64 t3) := n2
    have n3' : wa.drew.cell? ⟨bx, 3, none⟩ = some (.int .i64 t4) := n3
    have O' := Hid.intro (own_drewO O.out)
    have FIN3 := Hid.intro (fun (W wb : World) (gz cz : Nat) (hB : Below wa.drew.heap.size wa.drew W) => FIN2.out W wb gz cz (below_undrew hB))
    clear O FIN2 c0 c3 n0 n1 n2 n3
    generalize wa.drew = wd at *
    have a3 : ∀ o1, (wd.alloc o1).cell? ⟨b, 3, none⟩ = some (.slice ao L c) := fun o1 => below_cell ((Below.refl _ wd).alloc (Nat.le_refl _) _) c3'
    have BLO := Hid.intro ((((Below.refl wd.heap.size wd).drew).alloc (Nat.le_refl _) (.cells #[.int .i64 t1, .int .i64 t2, .int .i64 t3, .int .i64 t4] 41)))
    have OWA := Hid.intro (own_allocO (own_drewO O'.out) (.cells #[.int .i64 t1, .int .i64 t2, .int .i64 t3, .int .i64 t4] 41))
    have GRA := Hid.intro (heap_alloc_new wd.drew (.cells #[.int .i64 t1, .int .i64 t2, .int .i64 t3, .int .i64 t4] 41))
    clear O'
    go_wp2_with fail
    go_region_law
      (first
        | (refine step_append_lies _ (by rfl) _ _ _ (by rfl) 0 41 iF (.agg #[.int .i64 0, .int .i64 0, .int .i64 0, .int .i64 0]) 4 32 Tryd.underlying35 hiF hzF0 hzF1 hzF2 (by rfl) (by decide) (.slice ao L c) L ns (by rfl) OWA.out ⟨wd.heap.size, 0, none⟩ 1 1 [.int .i64 t1, .int .i64 t2, .int .i64 t3, .int .i64 t4] (by rfl) (by rfl) (World.news_of_block (cs := #[.int .i64 t1, .int .i64 t2, .int .i64 t3, .int .i64 t4]) GRA.out) ONE9.out (by decide) (by unfold maxLen; omega) (by omega) (Nat.zero_le _) _ rfl ?_; intro gz cz wb hown hgrow hat hltz; have FN := FIN3.out _ wb gz cz BLO.out hown hgrow hat; have k8 := FN.1.1; have f8 := FN.1.2; have F1 := Hid.intro FN.2; clear FN hown hgrow hat hltz)
        | fail)
    all_goals
      clear a3 ONE9 FIN3 BLO OWA GRA HLEN
      go_wp2
      go_ret
      exact ⟨rfl, F1.out⟩

end Go.Proofs.YtohedeeajcdjcaaDoor
