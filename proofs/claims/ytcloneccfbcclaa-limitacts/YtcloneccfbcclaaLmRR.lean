/- The document's own table of layer 14, beside the code's. -/
import Derived.Test.YtcloneccfbcclaaLmRefS
import Derived.Test.YtcloneccfbcclaaLmTwoT
import Derived.Test.YtcloneccfbcclaaLmSame
namespace Go.Proofs.Ytcloneccfbcclaa
open Go.RowKit
open Bt

theorem rb_more {b : Nat} {L : List Kp} {m n : Nat} {S : Nat → Prop} {w : World} (h : RB b L m S w) (hn : m ≤ n) : RB b L n S w := by
  obtain ⟨vL, vV, zs, e, h⟩ := h
  exact ⟨vL, vV, zs, e, h.more hn⟩

theorem rsee_any (b : Nat) (bed kind v : Int) (S : Nat → Prop) (L : List Kp) (m : Nat) (hm : m < 90000) (w : World) (h : RB b L m S w) :
    Calls Try.prog 21 #[.pointer (some ⟨b, 0, none⟩), .int .i64 bed, .int .i64 kind, .int .i64 v] w fun e w' => e = .returned (.tuple #[.bool (onK L bed kind), .bool (onK (seeT L bed kind v) bed kind)]) ∧ LeftG (RB b (seeT L bed kind v) (m + 1)) S w w' := by
  obtain ⟨vL, vV, zs, rfl, h⟩ := h
  rcases posK_ways (kpsR zs) bed kind with ⟨e1, e2⟩ | ⟨i, hi, e1, e2, e3⟩
  · have a1 := seeT_none v e2
    have a2 : onK (kpsR zs) bed kind = false := by simp [onK, e2]
    rw [a1, a2]
    have FI := Hid.intro (refFind14_any b bed kind S vL vV zs m w h)
    rw [e1] at FI
    have SM := Hid.intro ((h.more (Nat.le_succ m)).same (Below.refl _ w))
    clear h e1 e2 a1 a2
    go_enter Try.func21, Try.ntmps21
    go_wp2_with fail
    refine FI.out.mono ?_
    rintro e w2 ⟨rfl, rfl⟩
    clear FI
    go_wp2
    go_ret2
    exact ⟨rfl, SM.out⟩
  · have hz : i < zs.length := by rw [← kps_len]; exact hi
    have e4 : (kpsR zs)[i] = kpR zs[i] := by simp [kpsR]
    have s := seeT_place h.ok v hi e3
    rw [e4] at s
    exact refSee14_at b bed kind v S vL vV zs m hm w h i hz e1 s

theorem ron_any (b : Nat) (bed kind : Int) (S : Nat → Prop) (L : List Kp) (m : Nat) (hm : m ≤ 90000) (w : World) (h : RB b L m S w) :
    Calls Try.prog 23 #[.pointer (some ⟨b, 0, none⟩), .int .i64 bed, .int .i64 kind] w fun e w' => e = .returned (.bool (onK L bed kind)) ∧ Below w.heap.size w w' := by
  obtain ⟨vL, vV, zs, rfl, h⟩ := h
  exact refOn14_any b bed kind S vL vV zs m (by omega) w h

theorem rbey_any (b : Nat) (bed kind : Int) (S : Nat → Prop) (L : List Kp) (m : Nat) (hm : m ≤ 90000) (w : World) (h : RB b L m S w) :
    Calls Try.prog 24 #[.pointer (some ⟨b, 0, none⟩), .int .i64 bed, .int .i64 kind] w fun e w' => e = .returned (.int .i64 (beyK L bed kind : Int)) ∧ Below w.heap.size w w' := by
  obtain ⟨vL, vV, zs, rfl, h⟩ := h
  exact refBey14_any b bed kind S vL vV zs m (by omega) w h

theorem rdrop_any (b : Nat) (bed : Int) (S : Nat → Prop) (L : List Kp) (m : Nat) (w : World) (h : RB b L m S w) :
    Calls Try.prog 20 #[.pointer (some ⟨b, 0, none⟩), .int .i64 bed] w fun e w' => e = .returned (.int .i64 (dropN L bed : Int)) ∧ LeftG (RB b (dropT L bed) m) S w w' := by
  obtain ⟨vL, vV, zs, rfl, h⟩ := h
  exact refDrop14_any b bed S vL vV zs m w h

theorem rnew (w : World) : RB w.heap.size [] 0 (fun k => k = w.heap.size) (w.alloc (.cells #[.slice none 0 0, .slice none 0 0] 39)) :=
  ⟨.slice none 0 0, .slice none 0 0, [], rfl, ⟨heap_alloc_new w _, own_noneR _ _ _, own_noneR _ _ _, fun z hz => (by cases hz), rfl, fun k hk => (by cases hk), fun k hk => (by cases hk), fun k hk => (by rw [hk]; simp), okT_nil 0, fun z hz => (by cases hz)⟩⟩

theorem rlist {b : Nat} {L : List Kp} {m : Nat} {S : Nat → Prop} {w : World} (h : RB b L m S w) : ∃ ao c, w.cell? ⟨b, 0, none⟩ = some (.slice ao L.length c) ∧ LmsAt (fun _ => True) w (.slice ao L.length c) (listT L) := by
  obtain ⟨vL, vV, zs, rfl, h⟩ := h
  obtain ⟨ao, c, e, _⟩ := ownsRow_form h.ol
  subst e
  refine ⟨ao, c, by rw [kps_len]; exact h.cells.1, ?_⟩
  have e2 : listT (kpsR zs) = zs.map Rz.lm := by
    unfold listT kpsR
    rw [List.map_map]
    rfl
  rw [e2, kps_len]
  exact h.lims.mono (fun _ _ => trivial)

/-- Both tables hold the same. -/
def Twin (ta rb : Nat) (L : List Kp) (n : Nat) (R : Nat → Prop) (B : Nat) (w : World) : Prop := Two (TB ta L n) (RB rb L n) R B w

section
variable {ta rb : Nat} {L : List Kp} {n B : Nat} {R G : Nat → Prop} {w w' : World}

theorem Twin.below (h : Twin ta rb L n R B w) (hb : Below w.heap.size w w') : Twin ta rb L n R B w' := Two.below (tb_owned _ _ _) (rb_owned _ _ _) h hb

theorem Twin.grow (h : Twin ta rb L n R B w) (hb : Below w.heap.size w w') : Twin ta rb L n (fun k => R k ∨ w.heap.size ≤ k) B w' := Two.grow (tb_owned _ _ _) (rb_owned _ _ _) h hb

theorem Twin.less (h : Twin ta rb L n R B w) (hG : ∀ k, G k → R k) : Twin ta rb L n G B w := Two.less h hG

theorem Twin.more (h : Twin ta rb L n R B w) {k : Nat} (hk : n ≤ k) : Twin ta rb L k R B w := by
  obtain ⟨S, T, h1, h2, r⟩ := h
  exact ⟨S, T, Tab.more h1 hk, rb_more h2 hk, r⟩

theorem Twin.ok (h : Twin ta rb L n R B w) : OkT L n := by
  obtain ⟨S, T, h1, _⟩ := h
  exact Tab.ok h1

theorem Twin.list (h : Twin ta rb L n R B w) : ∃ ao c, w.cell? ⟨rb, 0, none⟩ = some (.slice ao L.length c) ∧ LmsAt (fun _ => True) w (.slice ao L.length c) (listT L) := by
  obtain ⟨S, T, _, h2, _⟩ := h
  exact rlist h2

theorem twin_list (h : Twin ta rb L n R B w) : Calls Try.prog 15 #[.pointer (some ⟨ta, 0, none⟩)] w fun e w' => ∃ v, e = .returned v ∧ LmsAt (fun _ => True) w' v (listT L) ∧ Below w.heap.size w w' := by
  obtain ⟨S, T, h1, _⟩ := h
  exact (llist_any ta S L n w h1).mono fun e w' ⟨v, he, hl, hb⟩ => ⟨v, he, hl.mono (fun _ _ => trivial), hb⟩

theorem twin_on (bed kind : Int) (ho : okO (bed, kind)) (h : Twin ta rb L n R B w) : Calls Try.prog 12 #[.pointer (some ⟨ta, 0, none⟩), .int .i64 bed, .int .i64 kind] w fun e w' => e = .returned (.bool (onK L bed kind)) ∧ Below w.heap.size w w' := by
  obtain ⟨S, T, h1, _⟩ := h
  exact lon_any ta bed kind ho S L n w h1

theorem twin_bey (bed kind : Int) (ho : okO (bed, kind)) (h : Twin ta rb L n R B w) : Calls Try.prog 13 #[.pointer (some ⟨ta, 0, none⟩), .int .i64 bed, .int .i64 kind] w fun e w' => e = .returned (.int .i64 (beyK L bed kind : Int)) ∧ Below w.heap.size w w' := by
  obtain ⟨S, T, h1, _⟩ := h
  exact lbey_any ta bed kind ho S L n w h1

theorem twin_ron (bed kind : Int) (hn : n ≤ 90000) (h : Twin ta rb L n R B w) : Calls Try.prog 23 #[.pointer (some ⟨rb, 0, none⟩), .int .i64 bed, .int .i64 kind] w fun e w' => e = .returned (.bool (onK L bed kind)) ∧ Below w.heap.size w w' := by
  obtain ⟨S, T, _, h2, _⟩ := h
  exact ron_any rb bed kind T L n hn w h2

theorem twin_rbey (bed kind : Int) (hn : n ≤ 90000) (h : Twin ta rb L n R B w) : Calls Try.prog 24 #[.pointer (some ⟨rb, 0, none⟩), .int .i64 bed, .int .i64 kind] w fun e w' => e = .returned (.int .i64 (beyK L bed kind : Int)) ∧ Below w.heap.size w w' := by
  obtain ⟨S, T, _, h2, _⟩ := h
  exact rbey_any rb bed kind T L n hn w h2

end

end Go.Proofs.Ytcloneccfbcclaa
