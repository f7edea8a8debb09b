/- The code's controller and the document's, side by side. -/
import Derived.Test.YthfmgdhhjnngaaaShL
import Derived.Test.YthfmgdhhjnngaaaShRefB
import Derived.Test.YthfmgdhhjnngaaaShRefD
namespace Go.Proofs.Ythfmgdhhjnngaaa
open Go.RowKit
open Bt

/-- Both lie from B on, apart from one another and from what lies in R. -/
def TwoH (R : Nat → Prop) (B : Nat) (w : World) (a rb : Nat) (x y : Ctl) : Prop :=
  ∃ S T, Ctr S w a x ∧ RCt T w rb y ∧ (∀ k, S k → ¬ T k) ∧ (∀ k, S k → B ≤ k ∧ ¬ R k) ∧ (∀ k, T k → B ≤ k ∧ ¬ R k)

variable {R : Nat → Prop} {B : Nat} {w w' : World} {a rb : Nat} {x y : Ctl}

theorem TwoH.okX (h : TwoH R B w a rb x y) : x.Ok := by
  obtain ⟨S, T, h1, _⟩ := h
  exact h1.ok

theorem TwoH.kept {T : Nat → Prop} (h : TwoH R B w a rb x y) (hc : Chg T w w') (hT : ∀ k, T k → R k) : TwoH R B w' a rb x y := by
  obtain ⟨S, U, h1, h2, h3, h4, h5⟩ := h
  exact ⟨S, U, h1.kept hc (fun k hk q => (h4 k hk).2 (hT k q)), h2.kept hc (fun k hk q => (h5 k hk).2 (hT k q)), h3, h4, h5⟩

theorem TwoH.below (h : TwoH R B w a rb x y) (hb : Below w.heap.size w w') : TwoH R B w' a rb x y := h.kept (below_chg hb) (fun _ f => f.elim)

theorem TwoH.less {G : Nat → Prop} (h : TwoH R B w a rb x y) (hG : ∀ k, G k → R k) : TwoH G B w a rb x y := by
  obtain ⟨S, T, h1, h2, h3, h4, h5⟩ := h
  exact ⟨S, T, h1, h2, h3, fun k hk => ⟨(h4 k hk).1, fun q => (h4 k hk).2 (hG k q)⟩, fun k hk => ⟨(h5 k hk).1, fun q => (h5 k hk).2 (hG k q)⟩⟩

/-- More memory, that is held. -/
theorem TwoH.grow (h : TwoH R B w a rb x y) (hb : Below w.heap.size w w') : TwoH (fun k => R k ∨ w.heap.size ≤ k) B w' a rb x y := by
  obtain ⟨S, T, h1, h2, h3, h4, h5⟩ := h
  refine ⟨S, T, h1.below hb, h2.below hb, h3, fun k hk => ⟨(h4 k hk).1, fun q => ?_⟩, fun k hk => ⟨(h5 k hk).1, fun q => ?_⟩⟩
  · rcases q with q | q
    · exact (h4 k hk).2 q
    · have := h1.lt k hk; omega
  · rcases q with q | q
    · exact (h5 k hk).2 q
    · have := h2.lt k hk; omega

/-- The code's is turned. -/
theorem TwoH.left {S T : Nat → Prop} {x' : Ctl} (h2 : RCt T w rb y) (h3 : ∀ k, S k → ¬ T k) (h4 : ∀ k, S k → B ≤ k ∧ ¬ R k) (h5 : ∀ k, T k → B ≤ k ∧ ¬ R k) (hR : ∀ k, R k → k < w.heap.size) (hB : B ≤ w.heap.size) (hl : LeftC S w w' a x') : TwoH R B w' a rb x' y ∧ Chg (fun k => B ≤ k ∧ ¬ R k) w w' := by
  obtain ⟨S', q1, q2, q3⟩ := hl
  refine ⟨⟨S', T, q1, h2.kept q2 (fun k hk q => h3 k q hk), fun k hk q => ?_, fun k hk => ?_, h5⟩, q2.mono (fun k hk _ => h4 k hk)⟩
  · rcases q3 k hk with r | r
    · exact h3 k r q
    · have := h2.lt k q; omega
  · rcases q3 k hk with r | r
    · exact h4 k r
    · exact ⟨by omega, fun q => by have := hR k q; omega⟩

/-- The document's is turned. -/
theorem TwoH.right {S T : Nat → Prop} {y' : Ctl} (h1 : Ctr S w a x) (h3 : ∀ k, S k → ¬ T k) (h4 : ∀ k, S k → B ≤ k ∧ ¬ R k) (h5 : ∀ k, T k → B ≤ k ∧ ¬ R k) (hR : ∀ k, R k → k < w.heap.size) (hB : B ≤ w.heap.size) (hl : LeftRC T w w' rb y') : TwoH R B w' a rb x y' ∧ Chg (fun k => B ≤ k ∧ ¬ R k) w w' := by
  obtain ⟨T', q1, q2, q3⟩ := hl
  refine ⟨⟨S, T', h1.kept q2 (fun k hk q => h3 k hk q), q1, fun k hk q => ?_, h4, fun k hk => ?_⟩, q2.mono (fun k hk _ => h5 k hk)⟩
  · rcases q3 k q with r | r
    · exact h3 k hk r
    · have := h1.lt k hk; omega
  · rcases q3 k hk with r | r
    · exact h5 k r
    · exact ⟨by omega, fun q => by have := hR k q; omega⟩

theorem t_add (bed prio : Int) (h : TwoH R B w a rb x y) (hR : ∀ k, R k → k < w.heap.size) (hB : B ≤ w.heap.size) :
    Calls Try.prog 11 #[.pointer (some ⟨a, 0, none⟩), .int .i64 bed, .int .i64 prio] w fun e w' => e = .returned (.int .i64 (addE x bed)) ∧ TwoH R B w' a rb (addC x bed prio) y ∧ Chg (fun k => B ≤ k ∧ ¬ R k) w w' := by
  obtain ⟨S, T, h1, h2, h3, h4, h5⟩ := h
  refine (hadd_any a bed prio S x w h1).mono ?_
  rintro e w' ⟨rfl, hl⟩
  exact ⟨rfl, TwoH.left h2 h3 h4 h5 hR hB hl⟩

theorem t_radd (bed prio : Int) (h : TwoH R B w a rb x y) (hR : ∀ k, R k → k < w.heap.size) (hB : B ≤ w.heap.size) :
    Calls Try.prog 17 #[.pointer (some ⟨rb, 0, none⟩), .int .i64 bed, .int .i64 prio] w fun e w' => e = .returned (.int .i64 (addE y bed)) ∧ TwoH R B w' a rb x (addC y bed prio) ∧ Chg (fun k => B ≤ k ∧ ¬ R k) w w' := by
  obtain ⟨S, T, h1, h2, h3, h4, h5⟩ := h
  refine (refAdd13_any rb bed prio T y w h2).mono ?_
  rintro e w' ⟨rfl, hl⟩
  exact ⟨rfl, TwoH.right h1 h3 h4 h5 hR hB hl⟩

theorem t_rem (bed : Int) (h : TwoH R B w a rb x y) (hR : ∀ k, R k → k < w.heap.size) (hB : B ≤ w.heap.size) :
    Calls Try.prog 12 #[.pointer (some ⟨a, 0, none⟩), .int .i64 bed] w fun e w' => e = .returned (.int .i64 (remE x bed)) ∧ TwoH R B w' a rb (remC x bed) y ∧ Chg (fun k => B ≤ k ∧ ¬ R k) w w' := by
  obtain ⟨S, T, h1, h2, h3, h4, h5⟩ := h
  refine (hremove_any a bed S x w h1).mono ?_
  rintro e w' ⟨rfl, hl⟩
  exact ⟨rfl, TwoH.left h2 h3 h4 h5 hR hB hl⟩

theorem t_rrem (bed : Int) (h : TwoH R B w a rb x y) (hR : ∀ k, R k → k < w.heap.size) (hB : B ≤ w.heap.size) :
    Calls Try.prog 18 #[.pointer (some ⟨rb, 0, none⟩), .int .i64 bed] w fun e w' => e = .returned (.int .i64 (remE y bed)) ∧ TwoH R B w' a rb x (remC y bed) ∧ Chg (fun k => B ≤ k ∧ ¬ R k) w w' := by
  obtain ⟨S, T, h1, h2, h3, h4, h5⟩ := h
  refine (refRemove13_any rb bed T y w h2).mono ?_
  rintro e w' ⟨rfl, hl⟩
  exact ⟨rfl, TwoH.right h1 h3 h4 h5 hR hB hl⟩

theorem t_tick (o : Bool) (h : TwoH R B w a rb x y) (hR : ∀ k, R k → k < w.heap.size) (hB : B ≤ w.heap.size) :
    Calls Try.prog 13 #[.pointer (some ⟨a, 0, none⟩), .bool o] w fun e w' => e = .returned (.int .i64 (tickD x o)) ∧ TwoH R B w' a rb (tickC x o) y ∧ Chg (fun k => B ≤ k ∧ ¬ R k) w w' := by
  obtain ⟨S, T, h1, h2, h3, h4, h5⟩ := h
  refine (htick_any a o S x w h1).mono ?_
  rintro e w' ⟨rfl, hl⟩
  exact ⟨rfl, TwoH.left h2 h3 h4 h5 hR hB hl⟩

theorem t_rtick (o : Bool) (h : TwoH R B w a rb x y) (hR : ∀ k, R k → k < w.heap.size) (hB : B ≤ w.heap.size) :
    Calls Try.prog 19 #[.pointer (some ⟨rb, 0, none⟩), .bool o] w fun e w' => e = .returned (.int .i64 (tickD y o)) ∧ TwoH R B w' a rb x (tickC y o) ∧ Chg (fun k => B ≤ k ∧ ¬ R k) w w' := by
  obtain ⟨S, T, h1, h2, h3, h4, h5⟩ := h
  refine (refTick13_any rb o T y w h2).mono ?_
  rintro e w' ⟨rfl, hl⟩
  exact ⟨rfl, TwoH.right h1 h3 h4 h5 hR hB hl⟩

theorem t_lev (bed : Int) (h : TwoH R B w a rb x y) :
    Calls Try.prog 14 #[.pointer (some ⟨a, 0, none⟩), .int .i64 bed] w fun e w' => e = .returned (.int .i64 (levS x bed : Int)) ∧ Below w.heap.size w w' := by
  obtain ⟨S, T, h1, _⟩ := h
  exact hlevel_any a bed S x w h1

theorem t_rlev (bed : Int) (h : TwoH R B w a rb x y) :
    Calls Try.prog 20 #[.pointer (some ⟨rb, 0, none⟩), .int .i64 bed] w fun e w' => e = .returned (.int .i64 (levS y bed : Int)) ∧ Below w.heap.size w w' := by
  obtain ⟨S, T, _, h2, _⟩ := h
  exact refLevel13_any rb bed T y w h2

theorem t_calm (h : TwoH R B w a rb x y) :
    Calls Try.prog 16 #[.pointer (some ⟨a, 0, none⟩)] w fun e w' => e = .returned (.int .i64 (x.calm : Int)) ∧ Below w.heap.size w w' := by
  obtain ⟨S, T, h1, _⟩ := h
  exact hcalm_any a S x w h1

theorem t_order (h : TwoH R B w a rb x y) :
    Calls Try.prog 15 #[.pointer (some ⟨a, 0, none⟩)] w fun e w' => ∃ v, e = .returned v ∧ NumsAt (fun k => w.heap.size ≤ k ∧ k < w'.heap.size) w' v (ordS x) ∧ Below w.heap.size w w' := by
  obtain ⟨S, T, h1, _⟩ := h
  exact horder_any a S x w h1

/-- What can be seen of the document's. -/
theorem TwoH.seen (h : TwoH R B w a rb x y) : ∃ (ab al : Option Addr) (cb cl : Nat), w.cell? ⟨rb, 1, none⟩ = some (.int .i64 (y.calm : Int)) ∧ w.cell? ⟨rb, 2, none⟩ = some (.slice ab y.beds.length cb) ∧ w.cell? ⟨rb, 4, none⟩ = some (.slice al y.beds.length cl) ∧ NumsAt (fun _ => True) w (.slice ab y.beds.length cb) (ordS y) ∧
    ∀ k, (hk : k < y.beds.length) → ∃ gb gl, ab = some ⟨gb, 0, none⟩ ∧ al = some ⟨gl, 0, none⟩ ∧ w.cell? ⟨gb, k, none⟩ = some (.int .i64 y.beds[k].bed) ∧ w.cell? ⟨gl, k, none⟩ = some (.int .i64 (y.beds[k].lv : Int)) := by
  obtain ⟨S, T, _, ⟨⟨vb, vp, vl, h⟩, _⟩, _⟩ := h
  obtain ⟨_, c1, c2, _, c4, _⟩ := h.cells
  obtain ⟨ab, cb, rfl, hzb⟩ := ownsRow_form h.ob
  obtain ⟨al, cl, rfl, hzl⟩ := ownsRow_form h.ol
  have l1 : (lbS y).length = y.beds.length := by simp [lbS]
  have l3 : (llS y).length = y.beds.length := by simp [llS]
  have hn : NumsAt (fun _ => True) w (.slice ab (lbS y).length cb) (lbS y) := nums_of_ownsS h.ob (fun _ _ => trivial)
  refine ⟨ab, al, cb, cl, c1, by rw [← l1]; exact c2, by rw [← l3]; exact c4, by rw [← l1]; exact hn, fun k hk => ?_⟩
  obtain ⟨gb, rfl⟩ := hzb.resolve_left (by omega)
  obtain ⟨gl, rfl⟩ := hzl.resolve_left (by omega)
  have q1 := row_at h.ob (i := k) (by omega)
  have q2 := row_at h.ol (i := k) (by omega)
  have m1 : (lbS y)[k]'(by omega) = y.beds[k].bed := by simp [lbS]
  have m2 : (llS y)[k]'(by omega) = (y.beds[k].lv : Int) := by simp [llS]
  rw [m1] at q1
  rw [m2] at q2
  exact ⟨gb, gl, rfl, rfl, q1, q2⟩

theorem twoh_new {S : Nat → Prop} {C : Nat} {w1 w2 : World} (hB : B ≤ w.heap.size) (h1 : Ctr S w1 a ⟨C, 0, []⟩) (hS : ∀ k, S k → w.heap.size ≤ k) (b1 : Below w.heap.size w w1) (e2 : w2 = w1.alloc (.cells #[.int .i64 (C : Int), .int .i64 0, .slice none 0 0, .slice none 0 0, .slice none 0 0] 36)) : TwoH (fun _ => False) B w2 a w1.heap.size ⟨C, 0, []⟩ ⟨C, 0, []⟩ := by
  subst e2
  have hs := b1.size
  refine ⟨S, fun k => k = w1.heap.size, h1.below ((Below.refl _ w1).alloc (Nat.le_refl _) _), ⟨⟨_, _, _, heap_alloc_new w1 _, World.ownsRow_nil _ _ _ _, World.ownsRow_nil _ _ _ _, World.ownsRow_nil _ _ _ _, fun k hk => ?_, fun k hk => ?_, rfl, fun k hk => ?_, fun k hk => ?_, fun k hk => ?_, fun k hk => ?_⟩, h1.ok⟩, fun k hk q => ?_, fun k hk => ⟨?_, id⟩, fun k hk => ⟨?_, id⟩⟩
  · cases hk
  · cases hk
  · cases hk
  · cases hk
  · cases hk
  · rw [hk]; simp
  · have := h1.lt k hk; omega
  · have := hS k hk; omega
  · omega

end Go.Proofs.Ythfmgdhhjnngaaa
