/- Both tables, the code's and the document's, side by side. -/
import Derived.Test.YtohedeeajcdjcaaDoorRoCon
import Derived.Test.YtohedeeajcdjcaaDoorRoRefA
import Derived.Test.YtohedeeajcdjcaaDoorRoRefC
import Derived.Test.YtohedeeajcdjcaaDoorRoRefE
namespace Go.Proofs.YtohedeeajcdjcaaDoor
open Go.RowKit
open Bt

/-- Both tables lie from B on, apart from one another and from what lies in R. -/
def Two9 (R : Nat → Prop) (B : Nat) (w : World) (b rb : Nat) (x y : Tab) : Prop :=
  ∃ S T, Tabl S w b x ∧ RTab T w rb y ∧ (∀ k, S k → ¬ T k) ∧ (∀ k, S k → B ≤ k ∧ ¬ R k) ∧ (∀ k, T k → B ≤ k ∧ ¬ R k)

variable {R : Nat → Prop} {B : Nat} {w w' : World} {b rb : Nat} {x y : Tab}

theorem Two9.okX (h : Two9 R B w b rb x y) : x.Ok := by
  obtain ⟨S, T, h1, _⟩ := h
  exact h1.ok

theorem Two9.okY (h : Two9 R B w b rb x y) : y.Ok := by
  obtain ⟨S, T, _, h2, _⟩ := h
  exact h2.ok

theorem Two9.below (h : Two9 R B w b rb x y) (hb : Below w.heap.size w w') : Two9 R B w' b rb x y := by
  obtain ⟨S, T, h1, h2, h3⟩ := h
  exact ⟨S, T, h1.kept (below_chg hb) (fun _ _ => id), h2.kept (below_chg hb) (fun _ _ => id), h3⟩

theorem Two9.less {G : Nat → Prop} (h : Two9 R B w b rb x y) (hG : ∀ k, G k → R k) : Two9 G B w b rb x y := by
  obtain ⟨S, T, h1, h2, h3, h4, h5⟩ := h
  exact ⟨S, T, h1, h2, h3, fun k hk => ⟨(h4 k hk).1, fun q => (h4 k hk).2 (hG k q)⟩, fun k hk => ⟨(h5 k hk).1, fun q => (h5 k hk).2 (hG k q)⟩⟩

/-- More memory, that is held. -/
theorem Two9.grow (h : Two9 R B w b rb x y) (hb : Below w.heap.size w w') : Two9 (fun k => R k ∨ w.heap.size ≤ k) B w' b rb x y := by
  obtain ⟨S, T, h1, h2, h3, h4, h5⟩ := h
  refine ⟨S, T, h1.kept (below_chg hb) (fun _ _ => id), h2.kept (below_chg hb) (fun _ _ => id), h3, fun k hk => ⟨(h4 k hk).1, fun q => ?_⟩, fun k hk => ⟨(h5 k hk).1, fun q => ?_⟩⟩
  · rcases q with q | q
    · exact (h4 k hk).2 q
    · have := h1.lt k hk; omega
  · rcases q with q | q
    · exact (h5 k hk).2 q
    · have := h2.lt k hk; omega

theorem two_hear (tx ant rssi now : Int) (hn : 0 ≤ now ∧ now ≤ 2 ^ 40) (hw : Wid w) (h : Two9 R B w b rb x y) (hR : ∀ k, R k → k < w.heap.size) (hB : B ≤ w.heap.size) :
    Calls Tryd.prog 15 #[.pointer (some ⟨b, 0, none⟩), .int .i64 tx, .int .i64 ant, .int .i64 rssi, .int .i64 now] w fun e w' => e = .returned (.int .i64 (hearT x tx ant rssi)) ∧ Two9 R B w' b rb (hearX x tx ant rssi now) y ∧ Chg (fun k => B ≤ k ∧ ¬ R k) w w' := by
  obtain ⟨S, T, h1, h2, h3, h4, h5⟩ := h
  refine (ohear_any b tx ant rssi now hn S x w hw h1).mono ?_
  rintro e w' ⟨rfl, S', q1, q2, q3⟩
  refine ⟨rfl, ⟨S', T, q1, h2.kept q2 (fun k hk q => h3 k q hk), fun k hk q => ?_, fun k hk => ?_, h5⟩, q2.mono (fun k hk _ => h4 k hk)⟩
  · rcases q3 k hk with r | r
    · exact h3 k r q
    · have := h2.lt k q; omega
  · rcases q3 k hk with r | r
    · exact h4 k r
    · exact ⟨by omega, fun q => by have := hR k q; omega⟩

theorem two_rhear (tx ant rssi now : Int) (hn : 0 ≤ now ∧ now ≤ 2 ^ 40) (h : Two9 R B w b rb x y) (hR : ∀ k, R k → k < w.heap.size) (hB : B ≤ w.heap.size) :
    Calls Tryd.prog 18 #[.pointer (some ⟨rb, 0, none⟩), .int .i64 tx, .int .i64 ant, .int .i64 rssi, .int .i64 now] w fun e w' => e = .returned (.int .i64 (hearT y tx ant rssi)) ∧ Two9 R B w' b rb x (hearX y tx ant rssi now) ∧ Chg (fun k => B ≤ k ∧ ¬ R k) w w' := by
  obtain ⟨S, T, h1, h2, h3, h4, h5⟩ := h
  refine (refHear_any rb tx ant rssi now hn T y w h2).mono ?_
  rintro e w' ⟨rfl, T', q1, q2, q3⟩
  refine ⟨rfl, ⟨S, T', h1.kept q2 (fun k hk q => h3 k hk q), q1, fun k hk q => ?_, h4, fun k hk => ?_⟩, q2.mono (fun k hk _ => h5 k hk)⟩
  · rcases q3 k q with r | r
    · exact h3 k hk r
    · have := h1.lt k hk; omega
  · rcases q3 k hk with r | r
    · exact h5 k r
    · exact ⟨by omega, fun q => by have := hR k q; omega⟩

theorem two_forget (now : Int) (hn : 0 ≤ now ∧ now ≤ 2 ^ 41) (h : Two9 R B w b rb x y) (hR : ∀ k, R k → k < w.heap.size) (hB : B ≤ w.heap.size) :
    Calls Tryd.prog 16 #[.pointer (some ⟨b, 0, none⟩), .int .i64 now] w fun e w' => ∃ v R', e = .returned v ∧ NumsAt R' w' v (goneX x now) ∧ (∀ k, R k → R' k) ∧ (∀ k, R' k → k < w'.heap.size) ∧ Two9 R' B w' b rb (forgetX x now) y ∧ Chg (fun k => B ≤ k ∧ ¬ R k) w w' := by
  obtain ⟨S, T, h1, h2, h3, h4, h5⟩ := h
  refine (oforget_any b now hn S x w h1).mono ?_
  rintro e w' ⟨v, S', rfl, p, q1, q2, q3⟩
  have hs := q2.size
  have hS' : ∀ k, S' k → ¬ R k ∧ B ≤ k := fun k hk => by
    rcases q3 k hk with r | r
    · exact ⟨(h4 k r).2, (h4 k r).1⟩
    · exact ⟨fun q => by have := hR k q; omega, by omega⟩
  refine ⟨v, fun k => R k ∨ (w.heap.size ≤ k ∧ k < w'.heap.size ∧ ¬ S' k), rfl, p.mono (fun k hk => .inr hk), fun k hk => .inl hk, fun k hk => ?_, ⟨S', T, q1, h2.kept q2 (fun k hk q => h3 k q hk), fun k hk q => ?_, fun k hk => ⟨(hS' k hk).2, fun q => ?_⟩, fun k hk => ⟨(h5 k hk).1, fun q => ?_⟩⟩, q2.mono (fun k hk _ => h4 k hk)⟩
  · rcases hk with q | q
    · have := hR k q; omega
    · exact q.2.1
  · rcases q3 k hk with r | r
    · exact h3 k r q
    · have := h2.lt k q; omega
  · rcases q with q | q
    · exact (hS' k hk).1 q
    · exact q.2.2 hk
  · rcases q with q | q
    · exact (h5 k hk).2 q
    · have := h2.lt k hk; omega

theorem two_rforget (now : Int) (hn : 0 ≤ now ∧ now ≤ 2 ^ 41) (h : Two9 R B w b rb x y) (hR : ∀ k, R k → k < w.heap.size) (hB : B ≤ w.heap.size) :
    Calls Tryd.prog 20 #[.pointer (some ⟨rb, 0, none⟩), .int .i64 now] w fun e w' => ∃ v R', e = .returned v ∧ NumsAt R' w' v (goneX y now) ∧ (∀ k, R k → R' k) ∧ (∀ k, R' k → k < w'.heap.size) ∧ Two9 R' B w' b rb x (forgetX y now) ∧ Chg (fun k => B ≤ k ∧ ¬ R k) w w' := by
  obtain ⟨S, T, h1, h2, h3, h4, h5⟩ := h
  refine (refForget_any rb now hn T y w h2).mono ?_
  rintro e w' ⟨v, T', rfl, p, q1, q2, q3⟩
  have hs := q2.size
  have hT' : ∀ k, T' k → ¬ R k ∧ B ≤ k := fun k hk => by
    rcases q3 k hk with r | r
    · exact ⟨(h5 k r).2, (h5 k r).1⟩
    · exact ⟨fun q => by have := hR k q; omega, by omega⟩
  refine ⟨v, fun k => R k ∨ (w.heap.size ≤ k ∧ k < w'.heap.size ∧ ¬ T' k), rfl, p.mono (fun k hk => .inr hk), fun k hk => .inl hk, fun k hk => ?_, ⟨S, T', h1.kept q2 (fun k hk q => h3 k hk q), q1, fun k hk q => ?_, fun k hk => ⟨(h4 k hk).1, fun q => ?_⟩, fun k hk => ⟨(hT' k hk).2, fun q => ?_⟩⟩, q2.mono (fun k hk _ => h5 k hk)⟩
  · rcases hk with q | q
    · have := hR k q; omega
    · exact q.2.1
  · rcases q3 k q with r | r
    · exact h3 k hk r
    · have := h1.lt k hk; omega
  · rcases q with q | q
    · exact (h4 k hk).2 q
    · have := h1.lt k hk; omega
  · rcases q with q | q
    · exact (hT' k hk).1 q
    · exact q.2.2 hk

theorem two_list (h : Two9 R B w b rb x y) :
    Calls Tryd.prog 17 #[.pointer (some ⟨b, 0, none⟩)] w fun e w' => ∃ v, e = .returned v ∧ SensAt (fun k => w.heap.size ≤ k ∧ k < w'.heap.size) w' v x.l ∧ Below w.heap.size w w' := by
  obtain ⟨S, T, h1, _⟩ := h
  exact olist_any b S x w h1

theorem two_home (tx : Int) (h : Two9 R B w b rb x y) :
    Calls Tryd.prog 13 #[.pointer (some ⟨b, 0, none⟩), .int .i64 tx] w fun e w' => e = .returned (.tuple #[.int .i64 (homeA x tx), .bool (homeB x tx)]) ∧ Below w.heap.size w w' := by
  obtain ⟨S, T, h1, _⟩ := h
  exact ohome_any b tx S x w h1

/-- What the document's table lists. -/
theorem Two9.lists (h : Two9 R B w b rb x y) : ∃ ao c T, w.cell? ⟨rb, 3, none⟩ = some (.slice ao y.l.length c) ∧ SensAt T w (.slice ao y.l.length c) y.l ∧ RT T w rb y := by
  obtain ⟨S, T, _, ⟨v, h2⟩, _⟩ := h
  obtain ⟨ao, c, rfl, _⟩ := h2.form
  have q : SensAt T w (.slice ao y.l.length c) y.l := sens_of_owns h2.own (fun k hk => (h2.inV k hk).1)
  exact ⟨ao, c, T, h2.cells.2.2.2, q, h2.cells.1, h2.cells.2.1, h2.cells.2.2.1, _, h2.cells.2.2.2, q⟩

theorem two_rhome (tx : Int) (h : Two9 R B w b rb x y) :
    Calls Tryd.prog 21 #[.pointer (some ⟨rb, 0, none⟩), .int .i64 tx] w fun e w' => e = .returned (.tuple #[.int .i64 (homeA y tx), .bool (homeB y tx)]) ∧ Below w.heap.size w w' := by
  have h8 : y.l.length ≤ 1000 := by have := h.okY.few; have := (mayR_true h.okY.may).2.1; omega
  obtain ⟨ao, c, T, _, _, q⟩ := h.lists
  exact refHome_any T rb y tx h8 w q

end Go.Proofs.YtohedeeajcdjcaaDoor
