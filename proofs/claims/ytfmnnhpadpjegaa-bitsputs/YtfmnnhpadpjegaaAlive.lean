/- The document's example comes out, and touches nothing that was there. -/
import Derived.Test.YtfmnnhpadpjegaaSame
namespace Go.Proofs.Ytfmnnhpadpjegaa
open Go.RowKit
open Bt

/-- A new pen. -/
theorem pen_new (w : World) : PenAt (w.alloc (.cells #[.slice none 0 0, .int .i64 0] 26)) w.heap.size (.slice none 0 0) [] :=
  ⟨bits_nil, heap_alloc_new _ _, World.ownsRow_nil _ _ _ _⟩

/-- A pen that is new, and each that comes of it: its blocks are from B on. -/
def Own (B : Nat) (pb : Nat) (v : Value) : Prop := B ≤ pb ∧ ∀ k, v.ownBlock = some k → B ≤ k

theorem own_new (B pb : Nat) (h : B ≤ pb) : Own B pb (.slice none 0 0) := ⟨h, fun k hk => by cases hk⟩

theorem Own.next {B pb : Nat} {v v' : Value} {w : World} (h : Own B pb v) (hB : B ≤ w.heap.size) (hk : ∀ k, v'.ownBlock = some k → v.ownBlock = some k ∨ w.heap.size ≤ k) : Own B pb v' :=
  ⟨h.1, fun k e => by
    rcases hk k e with h1 | h1
    · exact h.2 k h1
    · omega⟩

theorem Own.chg {B pb : Nat} {v : Value} {w w' : World} (h : Own B pb v) (hc : Chg (penFoot pb v) w w') : Chg (fun k => B ≤ k) w w' :=
  hc.mono fun i hi _ => by
    rcases hi with hi | hi
    · rw [hi]; exact h.1
    · exact h.2 i hi

/-- Two new pens. -/
theorem pens_new (w : World) :
    PenAt ((w.alloc (.cells #[.slice none 0 0, .int .i64 0] 26)).alloc (.cells #[.slice none 0 0, .int .i64 0] 26)) w.heap.size (.slice none 0 0) [] ∧
    PenAt ((w.alloc (.cells #[.slice none 0 0, .int .i64 0] 26)).alloc (.cells #[.slice none 0 0, .int .i64 0] 26)) (w.heap.size + 1) (.slice none 0 0) [] ∧
    Below w.heap.size w ((w.alloc (.cells #[.slice none 0 0, .int .i64 0] 26)).alloc (.cells #[.slice none 0 0, .int .i64 0] 26)) := by
  refine ⟨(pen_new w).kept ((Chg.refl (fun _ => False) _).alloc _) (fun _ _ h => h), ?_, ((Below.refl _ w).alloc (Nat.le_refl _) _).alloc (by simp) _⟩
  have := pen_new (w.alloc (.cells #[.slice none 0 0, .int .i64 0] 26))
  rw [World.size_alloc] at this
  exact this

/-- Two pens that have no block in common. -/
def Apart (pb : Nat) (v : Value) (qb : Nat) (u : Value) : Prop := ∀ k, penFoot pb v k → ¬ penFoot qb u k

theorem Apart.symm {pb qb : Nat} {v u : Value} (h : Apart pb v qb u) : Apart qb u pb v := fun k a b => h k b a

/-- They stay so where the first one grows. -/
theorem Apart.next {pb qb : Nat} {v v' u : Value} {l : List Nat} {w : World} (h : Apart pb v qb u) (hq : PenAt w qb u l) (hk : ∀ k, v'.ownBlock = some k → v.ownBlock = some k ∨ w.heap.size ≤ k) : Apart pb v' qb u := by
  intro k a b
  rcases a with a | a
  · exact h k (.inl a) b
  · rcases hk k a with a1 | a1
    · exact h k (.inr a1) b
    · rcases b with b | b
      · have := hq.lt; omega
      · have := ownsRow_lt hq.row b; omega

theorem apart_new (pb qb : Nat) (h : ¬ pb = qb) : Apart pb (.slice none 0 0) qb (.slice none 0 0) := by
  intro k a b
  rcases a with a | a
  · rcases b with b | b
    · omega
    · cases b
  · cases a

set_option maxHeartbeats 1000000 in
theorem alive_any (w : World) :
    Calls Try.prog 9 #[] w fun e w' => e = .returned (.bool true) ∧ Below w.heap.size w w' := by
  go_enter Try.func9, Try.ntmps9
  go_wp2_with fail
  have B0 : Below w.heap.size w (w.alloc (.cells #[.slice none 0 0, .int .i64 0] 26)) := (Below.refl _ w).alloc (Nat.le_refl _) _
  have P0 := pen_new w
  have O0 := own_new w.heap.size w.heap.size (Nat.le_refl _)
  have S0 : w.heap.size ≤ (w.alloc (.cells #[.slice none 0 0, .int .i64 0] 26)).heap.size := B0.size
  generalize w.alloc (.cells #[.slice none 0 0, .int .i64 0] 26) = w0 at B0 P0 S0 ⊢
  refine (put_any w.heap.size 5 3 _ _ (by simp) w0 P0).mono ?_
  rintro e w1 ⟨rfl, v1, P1, C1, K1⟩
  rw [show isF 5 3 = true from by decide]
  rw [show ([] : List Nat) ++ putB 5 3 = [1, 0, 1] from by decide] at P1
  have O1 := O0.next S0 K1
  have B1 := B0.trans ((O0.chg C1).below S0 fun _ h => h)
  have S1 := B1.size
  clear P0 O0 S0 B0 C1 K1
  go_wp2_with fail
  refine (put_any w.heap.size 1 2 _ _ (by simp) w1 P1).mono ?_
  rintro e w2 ⟨rfl, v2, P2, C2, K2⟩
  rw [show isF 1 2 = true from by decide]
  rw [show ([1, 0, 1] : List Nat) ++ putB 1 2 = [1, 0, 1, 0, 1] from by decide] at P2
  have O2 := O1.next S1 K2
  have B2 := B1.trans ((O1.chg C2).below S1 fun _ h => h)
  have S2 := B2.size
  clear P1 O1 S1 B1 C2 K2
  go_wp2_with fail
  refine (put_any w.heap.size 2 1 _ _ (by simp) w2 P2).mono ?_
  rintro e w3 ⟨rfl, v3, P3, C3, K3⟩
  rw [show isF 2 1 = false from by decide]
  rw [show ([1, 0, 1, 0, 1] : List Nat) ++ putB 2 1 = [1, 0, 1, 0, 1] from by decide] at P3
  have O3 := O2.next S2 K3
  have B3 := B2.trans ((O2.chg C3).below S2 fun _ h => h)
  have S3 := B3.size
  clear P2 O2 S2 B2 C3 K3
  go_wp2_with fail
  refine (bytes_any w.heap.size v3 _ (by simp) w3 P3).mono ?_
  rintro e w4 ⟨g, rfl, hg, R4, C4⟩
  rw [show pack [1, 0, 1, 0, 1] = [168] from by decide] at R4 ⊢
  have P4 := P3.kept C4 (fun _ _ h => h)
  have B4 := B3.trans ((C4.below (Nat.le_refl _) (fun _ h => h.elim)).mono S3)
  have S4 := B4.size
  have hgw : w.heap.size ≤ g := by omega
  clear P3 B3 S3 C4 hg
  go_wp2_with fail
  refine (look_any (some ⟨g, 0, none⟩) 1 [168] (by decide) (by decide) w4 R4.reads).mono ?_
  rintro e w5 ⟨eb, g5, rfl, hg5, heb, E5, C5⟩
  have P5 := P4.kept C5 (fun _ _ h => h)
  have B5 := B4.trans ((C5.below (Nat.le_refl _) (fun _ h => h.elim)).mono S4)
  have S5 := B5.size
  have hebn : ¬ eb = w.heap.size ∧ ∀ k, v3.ownBlock = some k → ¬ eb = k := by
    have h1 := P4.lt
    refine ⟨by omega, fun k hk => ?_⟩
    have h2 := ownsRow_lt P4.row hk
    omega
  have HEB := Hid.intro hebn
  have hebw : w.heap.size ≤ eb := by omega
  clear P4 B4 S4 C5 R4 hgw hg5 heb hebn
  go_wp2_with fail
  refine (get_any eb g5 [168] 0 3 w5 E5).mono ?_
  rintro e w6 ⟨rfl, E6, C6⟩
  rw [show getN [168] 0 3 = 5 from by decide, show getOk [168] 0 3 = true from by decide]
  rw [show getP [168] 0 3 = 3 from by decide] at E6
  have P6 := P5.kept C6 (fun k hk e => by
    rcases hk with hk | hk
    · exact HEB.out.1 (e.symm.trans hk)
    · exact HEB.out.2 k hk e.symm)
  have B6 := B5.trans (C6.below S5 (fun k h => by rw [h]; exact hebw))
  have S6 := B6.size
  clear P5 B5 S5 C6 E5
  go_wp2_with fail
  refine (len_any w.heap.size v3 _ w6 P6).mono ?_
  rintro e w7 ⟨rfl, rfl⟩
  go_wp2_with fail
  refine (left_any eb g5 [168] 3 w6 E6).mono ?_
  rintro e w7 ⟨rfl, n7, rfl⟩
  have P7 : PenAt (w6.drewN n7) w.heap.size v3 [1, 0, 1, 0, 1] := P6.kept ((Chg.refl (fun _ => False) _).drewN n7) (fun _ _ h => h)
  have B7 : Below w.heap.size w (w6.drewN n7) := ⟨B6.os, B6.tape, B6.output, B6.size, B6.block⟩
  generalize w6.drewN n7 = w7 at P7 B7 ⊢
  have S7 := B7.size
  clear P6 B6 S6 E6
  go_wp2_with fail
  refine (bytes_any w.heap.size v3 _ (by simp) w7 P7).mono ?_
  rintro e w8 ⟨g8, rfl, hg8, R8, C8⟩
  rw [show pack [1, 0, 1, 0, 1] = [168] from by decide] at R8 ⊢
  have B8 := B7.trans ((C8.below (Nat.le_refl _) (fun _ h => h.elim)).mono S7)
  have S8 := B8.size
  clear P7 B7 S7 C8 hg8
  go_wp2_with fail
  have R9 : RowIs (w8.alloc (.cells #[.int .u8 168] 5)) g8 [168] := R8.kept ((Chg.refl (fun _ => False) _).alloc _) (fun h => h)
  have Q9 : RowIs (w8.alloc (.cells #[.int .u8 168] 5)) w8.heap.size [168] := heap_alloc_new _ _
  have B9 := B8.alloc S8 (.cells #[.int .u8 168] 5)
  refine (same_true (some ⟨g8, 0, none⟩) (some ⟨w8.heap.size, 0, none⟩) 1 1 [168] (by decide) _ R9.reads Q9.reads).mono ?_
  rintro e w9 ⟨rfl, n9, rfl⟩
  go_wp2
  go_ret
  exact ⟨rfl, ⟨B9.os, B9.tape, B9.output, B9.size, B9.block⟩⟩
end Go.Proofs.Ytfmnnhpadpjegaa
