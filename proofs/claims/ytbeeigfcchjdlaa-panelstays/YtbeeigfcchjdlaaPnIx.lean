/- slices.IndexFunc over a row of alarms of one's own, by whatever predicate; slices.ContainsFunc. -/
import Derived.Test.YtbeeigfcchjdlaaPnVal
namespace Go.Proofs.Ytbeeigfcchjdlaa
open Go.RowKit
open Pn

/-- What is asked of a predicate: in whatever world in which all but the row lies as it lay it answers, and leaves all as it is. -/
def Pred (gf : Nat) (cb : Array Value) (p : Al → Bool) (g : Nat) (w : World) : Prop :=
  ∀ (a : Al) (W : World), Chg (fun k => k = g) w W → Calls Try.prog gf (#[Avv a] ++ cb) W fun e w' => e = .returned (.bool (p a)) ∧ Below W.heap.size W w'

theorem Pred.chg {gf : Nat} {cb : Array Value} {p : Al → Bool} {g : Nat} {w w1 : World} (h : Pred gf cb p g w) (hc : Chg (fun k => k = g) w w1) : Pred gf cb p g w1 :=
  fun a W hW => h a W (hc.trans hW (fun _ q _ => q))

theorem below_chgA {w w1 : World} {g : Nat} (h : Below w.heap.size w w1) : Chg (fun k => k = g) w w1 := (below_chg h).mono (fun _ f _ => f.elim)

set_option maxRecDepth 100000 in
set_option maxHeartbeats 1000000 in
theorem pifunc_any (gf : Nat) (cb : Array Value) (p : Al → Bool) (eg : ∀ args w, (callFunc gf args).run Try.prog w = .ok (.enter gf args) w) (g c : Nat) (l : List Al) (hl : l.length ≤ 100) (w : World) (hp : Pred gf cb p g w)
    (own : w.ownsRow 0 48 5 (.slice (some ⟨g, 0, none⟩) l.length c) l.length (acells l)) :
    Calls Try.prog 38 #[.slice (some ⟨g, 0, none⟩) l.length c, .func (.func gf) #[] cb] w fun e w' => e = .returned (.int .i64 (posA p l)) ∧ Below w.heap.size w w' := by
  have HS := Hid.intro (fun t (ht : t < l.length) => al_at own ht)
  have HP := Hid.intro hp
  obtain ⟨P, hP⟩ : ∃ P, P = posA p l := ⟨_, rfl⟩
  have HQ := Hid.intro hP
  rw [← hP]
  clear own hp hP
  go_enter Try.func38, Try.ntmps38
  go_wp2_with fail
  go_loopw [8] (fun i ws => ∃ t : Nat, t ≤ l.length ∧ i = .int .i64 t ∧ Below w.heap.size w ws ∧ ∀ j, (hj : j < l.length) → j < t → p l[j] = false) (fun i _ => l.length - (intOf i).toNat)
  case atStart => exact ⟨0, by omega, rfl, Below.refl _ w, fun j _ hj => absurd hj (Nat.not_lt_zero _)⟩
  case round =>
    obtain ⟨t, ht, rfl, hB, hno⟩ := hrel
    have HNO := Hid.intro hno
    have BH := Hid.intro hB
    clear hno
    by_cases hlt : t < l.length
    · obtain ⟨c0, c1, c2, c3, c4⟩ := (HS.out t hlt).chg (below_chg hB) id
      have CL := Hid.intro (HP.out l[t] wr (below_chgA hB))
      have HIT := Hid.intro (fun (e : p l[t] = true) => posA_hit hlt e (fun j hj q => HNO.out j hj q))
      have NXT := Hid.intro (fun (e : p l[t] = false) j (hj : j < l.length) (h : j < t + 1) => (show p l[j] = false from by
        by_cases q : j < t
        · exact HNO.out j hj q
        · obtain rfl : j = t := by omega
          exact e))
      have t1 : (t : Int) < (l.length : Int) := by omega
      have t0 : (0 : Int) ≤ (t : Int) := by omega
      generalize p l[t] = r at *
      generalize l[t] = s at *
      obtain ⟨a0, a1, a2, a3, a4⟩ := s
      simp only at c0 c1 c2 c3 c4
      clear hB
      cases r with
      | true =>
        have HPP : Hid (P = (t : Int)) := by rw [Hid, HQ.out]; exact HIT.out rfl
        clear HIT NXT
        go_wp2_with fail
        refine CL.out.mono ?_
        rintro e w3 ⟨rfl, B3⟩
        have B3w := Hid.intro (BH.out.trans (B3.mono BH.out.size))
        clear CL B3 BH c0 c1 c2 c3 c4
        go_wp2
        go_ret
        exact ⟨by rw [HPP.out]; rfl, B3w.out⟩
      | false =>
        have NX := Hid.intro (NXT.out rfl)
        clear HIT NXT
        go_wp2_with fail
        refine CL.out.mono ?_
        rintro e w3 ⟨rfl, B3⟩
        have B3w := Hid.intro (BH.out.trans (B3.mono BH.out.size))
        clear CL B3 BH c0 c1 c2 c3 c4 HNO
        go_wp2
        go_roundw
        case rel => exact ⟨t + 1, by omega, by go_num, B3w.out, NX.out⟩
        case measure => simp [intOf]; omega
    · obtain rfl : t = l.length := by omega
      have t1 : ¬ (l.length : Int) < (l.length : Int) := by omega
      have HPP : Hid (P = -1) := by rw [Hid, HQ.out]; exact posA_miss (fun j hj => HNO.out j hj hj)
      go_wp2
      go_ret
      exact ⟨by rw [HPP.out]; rfl, BH.out⟩

theorem pifunc_empty (fv : Value) (w : World) :
    Calls Try.prog 38 #[.slice none 0 0, fv] w fun e w' => e = .returned (.int .i64 (-1)) ∧ Below w.heap.size w w' := by
  go_enter Try.func38, Try.ntmps38
  go_wp2_with fail
  go_loopw [8] (fun i ws => i = .int .i64 0 ∧ ws = w) (fun i _ => (intOf i).toNat)
  case atStart => exact ⟨rfl, rfl⟩
  case round =>
    obtain ⟨rfl, rfl⟩ := hrel
    go_wp2
    go_ret
    exact ⟨rfl, Below.refl _ _⟩

/-- A row's block; 0. -/
def blkA (v : Value) : Nat := v.ownBlock.getD 0

/-- Over whatever row of one's own, a nil one too. -/
theorem pifunc_all (gf : Nat) (cb : Array Value) (p : Al → Bool) (eg : ∀ args w, (callFunc gf args).run Try.prog w = .ok (.enter gf args) w) (v : Value) (l : List Al) (hl : l.length ≤ 100) (w : World) (hp : Pred gf cb p (blkA v) w)
    (own : w.ownsRow 0 48 5 v l.length (acells l)) :
    Calls Try.prog 38 #[v, .func (.func gf) #[] cb] w fun e w' => e = .returned (.int .i64 (posA p l)) ∧ Below w.heap.size w w' := by
  rcases own.2 with ⟨hv, h0⟩ | ⟨g, cap, cur, hv, _⟩
  · subst hv
    have e : l = [] := List.eq_nil_of_length_eq_zero h0
    subst e
    exact pifunc_empty _ w
  · subst hv
    exact pifunc_any gf cb p eg g cap l hl w hp own

set_option maxRecDepth 100000 in
theorem pcfunc_all (gf : Nat) (cb : Array Value) (p : Al → Bool) (eg : ∀ args w, (callFunc gf args).run Try.prog w = .ok (.enter gf args) w) (v : Value) (l : List Al) (hl : l.length ≤ 100) (w : World) (hp : Pred gf cb p (blkA v) w)
    (own : w.ownsRow 0 48 5 v l.length (acells l)) :
    Calls Try.prog 29 #[v, .func (.func gf) #[] cb] w fun e w' => e = .returned (.bool (l.any p)) ∧ Below w.heap.size w w' := by
  have IX := Hid.intro (pifunc_all gf cb p eg v l hl w hp own)
  obtain ⟨ao, c, rfl, _⟩ := ownsRow_form own
  rcases posA_ways p l with ⟨p1, p2, p3⟩ | ⟨i, hi, p1, p2, p3, p4⟩
  · have e : l.any p = false := by rw [List.any_eq_false]; intro x hx; rw [p3 x hx]; simp
    rw [e]
    rw [p1] at IX
    clear own hp p1 p2 p3 e
    go_enter Try.func29, Try.ntmps29
    go_wp2_with fail
    refine IX.out.mono ?_
    rintro e w1 ⟨rfl, B1⟩
    have BH := Hid.intro B1
    clear B1 IX
    go_wp2
    go_ret
    exact ⟨rfl, BH.out⟩
  · have e : l.any p = true := by rw [List.any_eq_true]; exact ⟨l[i], List.getElem_mem hi, p3⟩
    rw [e]
    rw [p1] at IX
    have i0 : (0 : Int) ≤ (i : Int) := by omega
    clear own hp p1 p2 p3 p4 e
    go_enter Try.func29, Try.ntmps29
    go_wp2_with fail
    refine IX.out.mono ?_
    rintro e w1 ⟨rfl, B1⟩
    have BH := Hid.intro B1
    clear B1 IX
    go_wp2
    go_ret
    exact ⟨rfl, BH.out⟩

end Go.Proofs.Ytbeeigfcchjdlaa
