/- container/heap over jobs: Push, Pop. -/
import Derived.Test.YtgcpkploeobafaaHpD
namespace Go.Proofs.Ytgcpkploeobafaa
open Go.RowKit
open Bt

/-- One more behind them. -/
def updH (h : Nat → It) (n : Nat) (x : It) : Nat → It := fun k => if k = n then x else h k

theorem heapF_upd {h : Nat → It} {n : Nat} (x : It) (hH : HeapF ltI 0 h n) : HeapF ltI 0 (updH h n x) n := by
  intro k k0 kn km
  have hp := par_lt k0
  unfold updH
  rw [if_neg (by omega), if_neg (by omega)]
  exact hH k k0 kn km

/-- What a call leaves: other blocks may be the heap's. -/
def Left12 (HM : (Nat → Prop) → World → (Nat → It) → Nat → Prop) (S : Nat → Prop) (w w' : World) (n : Nat) (l : List It) : Prop := ∃ S' h', HM S' w' h' n ∧ HeapF ltI 0 h' n ∧ ((List.range n).map h').Perm l ∧ Chg S w w' ∧ ∀ k, S' k → S k ∨ w.heap.size ≤ k

set_option maxRecDepth 100000 in
set_option maxHeartbeats 1000000 in
theorem hpush_any {b o : Nat} {HM : (Nat → Prop) → World → (Nat → It) → Nat → Prop} (HCs : ∀ S, HeapC b o S (HM S)) (S : Nat → Prop) (h : Nat → It) (n : Nat) (hn : n ≤ 900) (x : It) (xv : Value) (hH : HeapF ltI 0 h n) (w : World)
    (hm : ∀ fuel, (method (fuel + 1) 61 (.pointer (some ⟨b, o, none⟩)) "Push").run Try.prog w = .ok (62, .pointer (some ⟨b, o, none⟩)) w)
    (hp : Calls Try.prog 62 #[.pointer (some ⟨b, o, none⟩), xv] w fun e w' => e = .returned (.tuple #[]) ∧ ∃ S', HM S' w' (updH h n x) (n + 1) ∧ Chg S w w' ∧ ∀ k, S' k → S k ∨ w.heap.size ≤ k) :
    Calls Try.prog 31 #[hpV b o, xv] w fun e w' => e = .returned (.tuple #[]) ∧ Left12 HM S w w' (n + 1) ((List.range (n + 1)).map (updH h n x)) := by
  have HP := Hid.intro hp
  have HCH := Hid.intro HCs
  have UP := Hid.intro (up_start (heapF_upd x hH))
  clear hp HCs hH
  generalize updH h n x = g at *
  go_enter Try.func31, Try.ntmps31
  go_wp2_with fail
  refine HP.out.mono ?_
  rintro e w1 ⟨rfl, S1, M1, C1, s1⟩
  obtain ⟨v, hml, hl⟩ := (HCH.out S1).len w1 g (n + 1) M1
  have LN := Hid.intro hl
  have C1H := Hid.intro C1
  have s1H := Hid.intro s1
  have nn : ((n + 1 : Nat) : Int) - 1 = (n : Int) := by omega
  clear HP M1 C1 s1 hl hm
  go_wp2_with fail
  refine LN.out.mono ?_
  rintro e w2 ⟨rfl, M2, C2⟩
  have UPP := Hid.intro (hup_any (HCH.out S1) g n (n + 1) (by omega) (by omega) UP.out w2 M2)
  have C2H := Hid.intro (C1H.out.trans C2 (fun k q hk => (s1H.out k q).resolve_right (by omega)))
  have sz := C1H.out.size
  clear LN M2 C2 hml
  go_wp2_with fail
  refine UPP.out.mono ?_
  rintro e w3 ⟨rfl, h', M3, F3, P3, _, C3⟩
  have FIN : Hid (Left12 HM S w w3 (n + 1) ((List.range (n + 1)).map g)) := ⟨S1, h', M3, F3, P3, C2H.out.trans C3 (fun k q hk => (s1H.out k q).resolve_right (by omega)), s1H.out⟩
  clear UPP M3 F3 P3 C3
  go_wp2
  go_end0
  exact ⟨rfl, FIN.out⟩

/-- What a Pop leaves. -/
def LeftP (HM : (Nat → Prop) → World → (Nat → It) → Nat → Prop) (S : Nat → Prop) (w w' : World) (n : Nat) (l : List It) : Prop := ∃ h', HM S w' h' n ∧ HeapF ltI 0 h' n ∧ ((List.range n).map h').Perm l ∧ Chg S w w'

set_option maxRecDepth 100000 in
set_option maxHeartbeats 1000000 in
theorem hpop_any {b o : Nat} {HM : (Nat → Prop) → World → (Nat → It) → Nat → Prop} (HCs : ∀ S, HeapC b o S (HM S)) (S : Nat → Prop) (h : Nat → It) (n : Nat) (hn : n ≤ 900) (hH : HeapF ltI 0 h (n + 1)) (w : World) (hw : HM S w h (n + 1)) (IV : It → Value)
    (hm : ∀ (W : World) (fuel : Nat), (method (fuel + 1) 61 (.pointer (some ⟨b, o, none⟩)) "Pop").run Try.prog W = .ok (61, .pointer (some ⟨b, o, none⟩)) W)
    (hp : ∀ (W : World) (g : Nat → It), HM S W g (n + 1) → Calls Try.prog 61 #[.pointer (some ⟨b, o, none⟩)] W fun e w' => e = .returned (IV (g n)) ∧ HM S w' g n ∧ Chg S W w') :
    Calls Try.prog 34 #[hpV b o] w fun e w' => e = .returned (IV (h 0)) ∧ LeftP HM S w w' n ((List.range n).map (swp h 0 n)) := by
  have HP := Hid.intro hp
  have HCH := Hid.intro HCs
  obtain ⟨v, hml, hl⟩ := (HCs S).len w h (n + 1) hw
  have LN := Hid.intro hl
  have nn : ((n + 1 : Nat) : Int) - 1 = (n : Int) := by omega
  have DP := Hid.intro (dn_pop hH)
  have S0 : Hid (swp h 0 n n = h 0) := by
    rw [Hid]
    unfold swp
    by_cases q : n = 0
    · subst q; rfl
    · rw [if_neg q, if_pos rfl]
  clear hp HCs hl hw hH
  go_enter Try.func34, Try.ntmps34
  go_wp2_with fail
  refine LN.out.mono ?_
  rintro e w1 ⟨rfl, M1, C1⟩
  obtain ⟨v2, hms, hs⟩ := (HCH.out S).swap w1 h (n + 1) M1
  have SW := Hid.intro (hs 0 n (by omega) (by omega))
  have C1H := Hid.intro C1
  clear LN M1 C1 hs hml
  go_wp2_with fail
  refine SW.out.mono ?_
  rintro e w2 ⟨rfl, M2, C2⟩
  have DN := Hid.intro (hdown_any (HCH.out S) (swp h 0 n) 0 0 n (n + 1) (by omega) (by omega) (by omega) DP.out w2 M2)
  have C2H := Hid.intro (C1H.out.trans C2 (fun _ q _ => q))
  clear SW M2 C2 hms
  go_wp2_with fail
  refine DN.out.mono ?_
  rintro e w3 ⟨bb, rfl, h', M3, F3, P3, R3, C3⟩
  have PO := HP.out w3 h' M3
  rw [R3 n (Nat.le_refl _), S0.out] at PO
  have POH := Hid.intro PO
  have hm3 := hm w3
  have C3H := Hid.intro (C2H.out.trans C3 (fun _ q _ => q))
  have F3H := Hid.intro F3
  have P3H := Hid.intro P3
  clear DN M3 F3 P3 R3 C3 PO HP
  go_wp2_with fail
  refine POH.out.mono ?_
  rintro e w4 ⟨rfl, M4, C4⟩
  have FIN : Hid (LeftP HM S w w4 n ((List.range n).map (swp h 0 n))) := ⟨h', M4, F3H.out, P3H.out, C3H.out.trans C4 (fun _ q _ => q)⟩
  clear POH M4 C4
  go_wp2
  go_ret
  exact ⟨rfl, FIN.out⟩

end Go.Proofs.Ytgcpkploeobafaa
