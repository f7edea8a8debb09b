/- A list of acts of layer 12 among a law's arguments; the laws' own 'few'. -/
import Derived.Test.YtgcpkploeobafaaEdArg
namespace Go.Proofs.Ytgcpkploeobafaa
open Go.ChangeShapes Go.WideShapes Go.ChangeAt Go.RowKit Go.Joins Go.Deep
open Bt

/-- An act: its kind, its number, its job. -/
structure Act12 where
  kind : Int
  n : Int
  j : Jb

/-- One act's cells. -/
def ActAt12 (w : World) (b o : Nat) (x : Act12) : Prop := w.cell? ⟨b, o, none⟩ = some (.int .i64 x.kind) ∧ w.cell? ⟨b, o + 1, none⟩ = some (.int .i64 x.n) ∧ JobAt w b (o + 2) x.j

theorem ActAt12.below {w w' : World} {b o : Nat} {x : Act12} (h : ActAt12 w b o x) (hb : Below w.heap.size w w') : ActAt12 w' b o x := ⟨(hb.cell (cell_lt h.1)).trans h.1, (hb.cell (cell_lt h.2.1)).trans h.2.1, h.2.2.below hb⟩

def ActsAt12 (w : World) (ao : Option Addr) (l : List Act12) : Prop := 0 < l.length → ∃ b off, ao = some ⟨b, off, none⟩ ∧ ∀ i, (hi : i < l.length) → ActAt12 w b (off + i * 9) l[i]

set_option maxRecDepth 100000 in
theorem act12_cells {H : Type} {enc : TypeId × Value → H} {w : World} {base n : Nat} {held : Bool} {b o : Nat} {cs : List Value} {y : DataW H × List MemPlace} (hl : cs.length = 9) (hc : ∀ j, j < 9 → w.cell? ⟨b, o + j, none⟩ = cs[j]?)
    (h : DataW.trod enc Try.prog w base (fun _ => true) held n 43 cs = some y) : ∃ q : Act12, ActAt12 w b o q := by
  match cs, hl with
  | [v0, v1, v2, v3, v4, v5, v6, v7, v8], _ =>
    obtain ⟨xs, m, _, _, _, hlen, hg⟩ := DataW.trod_struct Try.underlying43 h
    have g0 := hg 0 _ rfl
    have g1 := hg 1 _ rfl
    have g2 := hg 2 _ rfl
    clear hg
    have z0 : Try.prog.cellsOf 38 = 7 := by kernel_rfl
    have z1 : Try.prog.cellsOf 3 = 1 := by kernel_rfl
    match xs, hlen with
    | [y0, y1, y2], _ =>
      simp [z0, z1] at g0 g1 g2
      obtain ⟨jb, hj, _⟩ := job_cells (by rfl) g2
      obtain ⟨k, q0, _, _⟩ := DataW.trod_int Try.underlying3 g0
      obtain ⟨nn, q1, _, _⟩ := DataW.trod_int Try.underlying3 g1
      simp only [List.cons.injEq, and_true] at q0 q1
      subst q0 q1
      have c : ∀ t, t < 7 → w.cell? ⟨b, o + 2 + t, none⟩ = (jcell jb)[t]? := fun t ht => by
        rw [← hj, Nat.add_assoc, hc (2 + t) (by omega)]
        match t, ht with
        | 0, _ => rfl
        | 1, _ => rfl
        | 2, _ => rfl
        | 3, _ => rfl
        | 4, _ => rfl
        | 5, _ => rfl
        | 6, _ => rfl
      exact ⟨⟨k, nn, jb⟩, hc 0 (by omega), hc 1 (by omega), c 0 (by omega), c 1 (by omega), c 2 (by omega), c 3 (by omega), c 4 (by omega), c 5 (by omega), c 6 (by omega)⟩

set_option maxRecDepth 100000 in
theorem open_acts {H : Type} {enc : TypeId × Value → H} {w : World} {base : Nat} {held : Bool} {a : Option Addr} {len cap : Nat} {d : DataW H} {p : List MemPlace}
    (h : DataW.Trod enc Try.prog w base (fun _ => true) held 22 (.slice a len cap) d p) :
    ∃ (l : List Act12), l.length = len ∧ ActsAt12 w a l ∧ len ≤ maxLen := by
  obtain ⟨fuel, hf⟩ := h
  obtain ⟨h1, h2, h3, h4⟩ := open_cells Try.underlying22 (C := 9) (by kernel_rfl) (by decide) hf
  by_cases h0 : 0 < len
  · obtain ⟨b, off, n, rfl, hc⟩ := h4 h0
    have each : ∀ i, i < len → ∃ q : Act12, ActAt12 w b (off + i * 9) q := fun i hi => by
      obtain ⟨cs, y, hl, hcell, ht⟩ := hc i hi
      exact act12_cells hl (fun j hj => by rw [Nat.add_assoc]; exact hcell j hj) ht
    haveI : Inhabited Act12 := ⟨⟨0, 0, ⟨0, 0, 0, 0, 0, 0, 0⟩⟩⟩
    obtain ⟨q, hq⟩ := choose_lt each
    refine ⟨(List.range len).map q, by simp, fun _ => ⟨b, off, rfl, fun i hi => ?_⟩, by omega⟩
    have hi' : i < len := by simpa using hi
    simp only [List.getElem_map, List.getElem_range]
    exact hq i hi'
  · exact ⟨[], (by simp; omega), (fun hp => absurd hp (by simp)), by omega⟩

/-- May acts be looked at? -/
def few12A (a : Act12) : Bool := !(decide (a.kind = 1) && decide (5000 < a.n))
def few12B (l : List Act12) : Bool := decide (l.length ≤ 90) && l.all few12A

set_option maxRecDepth 100000 in
set_option maxHeartbeats 1000000 in
theorem few12_any (a : Option Addr) (cap : Nat) (l : List Act12) (w : World) (hr : ActsAt12 w a l) :
    Calls Try.prog 10 #[.slice a l.length cap] w fun e w' => e = .returned (.bool (few12B l)) ∧ w = w' := by
  have HR := Hid.intro hr
  obtain ⟨fb, hfb⟩ : ∃ fb, fb = few12B l := ⟨_, rfl⟩
  have HF := Hid.intro hfb
  rw [← hfb]
  obtain ⟨n, hn⟩ : ∃ n, n = l.length := ⟨_, rfl⟩
  have HN := Hid.intro hn
  rw [← hn]
  clear hr hfb hn
  by_cases h90 : 90 < n
  · have e : fb = false := by rw [HF.out]; unfold few12B; rw [decide_eq_false (by have := HN.out; omega)]; rfl
    subst e
    have z : (90 : Int) < (n : Int) := by omega
    go_enter Try.func10, Try.ntmps10
    go_wp2
    go_ret
    exact ⟨rfl, rfl⟩
  · have z : ¬ (90 : Int) < (n : Int) := by omega
    go_enter Try.func10, Try.ntmps10
    go_wp2_with fail
    go_loop [3] (fun iv => ∃ t : Nat, t ≤ n ∧ iv = .int .i64 t ∧ ∀ j, (hj : j < l.length) → j < t → few12A l[j] = true) (fun iv => n - (intOf iv).toNat)
    case atStart => exact ⟨0, by omega, rfl, fun j _ hj => absurd hj (Nat.not_lt_zero _)⟩
    case round =>
      obtain ⟨t, ht, rfl, hA⟩ := hrel
      have HA := Hid.intro hA
      clear hA
      by_cases hlt : t < n
      · have hlt' : t < l.length := by rw [← HN.out]; exact hlt
        have t0 : (0 : Int) ≤ (t : Int) := by omega
        have t1 : (t : Int) < (n : Int) := by omega
        obtain ⟨b, off, rfl, hc⟩ := HR.out (by omega)
        obtain ⟨c0, c1, _⟩ := hc t hlt'
        have NO : Hid (few12A l[t] = false → fb = false) := fun e => by
          rw [HF.out]
          unfold few12B
          have : l.all few12A = false := by rw [List.all_eq_false]; exact ⟨l[t], List.getElem_mem hlt', by rw [e]; simp⟩
          rw [this, Bool.and_false]
        have YES : Hid (few12A l[t] = true → ∀ j, (hj : j < l.length) → j < t + 1 → few12A l[j] = true) := fun e j hj h => by
          by_cases q : j < t
          · exact HA.out j hj q
          · obtain rfl : j = t := by omega
            exact e
        generalize l[t] = ac at *
        obtain ⟨kd, nn, jb⟩ := ac
        simp only at c0 c1
        clear hc HA
        by_cases k1 : kd = 1
        · by_cases k2 : 5000 < nn
          · have e := NO.out (by unfold few12A; simp [k1, k2])
            subst e
            subst k1
            clear NO YES
            go_wp2
            go_ret
            exact ⟨rfl, rfl⟩
          · have NX := Hid.intro (YES.out (by unfold few12A; simp [k2]))
            subst k1
            clear NO YES
            go_wp2
            go_round
            case rel => exact ⟨t + 1, by omega, by go_num, NX.out⟩
            case measure => simp [intOf]; omega
        · have NX := Hid.intro (YES.out (by unfold few12A; simp [k1]))
          have kb : (kd == 1) = false := by rw [beq_eq_false_iff_ne]; exact k1
          clear NO YES
          go_wp2
          go_round
          case rel => exact ⟨t + 1, by omega, by go_num, NX.out⟩
          case measure => simp [intOf]; omega
      · obtain rfl : t = n := by omega
        have t1 : ¬ (t : Int) < (t : Int) := by omega
        have e : fb = true := by
          rw [HF.out]
          unfold few12B
          rw [decide_eq_true (by have := HN.out; omega), Bool.true_and, List.all_eq_true]
          intro q hq
          obtain ⟨j, hj, rfl⟩ := List.getElem_of_mem hq
          exact HA.out j hj (by rw [HN.out]; exact hj)
        subst e
        go_wp2
        go_ret
        exact ⟨rfl, rfl⟩

theorem few12_true {l : List Act12} (h : few12B l = true) : l.length ≤ 90 ∧ ∀ a ∈ l, a.kind = 1 → a.n ≤ 5000 := by
  unfold few12B at h
  rw [Bool.and_eq_true, decide_eq_true_eq, List.all_eq_true] at h
  refine ⟨h.1, fun a ha hk => ?_⟩
  have := h.2 a ha
  unfold few12A at this
  rw [hk] at this
  simpa using this

end Go.Proofs.Ytgcpkploeobafaa
