/- Contracts of package bits: an eye. -/
import Derived.Test.YthbfdfkkacmbhabDoorBitsPen
namespace Go.Proofs.YthbfdfkkacmbhabDoor
open Go.RowKit
open Bt

/-- An eye at block eb, its row at block g, that looks at the bytes bs and has read so many bits. -/
structure EyeAt (w : World) (eb g : Nat) (bs : List Nat) (pos : Nat) : Prop where
  here : w.heap[eb]? = some (.cells #[.slice (some ⟨g, 0, none⟩) bs.length bs.length, .int .i64 pos] 59 (0, 0))
  row : RowIs w g bs
  byte : ∀ b ∈ bs, b < 256
  pos_le : pos ≤ 8 * bs.length
  len : bs.length < 2 ^ 36

theorem EyeAt.apart {w : World} {eb g : Nat} {bs : List Nat} {pos : Nat} (h : EyeAt w eb g bs pos) : ¬ g = eb := by
  intro e
  subst e
  have := h.row
  unfold RowIs at this
  rw [h.here] at this
  simp at this

theorem EyeAt.lt {w : World} {eb g : Nat} {bs : List Nat} {pos : Nat} (h : EyeAt w eb g bs pos) : eb < w.heap.size := lt_of_heap h.here

theorem EyeAt.kept {S : Nat → Prop} {w w' : World} {eb g : Nat} {bs : List Nat} {pos : Nat} (h : EyeAt w eb g bs pos) (hc : Chg S w w') (h1 : ¬ S eb) (h2 : ¬ S g) : EyeAt w' eb g bs pos :=
  ⟨by rw [hc.block eb h.lt h1]; exact h.here, h.row.kept hc h2, h.byte, h.pos_le, h.len⟩

/-- A step's store. -/
theorem EyeAt.step {w : World} {eb g : Nat} {bs : List Nat} {pos : Nat} (h : EyeAt w eb g bs pos) (hlt : pos < 8 * bs.length) :
    EyeAt (w.setCell ⟨eb, 1, none⟩ (.int .i64 (pos + 1))) eb g bs (pos + 1) := by
  refine ⟨?_, ?_, h.byte, by omega, h.len⟩
  · rw [heap_setCell_same _ eb 1 _ _ _ h.here]; simp
  · unfold RowIs; rw [heap_setCell_other _ _ _ _ (by simpa using h.apart)]; exact h.row

theorem look_any (ao : Option Addr) (cap : Nat) (bs : List Nat) (hb : bs.length < 2 ^ 36) (h256 : ∀ b ∈ bs, b < 256) (w : World) (hr : Reads w ao bs) :
    Calls Tryd.prog 20 #[.slice ao bs.length cap] w fun e w' => ∃ eb g, e = .returned (.pointer (some ⟨eb, 0, none⟩)) ∧ w.heap.size ≤ g ∧ w.heap.size ≤ eb ∧ EyeAt w' eb g bs 0 ∧ Chg (fun _ => False) w w' := by
  have HR := Hid.intro hr
  clear hr
  go_enter Tryd.func20, Tryd.ntmps20
  go_wp2_with fail
  refine (copied_any ao cap bs (by omega) w HR.out).mono ?_
  rintro e w1 ⟨g, rfl, hg, hrow, hc⟩
  have H1 := Hid.intro hrow
  have H2 := Hid.intro hc
  clear hrow hc
  go_wp2
  go_ret
  refine ⟨w1.heap.size, g, rfl, hg, H2.out.size, ⟨heap_alloc_new _ _, ?_, h256, Nat.zero_le _, hb⟩, H2.out.alloc _⟩
  unfold RowIs; rw [Below.heap_alloc _ _ _ H1.out.lt]; exact H1.out

theorem left_nil (w : World) :
    Calls Tryd.prog 32 #[.pointer none] w fun e w' => e = .returned (.int .i64 0) ∧ w = w' := by
  go_enter Tryd.func32, Tryd.ntmps32
  go_wp2
  go_ret
  exact ⟨rfl, rfl⟩

theorem left_any (eb g : Nat) (bs : List Nat) (pos : Nat) (w : World) (h : EyeAt w eb g bs pos) :
    Calls Tryd.prog 32 #[.pointer (some ⟨eb, 0, none⟩)] w fun e w' => e = .returned (.int .i64 ((8 * bs.length - pos : Nat) : Int)) ∧ ∃ n, w' = w.drewN n := by
  have c0 : w.cell? ⟨eb, 0, none⟩ = some (.slice (some ⟨g, 0, none⟩) bs.length bs.length) := by rw [cell_of_row w eb 0 _ _ _ h.here]; rfl
  have c1 : w.cell? ⟨eb, 1, none⟩ = some (.int .i64 pos) := by rw [cell_of_row w eb 1 _ _ _ h.here]; rfl
  have hl := h.len
  have hp := h.pos_le
  clear h
  go_enter Tryd.func32, Tryd.ntmps32
  go_wp2_with fail
  go_quiet (fail)
  go_wp2
  go_ret
  exact ⟨ret_int (by omega), nq, rfl⟩

set_option maxRecDepth 100000 in
set_option maxHeartbeats 400000 in
theorem read_any (eb g n len : Nat) (b : Nat) (hb : b < 256) (hn : n < 2 ^ 40) (hm : n / 8 < len) (w : World)
    (c0 : w.cell? ⟨eb, 0, none⟩ = some (.slice (some ⟨g, 0, none⟩) len len)) (c1 : w.cell? ⟨eb, 1, none⟩ = some (.int .i64 n))
    (f1 : w.frozen? ⟨eb, 1, none⟩ = false) (cg : w.cell? ⟨g, ((n : Int) / 8).toNat, none⟩ = some (U b)) :
    Calls Tryd.prog 33 #[.pointer (some ⟨eb, 0, none⟩)] w fun e w' => e = .returned (.int .i64 ((b / 2 ^ (7 - n % 8) % 2 : Nat) : Int)) ∧ ∃ nq, w' = (w.drewN nq).setCell ⟨eb, 1, none⟩ (.int .i64 (n + 1)) := by
  have h8 : n % 8 < 8 := Nat.mod_lt _ (by decide)
  have i0 : (0 : Int) ≤ (n : Int) / 8 := by omega
  have i1 : (n : Int) / 8 < (len : Int) := by omega
  have hq : (n : Int).tdiv 8 = (n : Int) / 8 := Int.tdiv_eq_ediv_of_nonneg (by omega)
  have hq1 : IntKind.i64.wrap ((n : Int).tdiv 8) = (n : Int) / 8 := by rw [hq]; exact IntWalk.i64_in _ (by omega)
  have hq2 : IntKind.i64.wrap ((n : Int) / 8) = (n : Int) / 8 := by rw [← hq]; exact hq1
  go_enter Tryd.func33, Tryd.ntmps33
  go_wp2_with fail
  go_quiet ((go_at_call 34; exact Calls.quiet_of_same (shiftOf_any n (by omega) _)))
  go_wp2
  go_ret
  refine ⟨ret_int ?_, nq, rfl⟩
  rw [IntWalk.i64_in _ (by omega)]
  exact and_bit b _ (by omega)

theorem EyeAt.drewN {w : World} {eb g : Nat} {bs : List Nat} {pos : Nat} (h : EyeAt w eb g bs pos) (n : Nat) : EyeAt (w.drewN n) eb g bs pos :=
  ⟨h.here, h.row, h.byte, h.pos_le, h.len⟩

/-- An eye's step: the bit that it is at, which is behind it then. -/
theorem read_eye (eb g : Nat) (bs : List Nat) (pos : Nat) (hpos : pos < 8 * bs.length) (w : World) (h : EyeAt w eb g bs pos) :
    Calls Tryd.prog 33 #[.pointer (some ⟨eb, 0, none⟩)] w fun e w' => e = .returned (.int .i64 (((unpack bs).getD pos 0 : Nat) : Int)) ∧ EyeAt w' eb g bs (pos + 1) ∧ Chg (fun k => k = eb) w w' := by
  have hl := h.len
  have hx : ((pos : Int) / 8).toNat = pos / 8 := by omega
  have hin : pos / 8 < bs.length := by omega
  have hb := h.byte (bs[pos / 8]'hin) (List.getElem_mem hin)
  refine (read_any eb g pos bs.length (bs[pos / 8]'hin) hb (by omega) hin w ?_ ?_ ?_ ?_).mono ?_
  · rw [cell_of_row w eb 0 _ _ _ h.here]; rfl
  · rw [cell_of_row w eb 1 _ _ _ h.here]; rfl
  · exact frozen_of_row w eb 1 _ _ h.here
  · have := h.row
    unfold RowIs at this
    rw [hx, cell_of_row w g _ _ _ _ this]
    simp [hin]
  · rintro e w' ⟨rfl, nq, rfl⟩
    refine ⟨?_, ?_, ((Chg.refl (fun k => k = eb) w).drewN nq).setCell (fun _ => rfl) _⟩
    · rw [unpack_getD bs pos hpos, List.getD_eq_getElem?_getD, List.getElem?_eq_getElem hin]; rfl
    · exact (h.drewN nq).step hpos

theorem get_nil (w : World) :
    Calls Tryd.prog 21 #[.pointer none, .int .i64 1] w fun e w' => e = .returned (.tuple #[.int .i64 0, .bool false]) ∧ w = w' := by
  go_enter Tryd.func21, Tryd.ntmps21
  go_wp2_with (first | (go_at_call 31; refine (isWidth_any _ _).mono ?_; rintro e w' ⟨rfl, rfl⟩; rw [show isW 1 = true from rfl]) | (go_at_call 32; refine (left_nil _).mono ?_; rintro e w' ⟨rfl, rfl⟩))
  go_ret2
  exact ⟨rfl, rfl⟩

/-- What Get answers where it reads nothing. -/
theorem get_no (eb g : Nat) (bs : List Nat) (pos : Nat) (m : Int) (w : World) (h : EyeAt w eb g bs pos) (hm : isW m = false ∨ ((8 * bs.length - pos : Nat) : Int) < m) :
    Calls Tryd.prog 21 #[.pointer (some ⟨eb, 0, none⟩), .int .i64 m] w fun e w' => e = .returned (.tuple #[.int .i64 0, .bool false]) ∧ ∃ n, w' = w.drewN n := by
  cases hw : isW m with
  | false =>
    clear h hm
    go_enter Tryd.func21, Tryd.ntmps21
    go_wp2_with (go_at_call 31; refine (isWidth_any _ _).mono ?_; rintro e w' ⟨rfl, rfl⟩; rw [hw])
    go_ret2
    exact ⟨rfl, 0, rfl⟩
  | true =>
    have hlt : ((8 * bs.length - pos : Nat) : Int) < m := by
      rcases hm with hm | hm
      · rw [hw] at hm; cases hm
      · exact hm
    obtain ⟨L, hL⟩ : ∃ L : Nat, L = 8 * bs.length - pos := ⟨_, rfl⟩
    have hl := left_any eb g bs pos w h
    rw [← hL] at hlt hl
    have HL := Hid.intro hl
    clear hl h hm hL
    go_enter Tryd.func21, Tryd.ntmps21
    go_wp2_with (first | (go_at_call 31; refine (isWidth_any _ _).mono ?_; rintro e w' ⟨rfl, rfl⟩; rw [hw]) | (go_at_call 32; refine (HL.out).mono ?_; rintro e w' ⟨rfl, n, rfl⟩))
    go_ret2
    exact ⟨rfl, n, rfl⟩

set_option maxHeartbeats 400000 in
/-- What Get answers where it reads. -/
theorem get_yes (eb g : Nat) (bs : List Nat) (pos m : Nat) (w : World) (h : EyeAt w eb g bs pos) (hm1 : 1 ≤ m) (hm2 : m ≤ 32) (hm : m ≤ 8 * bs.length - pos) :
    Calls Tryd.prog 21 #[.pointer (some ⟨eb, 0, none⟩), .int .i64 m] w fun e w' => e = .returned (.tuple #[.int .i64 ((num (((unpack bs).drop pos).take m) : Nat) : Int), .bool true]) ∧
      EyeAt w' eb g bs (pos + m) ∧ Chg (fun k => k = eb) w w' := by
  have hw : isW m = true := by simp [isW]; omega
  have hmf : ∀ (fn : Fn) (first cap : Array Value) (w : World), (Instr.makeFunc fn first cap).run Tryd.prog w = .ok (.func fn first cap) w := fun _ _ _ _ => rfl
  obtain ⟨L, hL⟩ : ∃ L : Nat, L = 8 * bs.length - pos := ⟨_, rfl⟩
  have hl := left_any eb g bs pos w h
  rw [← hL] at hm hl
  have HL := Hid.intro hl
  have HE := Hid.intro h
  have hpl := h.pos_le
  have HLL := Hid.intro hL
  have hdec : decide (L < m) = false := by simp; omega
  clear hl h hL
  go_enter Tryd.func21, Tryd.ntmps21
  go_wp2_with (first | (go_at_call 31; refine (isWidth_any _ _).mono ?_; rintro e w' ⟨rfl, rfl⟩; rw [hw]) | (go_at_call 32; refine (HL.out).mono ?_; rintro e w' ⟨rfl, n, rfl⟩))
  go_loopw [7, 20] (fun a i wr => ∃ k : Nat, k ≤ m ∧ i = .int .i64 k ∧ a = .int .i64 ((num (((unpack bs).drop pos).take k) : Nat) : Int) ∧ EyeAt wr eb g bs (pos + k) ∧ Chg (fun k => k = eb) w wr)
    (fun _ i _ => m - (intOf i).toNat)
  case atStart => exact ⟨0, by omega, rfl, rfl, HE.out.drewN _, (Chg.refl _ _).drewN _⟩
  case round =>
    obtain ⟨k, hk, rfl, rfl, hek, hck⟩ := hrel
    have HEK := Hid.intro hek
    have HCK := Hid.intro hck
    clear hek hck
    by_cases hlt : k < m
    · have hps : pos + k < 8 * bs.length := by have := HLL.out; omega
      have hst := num_take_succ (unpack bs) pos k (by rw [unpack_length]; exact hps)
      have hNlt := num_take_lt (unpack bs) (unpack_bits bs) pos k (by omega)
      have hbl := getD_bit (unpack bs) (unpack_bits bs) (pos + k)
      generalize num (((unpack bs).drop pos).take k) = N at hst hNlt ⊢
      have hrd := read_eye eb g bs (pos + k) hps wr HEK.out
      generalize (unpack bs).getD (pos + k) 0 = b at hst hbl hrd
      have HRD := Hid.intro hrd
      have hor : bits .or .i64 ((N : Int) * 2) (b : Int) = ((2 * N + b : Nat) : Int) := by
        rw [show (N : Int) * 2 = ((2 * N : Nat) : Int) from by omega]; exact or_bit N b (by omega) hbl
      have HOR := Hid.intro hor
      clear hrd hor
      have HST := Hid.intro hst
      clear hst
      go_wp2_with fail
      refine HRD.out.mono ?_
      rintro e w1 ⟨rfl, he1, hc1⟩
      have E1 := Hid.intro he1
      have C1 := Hid.intro hc1
      clear he1 hc1 HRD
      go_wp2
      go_roundw
      case rel => exact ⟨k + 1, by omega, by go_num, by rw [HOR.out, HST.out], E1.out, HCK.out.trans C1.out (fun i hi _ => hi)⟩
      case measure => simp [intOf]; omega
    · go_wp2
      go_ret2
      have e : k = m := by omega
      subst e
      exact ⟨rfl, HEK.out, HCK.out⟩

/-- Does Get read? -/
def getOk (bs : List Nat) (pos : Nat) (m : Int) : Bool := isW m && decide (m ≤ ((8 * bs.length - pos : Nat) : Int))

/-- The number that Get answers. -/
def getN (bs : List Nat) (pos : Nat) (m : Int) : Nat := if getOk bs pos m = true then num (((unpack bs).drop pos).take m.toNat) else 0

/-- Where the eye is behind Get. -/
def getP (bs : List Nat) (pos : Nat) (m : Int) : Nat := if getOk bs pos m = true then pos + m.toNat else pos

/-- Get, whatever it is handed. -/
theorem get_any (eb g : Nat) (bs : List Nat) (pos : Nat) (m : Int) (w : World) (h : EyeAt w eb g bs pos) :
    Calls Tryd.prog 21 #[.pointer (some ⟨eb, 0, none⟩), .int .i64 m] w fun e w' => e = .returned (.tuple #[.int .i64 ((getN bs pos m : Nat) : Int), .bool (getOk bs pos m)]) ∧
      EyeAt w' eb g bs (getP bs pos m) ∧ Chg (fun k => k = eb) w w' := by
  cases hok : getOk bs pos m with
  | false =>
    refine (get_no eb g bs pos m w h ?_).mono ?_
    · simp [getOk] at hok
      cases hw : isW m with
      | false => exact .inl rfl
      | true => right; exact hok hw
    · rintro e w' ⟨rfl, n, rfl⟩
      simp only [getN, getP, hok, Bool.false_eq_true, if_false]
      exact ⟨rfl, h.drewN n, (Chg.refl _ _).drewN n⟩
  | true =>
    have hok' := hok
    simp only [getOk, Bool.and_eq_true, decide_eq_true_eq] at hok'
    have hw := isW_true hok'.1
    obtain ⟨M, rfl⟩ := Int.eq_ofNat_of_zero_le (show 0 ≤ m by omega)
    refine (get_yes eb g bs pos M w h (by omega) (by omega) (by omega)).mono ?_
    rintro e w' ⟨rfl, h1, h2⟩
    simp only [getN, getP, hok, if_true, Int.toNat_natCast]
    exact ⟨trivial, h1, h2⟩

/-- A pen and an eye have no block in common that Get writes. -/
theorem eye_pen {w : World} {eb g : Nat} {bs : List Nat} {pos pb : Nat} {v : Value} {l : List Nat} (E : EyeAt w eb g bs pos) (P : PenAt w pb v l) : ∀ k, penFoot pb v k → ¬ k = eb := by
  intro k hk e
  rcases hk with hk | hk
  · have h1 := P.here
    rw [← hk, e, E.here] at h1
    simp at h1
  · exact row_not_block P.row E.here (by decide) (by rw [hk, e])

end Go.Proofs.YthbfdfkkacmbhabDoor
