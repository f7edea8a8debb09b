/- Package frame: Parse. -/
import Derived.Test.YtaieohnppeapfaaDoorFrmF
import Derived.Test.YtaieohnppeapfaaDoorCrcB
import Derived.Test.YtaieohnppeapfaaDoorCrcC
import Derived.Lib.SliceRun
namespace Go.Proofs.YtaieohnppeapfaaDoor
open Go.RowKit
open Bt

/-- A slice of one's own: where it lies, and how it reads. -/
theorem owned_slice {w : World} {B : Nat} {v : Value} {bs : List Nat} (h : w.ownsRow 0 5 1 v bs.length (bs.map U)) (hk : ∀ k, v.ownBlock = some k → B ≤ k) :
    ∃ ao c, v = .slice ao bs.length c ∧ Reads w ao bs ∧ (ao = none → c = 0) ∧ bs.length ≤ c ∧ c ≤ 9223372036854775807 ∧ ∀ ad, ao = some ad → B ≤ ad.block := by
  obtain ⟨ao, c, rfl, hr, hb⟩ := row_of_owns h
  refine ⟨ao, c, rfl, hr, none_cap_of_owns h, ?_, ?_, fun ad e => hk _ (hb ad e)⟩
  · rcases h.2 with ⟨h', h0⟩ | ⟨g', cap', _, h', _, _, hn, _⟩
    · omega
    · cases h'; exact hn
  · rcases h.2 with ⟨h', h0⟩ | ⟨g', cap', _, h', _, _, _, hm, _⟩
    · have e := congrArg (fun v => match v with | Value.slice _ _ c => c | _ => 0) h'
      simp only at e
      omega
    · cases h'; unfold maxLen at hm; exact hm

/-- Clone of bytes that are not nil. -/
theorem clone_some (bb off cap : Nat) (ds : List Nat) (hl : ds.length ≤ 100000) (w : World) (hr : Reads w (some ⟨bb, off, none⟩) ds) :
    Calls Tryd.prog 32 #[.slice (some ⟨bb, off, none⟩) ds.length cap] w fun e w' => ∃ ao c, e = .returned (.slice ao ds.length c) ∧ Reads w' ao ds ∧ (ao = none → c = 0) ∧ (ds.length ≤ c ∧ c ≤ 9223372036854775807) ∧ (∀ ad, ao = some ad → w.heap.size ≤ ad.block) ∧ Below w.heap.size w w' := by
  have HR := Hid.intro hr
  clear hr
  have HB := Hid.intro ((Below.refl _ w).alloc (Nat.le_refl _) (.cells #[] 5))
  have ER := Hid.intro (empty_row w)
  have en := fun (w : World) => Lib.run_eql_slice_nil (P := Tryd.prog) w 22 5 (some ⟨bb, off, none⟩) ds.length cap 0 0 Tryd.underlying22
  go_enter Tryd.func32, Tryd.ntmps32
  go_wp2_with (at_builtin; refine append_bytes rfl _ _ rfl _ [] rfl ER.out (some ⟨bb, off, none⟩) ds.length cap ds rfl rfl (HR.out.below HB.out) (fun e => by cases e) (by simp; omega) ?_)
  intro v1 w1 hown hgrow hat
  obtain ⟨B1, N1⟩ := grown_step hgrow (by rw [World.size_alloc]; exact hat) HB.out (Nat.le_refl _) (fun k hk => by
    have e : w.heap.size = k := by simpa [Value.ownBlock] using hk
    omega)
  obtain ⟨ao, c, rfl, hr1, h1, h2, h3, h4⟩ := owned_slice hown N1
  clear hown hgrow hat N1
  have R1 := Hid.intro hr1
  have H1 := Hid.intro h1
  have H4 := Hid.intro h4
  clear hr1 h1 h4
  go_wp2
  go_ret
  exact ⟨ao, c, rfl, R1.out, H1.out, ⟨h2, h3⟩, H4.out, B1⟩

/-- What Parse answers of bytes: beside the error a zero frame; else the frame. -/
def ParseP (bs : List Nat) (w : World) (e : Ending) (w' : World) : Prop :=
  Below w.heap.size w w' ∧
    ((parseE bs ≠ 0 ∧ e = .returned (.tuple #[Fr 0 0 0 0 0 none 0 0, .int .i64 ((parseE bs : Nat) : Int)])) ∨
     (parseE bs = 0 ∧ ∃ ao c, e = .returned (.tuple #[Fr ((readB (bs.take 4) / 16777216 : Nat) : Int) ((readB (bs.take 4) / 4096 % 4096 : Nat) : Int) ((readB (bs.take 4) / 512 % 8 : Nat) : Int) ((readB (bs.take 4) / 4 % 128 : Nat) : Int) ((readB (bs.take 4) % 4 : Nat) : Int) ao ((bs.drop 7).take (bs.getD 4 0)).length c, .int .i64 0]) ∧
       Reads w' ao ((bs.drop 7).take (bs.getD 4 0)) ∧ (ao = none → c = 0) ∧ (((bs.drop 7).take (bs.getD 4 0)).length ≤ c ∧ c ≤ 9223372036854775807) ∧ (∀ ad, ao = some ad → w.heap.size ≤ ad.block)))

theorem parse_short (a : Option Addr) (cap : Nat) (bs : List Nat) (h : bs.length < 11) (w : World) :
    Calls Tryd.prog 17 #[.slice a bs.length cap] w (ParseP bs w) := by
  have hE : parseE bs = 2 := by unfold parseE; rw [if_pos h]
  have j : (bs.length : Int) < 11 := by omega
  have HE := Hid.intro hE
  clear hE h
  have B1 := Hid.intro (fun o1 => (Below.refl _ w).alloc (Nat.le_refl _) o1)
  go_enter Tryd.func17, Tryd.ntmps17
  go_wp2
  (try simp only [Exit.inBlock, Exit.then])
  refine bodyPost_ret (results_row_tmp rfl _ _ w.heap.size 24 ZC (0, 0) _ rfl (heap_alloc_new w _) Tryd.underlying24 rfl (by kernel_rfl)) rfl ?_
  refine ⟨B1.out _, .inl ⟨by rw [HE.out]; decide, ?_⟩⟩
  rw [HE.out]
  rfl

end Go.Proofs.YtaieohnppeapfaaDoor
