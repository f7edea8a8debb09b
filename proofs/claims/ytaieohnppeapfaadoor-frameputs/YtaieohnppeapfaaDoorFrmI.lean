/- Package frame: Parse of whatever bytes, and Heard. -/
import Derived.Test.YtaieohnppeapfaaDoorFrmH
import Derived.Test.YtaieohnppeapfaaDoorFrmE
namespace Go.Proofs.YtaieohnppeapfaaDoor
open Go.RowKit
open Bt

theorem parse_any (a : Option Addr) (cap : Nat) (bs : List Nat) (h300 : bs.length ≤ 100000) (hcap : bs.length ≤ cap) (hcm : cap ≤ 9223372036854775807) (h256 : ∀ b ∈ bs, b < 256) (w : World) (hw : Wid w) (hr : Reads w a bs) :
    Calls Tryd.prog 17 #[.slice a bs.length cap] w (ParseP bs w) := by
  by_cases h : bs.length < 11
  · exact parse_short a cap bs h w
  · obtain ⟨bb, off, rfl, _⟩ := reads_at hr (by omega)
    exact parse_long bb off cap bs (by omega) h300 hcap hcm h256 w hw hr

/-- How bytes are heard. -/
def heardF (bs : List Nat) (an rs : Int) : List Nat :=
  if parseE bs = 0 then putF ((readB (bs.take 4) / 16777216 : Nat) : Int) ((readB (bs.take 4) / 4096 % 4096 : Nat) : Int) an rs ((readB (bs.take 4) % 4 : Nat) : Int) ((bs.drop 7).take (bs.getD 4 0)) else []

set_option maxRecDepth 100000 in
set_option maxHeartbeats 1000000 in
theorem heard_any (a : Option Addr) (cap : Nat) (bs : List Nat) (an rs : Int) (h300 : bs.length ≤ 100000) (hcap : bs.length ≤ cap) (hcm : cap ≤ 9223372036854775807) (h256 : ∀ b ∈ bs, b < 256) (w : World) (hw : Wid w) (hr : Reads w a bs) :
    Calls Tryd.prog 19 #[.slice a bs.length cap, .int .i64 an, .int .i64 rs] w fun e w' => ∃ ao c, e = .returned (.slice ao (heardF bs an rs).length c) ∧ Reads w' ao (heardF bs an rs) ∧ (ao = none → c = 0) ∧ ((heardF bs an rs).length ≤ c ∧ c ≤ 9223372036854775807) ∧ (∀ ad, ao = some ad → w.heap.size ≤ ad.block) ∧ Below w.heap.size w w' := by
  have SP := Hid.intro (parse_any a cap bs h300 hcap hcm h256 w hw hr)
  have HW := Hid.intro hw
  have hDb : ∀ x ∈ (bs.drop 7).take (bs.getD 4 0), x < 256 := mem_take' (mem_drop' h256 7) _
  clear hr hw h256
  obtain ⟨FB, hFB⟩ : ∃ F, F = heardF bs an rs := ⟨_, rfl⟩
  rw [← hFB]
  have HFB := Hid.intro hFB
  have HDB := Hid.intro hDb
  clear hFB hDb
  go_enter Tryd.func19, Tryd.ntmps19
  go_wp2_with fail
  refine SP.out.mono ?_
  rintro e w1 ⟨B1, h⟩
  clear SP
  rcases h with ⟨hE, rfl⟩ | ⟨hE, ao, c, rfl, hr1, hn1, hc1, hf1⟩
  · have hno : FB = [] := by rw [HFB.out]; unfold heardF; rw [if_neg hE]
    subst hno
    have hne : (((parseE bs : Nat) : Int) != 0) = true := by rw [bne_iff_ne]; omega
    generalize parseE bs = E at hne
    clear hE HFB
    have BA := Hid.intro (fun o => B1.alloc B1.size o)
    clear B1
    go_wp2
    go_ret
    exact ⟨none, 0, rfl, fun h => absurd h (by simp), fun _ => rfl, ⟨Nat.le_refl _, by decide⟩, (fun ad e => by cases e), BA.out _⟩
  · unfold heardF at HFB
    rw [if_pos hE] at HFB
    clear hE
    obtain ⟨DS, hDS⟩ : ∃ D, D = (bs.drop 7).take (bs.getD 4 0) := ⟨_, rfl⟩
    rw [← hDS] at HFB hr1 hc1 HDB ⊢
    clear hDS
    generalize ((readB (bs.take 4) / 16777216 : Nat) : Int) = T0 at HFB ⊢
    generalize ((readB (bs.take 4) / 4096 % 4096 : Nat) : Int) = T1 at HFB ⊢
    generalize ((readB (bs.take 4) / 512 % 8 : Nat) : Int) = T2 at HFB ⊢
    generalize ((readB (bs.take 4) / 4 % 128 : Nat) : Int) = T3 at HFB ⊢
    generalize ((readB (bs.take 4) % 4 : Nat) : Int) = T4 at HFB ⊢
    have BA := B1.alloc B1.size (.cells #[.int .i64 T0, .int .i64 T1, .int .i64 an, .int .i64 rs, .int .i64 T4, .slice ao DS.length c] 24)
    have R1 := Hid.intro hr1
    have N1 := Hid.intro hn1
    have HB1 := Hid.intro B1
    have HBA := Hid.intro BA
    clear hr1 hn1 hf1 B1 BA
    go_wp2_with fail
    have BX := (Below.refl _ w1).alloc (Nat.le_refl _) (.cells #[.int .i64 T0, .int .i64 T1, .int .i64 an, .int .i64 rs, .int .i64 T4, .slice ao DS.length c] 24)
    have SQ := put_frame T0 T1 an rs T4 ao c DS N1.out HDB.out _ ((HW.out.below HB1.out).below BX) (R1.out.below BX)
    rw [← HFB.out] at SQ
    refine SQ.mono ?_
    rintro e w2 ⟨ao2, c2, rfl, hr2, hn2, hc2, hf2, B2⟩
    have D2 := HBA.out.trans (B2.mono HBA.out.size)
    have HR2 := Hid.intro hr2
    have HN2 := Hid.intro hn2
    have HF2 : Hid (∀ ad, ao2 = some ad → w.heap.size ≤ ad.block) := fun ad h => Nat.le_trans HBA.out.size (hf2 ad h)
    clear hr2 hn2 hf2 SQ BX B2
    go_wp2
    go_ret
    exact ⟨ao2, c2, rfl, HR2.out, HN2.out, hc2, HF2.out, D2⟩

end Go.Proofs.YtaieohnppeapfaaDoor
