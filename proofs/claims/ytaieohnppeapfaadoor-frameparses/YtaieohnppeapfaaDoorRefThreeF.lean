/- The document's own Parse of whatever bytes, and its Heard. -/
import Derived.Test.YtaieohnppeapfaaDoorRefThreeE
namespace Go.Proofs.YtaieohnppeapfaaDoor
open Go.RowKit
open Bt

/-- What the document's Parse answers. -/
def RefParseP (bs : List Nat) (w : World) (e : Ending) (w' : World) : Prop :=
  Below w.heap.size w w' ∧
    ((parseE bs ≠ 0 ∧ e = .returned (.tuple #[Fr 0 0 0 0 0 none 0 0, .int .i64 ((parseE bs : Nat) : Int)])) ∨
     (parseE bs = 0 ∧ ∃ ao c, e = .returned (.tuple #[Fr ((readB (bs.take 4) / 16777216 : Nat) : Int) ((readB (bs.take 4) / 4096 % 4096 : Nat) : Int) ((readB (bs.take 4) / 512 % 8 : Nat) : Int) ((readB (bs.take 4) / 4 % 128 : Nat) : Int) ((readB (bs.take 4) % 4 : Nat) : Int) ao ((bs.drop 7).take (bs.getD 4 0)).length c, .int .i64 0]) ∧
       Reads w' ao ((bs.drop 7).take (bs.getD 4 0)) ∧ (ao = none → c = 0)))

theorem refParse_any (a : Option Addr) (cap : Nat) (bs : List Nat) (h300 : bs.length ≤ 300) (hcap : bs.length ≤ cap) (hcm : cap ≤ 9223372036854775807) (h256 : ∀ b ∈ bs, b < 256) (w : World) (hr : Reads w a bs) :
    Calls Tryd.prog 18 #[.slice a bs.length cap] w (RefParseP bs w) := by
  by_cases h : bs.length < 11
  · refine (refParse_short a cap bs h w).mono ?_
    have hE : parseE bs = 2 := by unfold parseE; rw [if_pos h]
    rintro e w' ⟨rfl, B⟩
    refine ⟨B, .inl ⟨by rw [hE]; decide, by rw [hE]; rfl⟩⟩
  · obtain ⟨bb, off, rfl, _⟩ := reads_at hr (by omega)
    by_cases hE : parseE bs = 0
    · refine (refParse_good bb off cap bs (by omega) h300 hcap hcm h256 hE w hr).mono ?_
      rintro e w' ⟨ao, c, rfl, r, n, B⟩
      exact ⟨B, .inr ⟨hE, ao, c, rfl, r, n⟩⟩
    · refine (refParse_bad bb off cap bs (by omega) h300 hcap hcm h256 hE w hr).mono ?_
      rintro e w' ⟨rfl, B⟩
      exact ⟨B, .inl ⟨hE, rfl⟩⟩

/-- How the document hears bytes. -/
def rheardF (bs : List Nat) (an rs : Int) : List Nat :=
  if parseE bs = 0 then putF ((readB (bs.take 4) / 16777216 : Nat) : Int) ((readB (bs.take 4) / 4096 % 4096 : Nat) : Int) an rs ((readB (bs.take 4) % 4 : Nat) : Int) ((bs.drop 7).take (bs.getD 4 0)) else []

set_option maxRecDepth 100000 in
set_option maxHeartbeats 1000000 in
theorem refHeard_any (a : Option Addr) (cap : Nat) (bs : List Nat) (an rs : Int) (h300 : bs.length ≤ 300) (hcap : bs.length ≤ cap) (hcm : cap ≤ 9223372036854775807) (h256 : ∀ b ∈ bs, b < 256) (w : World) (hr : Reads w a bs) :
    Calls Tryd.prog 20 #[.slice a bs.length cap, .int .i64 an, .int .i64 rs] w fun e w' => ∃ ao c, e = .returned (.slice ao (rheardF bs an rs).length c) ∧ Reads w' ao (rheardF bs an rs) ∧ Below w.heap.size w w' := by
  have SP := Hid.intro (refParse_any a cap bs h300 hcap hcm h256 w hr)
  have hDb : ∀ x ∈ (bs.drop 7).take (bs.getD 4 0), x < 256 := mem_take' (mem_drop' h256 7) _
  clear hr h256
  obtain ⟨FB, hFB⟩ : ∃ F, F = rheardF bs an rs := ⟨_, rfl⟩
  rw [← hFB]
  have HFB := Hid.intro hFB
  have HDB := Hid.intro hDb
  clear hFB hDb
  go_enter Tryd.func20, Tryd.ntmps20
  go_wp2_with fail
  refine SP.out.mono ?_
  rintro e w1 ⟨B1, h⟩
  clear SP
  rcases h with ⟨hE, rfl⟩ | ⟨hE, ao, c, rfl, hr1, hn1⟩
  · have hno : FB = [] := by rw [HFB.out]; unfold rheardF; rw [if_neg hE]
    subst hno
    have hne : (((parseE bs : Nat) : Int) != 0) = true := by rw [bne_iff_ne]; omega
    generalize parseE bs = E at hne
    clear hE HFB
    have BA := Hid.intro (fun o => B1.alloc B1.size o)
    clear B1
    go_wp2
    go_ret
    exact ⟨none, 0, rfl, fun h => absurd h (by simp), BA.out _⟩
  · unfold rheardF at HFB
    rw [if_pos hE] at HFB
    clear hE
    obtain ⟨DS, hDS⟩ : ∃ D, D = (bs.drop 7).take (bs.getD 4 0) := ⟨_, rfl⟩
    rw [← hDS] at HFB hr1 HDB ⊢
    clear hDS
    generalize ((readB (bs.take 4) / 16777216 : Nat) : Int) = T0 at HFB ⊢
    generalize ((readB (bs.take 4) / 4096 % 4096 : Nat) : Int) = T1 at HFB ⊢
    generalize ((readB (bs.take 4) / 512 % 8 : Nat) : Int) = T2 at HFB ⊢
    generalize ((readB (bs.take 4) / 4 % 128 : Nat) : Int) = T3 at HFB ⊢
    generalize ((readB (bs.take 4) % 4 : Nat) : Int) = T4 at HFB ⊢
    have BA := B1.alloc B1.size (.cells #[.int .i64 T0, .int .i64 T1, .int .i64 an, .int .i64 rs, .int .i64 T4, .slice ao DS.length c] 24)
    have R1 := Hid.intro hr1
    have N1 := Hid.intro hn1
    have HB1 := Hid.intro B1
    have HBA := Hid.intro BA
    clear hr1 hn1 B1 BA
    go_wp2_with fail
    have BX := (Below.refl _ w1).alloc (Nat.le_refl _) (.cells #[.int .i64 T0, .int .i64 T1, .int .i64 an, .int .i64 rs, .int .i64 T4, .slice ao DS.length c] 24)
    have SQ := refPut_any T0 T1 an rs T4 ao c DS N1.out HDB.out _ (R1.out.below BX)
    rw [← HFB.out] at SQ
    refine SQ.mono ?_
    rintro e w2 ⟨ao2, c2, rfl, hr2, B2⟩
    have D2 := HBA.out.trans (B2.mono HBA.out.size)
    have HR2 := Hid.intro hr2
    clear hr2 SQ BX B2
    go_wp2
    go_ret
    exact ⟨ao2, c2, rfl, HR2.out, D2⟩

end Go.Proofs.YtaieohnppeapfaaDoor
