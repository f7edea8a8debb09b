/- Plain: what is put and what is parsed, of whatever frame. -/
import Derived.Test.YtaieohnppeapfaaDoorFrmI
namespace Go.Proofs.YtaieohnppeapfaaDoor
open Bt

/-- A right frame's bytes say its fields. -/
theorem put_fields {tx sq an rs kd : Int} {ds : List Nat} (h : isFrm tx sq an rs kd ds.length = true) :
    parseE (putF tx sq an rs kd ds) = 0 ∧ ((readB ((putF tx sq an rs kd ds).take 4) / 16777216 : Nat) : Int) = tx ∧ ((readB ((putF tx sq an rs kd ds).take 4) / 4096 % 4096 : Nat) : Int) = sq ∧ ((readB ((putF tx sq an rs kd ds).take 4) / 512 % 8 : Nat) : Int) = an ∧
      ((readB ((putF tx sq an rs kd ds).take 4) / 4 % 128 : Nat) : Int) = rs ∧ ((readB ((putF tx sq an rs kd ds).take 4) % 4 : Nat) : Int) = kd ∧ ((putF tx sq an rs kd ds).drop 7).take ((putF tx sq an rs kd ds).getD 4 0) = ds := by
  have e1 : putF tx sq an rs kd ds = frmB (headN tx.toNat sq.toNat an.toNat rs.toNat kd.toNat) ds := by unfold putF; rw [if_pos h]
  have b := isFrm_iff.1 h
  have hN := headN_lt tx.toNat sq.toNat an.toNat rs.toNat kd.toNat (by omega) (by omega) (by omega) (by omega) (by omega)
  have f := headN_fields tx.toNat sq.toNat an.toNat rs.toNat kd.toNat (by omega) (by omega) (by omega) (by omega)
  obtain ⟨g1, g2, g3⟩ := frm_fields _ ds hN
  rw [e1, g1, g2]
  refine ⟨parse_frm _ ds (by omega), by omega, by omega, by omega, by omega, by omega, g3⟩

theorem heard_put {tx sq an rs kd : Int} {ds : List Nat} (h : isFrm tx sq an rs kd ds.length = true) (n s : Int) : heardF (putF tx sq an rs kd ds) n s = putF tx sq n s kd ds := by
  obtain ⟨p, f0, f1, f2, f3, f4, f5⟩ := put_fields h
  unfold heardF
  rw [if_pos p, f0, f1, f4, f5]

theorem putF_no {tx sq an rs kd : Int} {ds : List Nat} (h : isFrm tx sq an rs kd ds.length = false) : putF tx sq an rs kd ds = [] := by
  unfold putF; rw [if_neg (by rw [h]; simp)]

theorem putF_len {tx sq an rs kd : Int} {ds : List Nat} (h : isFrm tx sq an rs kd ds.length = true) : 11 ≤ (putF tx sq an rs kd ds).length ∧ (putF tx sq an rs kd ds).length ≤ 71 := by
  have := (isFrm_iff.1 h).2.2.2.2.2
  unfold putF; rw [if_pos h, frmB_length]; omega

theorem putF_byte {tx sq an rs kd : Int} {ds : List Nat} (hd : ∀ b ∈ ds, b < 256) : ∀ b ∈ putF tx sq an rs kd ds, b < 256 := by
  unfold putF
  split
  · rename_i h
    have := (isFrm_iff.1 h).2.2.2.2.2
    exact frmB_byte _ ds hd (by omega)
  · intro b hb; cases hb

/-- What is parsed and put is what it was. -/
theorem parse_put {bs : List Nat} (hb : ∀ b ∈ bs, b < 256) (h : parseE bs = 0) :
    putF ((readB (bs.take 4) / 16777216 : Nat) : Int) ((readB (bs.take 4) / 4096 % 4096 : Nat) : Int) ((readB (bs.take 4) / 512 % 8 : Nat) : Int) ((readB (bs.take 4) / 4 % 128 : Nat) : Int) ((readB (bs.take 4) % 4 : Nat) : Int) ((bs.drop 7).take (bs.getD 4 0)) = bs := by
  obtain ⟨h1, h2, h3, h4, h5⟩ := parseE_zero h
  have hN : readB (bs.take 4) < 4294967296 := by
    have := readB_lt (bs.take 4) (mem_take' hb 4)
    rwa [show (bs.take 4).length = 4 from by simp; omega, show 256 ^ 4 = 4294967296 from rfl] at this
  have hl : ((bs.drop 7).take (bs.getD 4 0)).length ≤ 60 := by rw [List.length_take]; omega
  have hf : isFrm ((readB (bs.take 4) / 16777216 : Nat) : Int) ((readB (bs.take 4) / 4096 % 4096 : Nat) : Int) ((readB (bs.take 4) / 512 % 8 : Nat) : Int) ((readB (bs.take 4) / 4 % 128 : Nat) : Int) ((readB (bs.take 4) % 4 : Nat) : Int) ((bs.drop 7).take (bs.getD 4 0)).length = true := by
    rw [isFrm_iff]
    generalize readB (bs.take 4) = N at hN ⊢
    omega
  unfold putF
  rw [if_pos hf]
  simp only [Int.toNat_natCast]
  rw [headN_of]
  exact frm_parse bs hb h

end Go.Proofs.YtaieohnppeapfaaDoor
