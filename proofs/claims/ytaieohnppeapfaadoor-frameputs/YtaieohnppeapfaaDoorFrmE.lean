/- Package frame: Right, Put. -/
import Derived.Test.YtaieohnppeapfaaDoorFrmD
import Derived.Test.YtaieohnppeapfaaDoorCrcB
import Derived.Test.YtaieohnppeapfaaDoorCrcC
namespace Go.Proofs.YtaieohnppeapfaaDoor
open Go.RowKit
open Bt

theorem putHead_any (tx sq an rs kd : Int) (a : Option Addr) (len cap : Nat) (w : World) (hw : Wid w) :
    Calls Tryd.prog 21 #[Fr tx sq an rs kd a len cap] w fun e w' =>
      ((isFrm tx sq an rs kd len = true ∧ ∃ g, e = .returned (.tuple #[.slice (some ⟨g, 0, none⟩) 5 5, .bool true]) ∧ w.heap.size ≤ g ∧ RowIs w' g (numB (headN tx.toNat sq.toNat an.toNat rs.toNat kd.toNat) 4 ++ [len])) ∨
       (isFrm tx sq an rs kd len = false ∧ e = .returned (.tuple #[.slice none 0 0, .bool false]))) ∧ Below w.heap.size w w' := by
  by_cases h : len ≤ 60
  · exact putHead_short tx sq an rs kd a len cap h w hw
  · refine (putHead_long tx sq an rs kd a len cap (by omega) w).mono ?_
    rintro e w' ⟨rfl, B⟩
    refine ⟨.inr ⟨?_, rfl⟩, B⟩
    cases hq : isFrm tx sq an rs kd len with
    | false => rfl
    | true => have := isFrm_iff.1 hq; omega

theorem right_any (tx sq an rs kd : Int) (a : Option Addr) (len cap : Nat) (w : World) (hw : Wid w) :
    Calls Tryd.prog 10 #[Fr tx sq an rs kd a len cap] w fun e w' => e = .returned (.bool (isFrm tx sq an rs kd len)) ∧ Below w.heap.size w w' := by
  have HB1 := Hid.intro ((Below.refl _ w).alloc (Nat.le_refl _) (.cells #[.int .i64 tx, .int .i64 sq, .int .i64 an, .int .i64 rs, .int .i64 kd, .slice a len cap] 24))
  have HW := Hid.intro (hw.below HB1.out)
  clear hw
  go_enter Tryd.func10, Tryd.ntmps10
  go_wp2_with fail
  refine (putHead_any tx sq an rs kd a len cap _ HW.out).mono ?_
  rintro e w2 ⟨h, B2⟩
  have D2 := HB1.out.trans (B2.mono HB1.out.size)
  clear B2 HB1 HW
  rcases h with ⟨hf, g, rfl, _, _⟩ | ⟨hf, rfl⟩
  · have HF := Hid.intro hf
    clear hf
    go_wp2
    go_ret
    exact ⟨by rw [HF.out]; rfl, D2⟩
  · have HF := Hid.intro hf
    clear hf
    go_wp2
    go_ret
    exact ⟨by rw [HF.out]; rfl, D2⟩

theorem RowIs.owns {w : World} {g : Nat} {bs : List Nat} (h : RowIs w g bs) (hl : bs.length ≤ maxLen) : w.ownsRow 0 5 1 (.slice (some ⟨g, 0, none⟩) bs.length bs.length) bs.length (bs.map U) :=
  ⟨by simp, .inr ⟨g, bs.length, (bs.map U).toArray, rfl, Nat.zero_le _, h, Nat.le_refl _, hl, by simp, by simp [List.take_of_length_le]⟩⟩

theorem owns_reads {w : World} {g n c : Nat} {bs : List Nat} (h : w.ownsRow 0 5 1 (.slice (some ⟨g, 0, none⟩) n c) n (bs.map U)) (hn : n = bs.length) : Reads w (some ⟨g, 0, none⟩) bs := fun _ =>
  ⟨_, rfl, fun j u hu => by
    have hj := (List.getElem?_eq_some_iff.1 hu).1
    rw [List.length_map] at hj
    rw [WideShapes.add_plain, Nat.zero_add, h.cellAt j (by omega)]; exact hu⟩

set_option maxRecDepth 100000 in
set_option maxHeartbeats 2000000 in
theorem put_frame (tx sq an rs kd : Int) (a : Option Addr) (cap : Nat) (ds : List Nat) (hn : a = none → cap = 0) (h256 : ∀ b ∈ ds, b < 256) (w : World) (hw : Wid w) (hr : Reads w a ds) :
    Calls Tryd.prog 13 #[Fr tx sq an rs kd a ds.length cap] w fun e w' => ∃ ao c, e = .returned (.slice ao (putF tx sq an rs kd ds).length c) ∧ Reads w' ao (putF tx sq an rs kd ds) ∧ (ao = none → c = 0) ∧ ((putF tx sq an rs kd ds).length ≤ c ∧ c ≤ 9223372036854775807) ∧ (∀ ad, ao = some ad → w.heap.size ≤ ad.block) ∧ Below w.heap.size w w' := by
  obtain ⟨FB, hFB⟩ : ∃ F, F = putF tx sq an rs kd ds := ⟨_, rfl⟩
  rw [← hFB]
  have HFB := Hid.intro hFB
  clear hFB
  have HR := Hid.intro hr
  have H256 := Hid.intro h256
  have HNO := Hid.intro hn
  clear hr h256 hn
  have HB1 := Hid.intro ((Below.refl _ w).alloc (Nat.le_refl _) (.cells #[.int .i64 tx, .int .i64 sq, .int .i64 an, .int .i64 rs, .int .i64 kd, .slice a ds.length cap] 24))
  have HW := Hid.intro (hw.below HB1.out)
  have C51 : Hid ((w.alloc (.cells #[.int .i64 tx, .int .i64 sq, .int .i64 an, .int .i64 rs, .int .i64 kd, .slice a ds.length cap] 24)).cell? ⟨w.heap.size, 5, none⟩ = some (.slice a ds.length cap)) := by
    show _ = _
    rw [cell_of_row _ _ _ _ _ _ (heap_alloc_new w _)]; rfl
  clear hw
  go_enter Tryd.func13, Tryd.ntmps13
  go_wp2_with fail
  generalize w.alloc (.cells #[.int .i64 tx, .int .i64 sq, .int .i64 an, .int .i64 rs, .int .i64 kd, .slice a ds.length cap] 24) = W1 at HB1 HW C51 ⊢
  generalize hbe : w.heap.size = b at C51 ⊢
  have HBE := Hid.intro hbe
  clear hbe
  refine (putHead_any tx sq an rs kd a ds.length cap W1 HW.out).mono ?_
  rintro e w2 ⟨h, B2⟩
  have hWs := HB1.out.size
  rw [HBE.out] at hWs
  rcases h with ⟨hf, g, rfl, hg, R2⟩ | ⟨hf, rfl⟩
  · have hl60 : ds.length ≤ 60 := (isFrm_iff.1 hf).2.2.2.2.2
    have hfr : FB = (numB (headN tx.toNat sq.toNat an.toNat rs.toNat kd.toNat) 4 ++ [ds.length]) ++ numB (crc16 (numB (headN tx.toNat sq.toNat an.toNat rs.toNat kd.toNat) 4 ++ [ds.length])) 2 ++ ds ++ numB (crc32 ((numB (headN tx.toNat sq.toNat an.toNat rs.toNat kd.toNat) 4 ++ [ds.length]) ++ numB (crc16 (numB (headN tx.toNat sq.toNat an.toNat rs.toNat kd.toNat) 4 ++ [ds.length])) 2 ++ ds)) 4 := by
      rw [HFB.out]; unfold putF; rw [if_pos hf]; rfl
    have l5 : (numB (headN tx.toNat sq.toNat an.toNat rs.toNat kd.toNat) 4 ++ [ds.length]).length = 5 := by rw [List.length_append, numB_length]; rfl
    have hb5 : ∀ x ∈ numB (headN tx.toNat sq.toNat an.toNat rs.toNat kd.toNat) 4 ++ [ds.length], x < 256 := by
      intro x hx
      rcases List.mem_append.1 hx with h | h
      · exact numB_byte _ _ x h
      · simp at h; omega
    clear HFB
    generalize numB (headN tx.toNat sq.toNat an.toNat rs.toNat kd.toNat) 4 ++ [ds.length] = p5 at R2 l5 hb5 hfr
    have OW2 := R2.owns (by rw [l5]; decide)
    rw [l5] at OW2
    have hC := crc16_lt p5
    have S8 := short_any (some ⟨g, 0, none⟩) 5 p5 (by omega) hb5 w2 R2.reads
    rw [l5] at S8
    have S8H := Hid.intro S8
    have HFR := Hid.intro hfr
    have HB5 := Hid.intro hb5
    have D2 := HB1.out.trans (B2.mono HB1.out.size)
    have OWH := Hid.intro OW2
    have HB2 := Hid.intro B2
    clear S8 hfr hb5 R2 OW2 B2
    generalize crc16 p5 = C at hC S8H HFR
    go_wp2_with fail
    refine S8H.out.mono ?_
    rintro e w8 ⟨rfl, B8⟩
    have D8 := D2.trans (B8.mono D2.size)
    have E8 := HB2.out.trans (B8.mono HB2.out.size)
    have R8H := Hid.intro (ownsRow_keep (w' := w8) OWH.out (fun j hj => B8.block j (World.ownsRow.lt OWH.out j hj).2))
    clear S8H B8 OWH D2 HB2
    go_wp2_with fail
    refine (number_yes C 2 (by decide) w8).mono ?_
    rintro e w9 ⟨g9, rfl, _, R9, B9⟩
    have D9 := D8.trans (B9.mono D8.size)
    have E9 := E8.trans (B9.mono E8.size)
    have RP9 := ownsRow_keep (w' := w9) R8H.out (fun j hj => B9.block j (World.ownsRow.lt R8H.out j hj).2)
    rw [lo64_nat C (by omega)] at R9
    clear B9 D8 E8 R8H
    have lm := numB_length C 2
    have hbm := Hid.intro (numB_byte C 2)
    generalize numB C 2 = ms at R9 lm hbm HFR
    have r9H := Hid.intro (owns_reads R9 lm.symm)
    have RP9H : Hid (w9.ownsRow 0 5 1 (.slice (some ⟨g, 0, none⟩) 5 5) p5.length (p5.map U)) := by
      rw [l5]; exact RP9
    clear R9 RP9
    go_wp2_with (at_builtin; refine append_bytes rfl _ _ rfl _ p5 rfl RP9H.out (some ⟨g9, 0, none⟩) 2 2 ms lm.symm rfl r9H.out (fun e => by cases e) (by omega) ?_)
    intro v10 w10 hown hgrow hat
    obtain ⟨E10, N10⟩ := grown_step hgrow hat E9 (Nat.le_refl _) (fun k hk => by
      have e : g = k := by simpa [Value.ownBlock] using hk
      omega)
    have hown10 : w10.ownsRow 0 5 1 v10 (p5 ++ ms).length ((p5 ++ ms).map U) := by
      rw [List.length_append, l5, lm, List.map_append]; exact hown
    have l7 : (p5 ++ ms).length = 7 := by rw [List.length_append, l5, lm]
    have hb7 : ∀ x ∈ p5 ++ ms, x < 256 := by
      intro x hx
      rcases List.mem_append.1 hx with h | h
      · exact HB5.out x h
      · exact hbm.out x h
    clear hown hgrow hat D9 E9 r9H RP9H
    generalize p5 ++ ms = p7 at hown10 l7 hb7 HFR
    obtain ⟨g10, c10, rfl, _, _⟩ := hown10.form (by omega)
    rw [l7] at hown10
    have c510 : w10.cell? ⟨b, 5, none⟩ = some (.slice a ds.length cap) := (E10.cell (cell_lt C51.out)).trans C51.out
    have DR10 := HB1.out.trans (E10.mono HB1.out.size)
    have hr10 := Hid.intro (HR.out.below DR10)
    have R10H : Hid (w10.ownsRow 0 5 1 (.slice (some ⟨g10, 0, none⟩) 7 c10) p7.length (p7.map U)) := by
      rw [l7]; exact hown10
    have N10H := Hid.intro N10
    have HB7 := Hid.intro hb7
    clear hown10 N10 hb7 HB5 hbm DR10
    rw [l7]
    go_wp2_with (at_builtin; refine append_bytes rfl _ _ rfl _ p7 rfl R10H.out a ds.length cap ds rfl rfl hr10.out HNO.out (by omega) ?_)
    intro v11 w11 hown hgrow hat
    obtain ⟨E11, N11⟩ := grown_step hgrow hat E10 (Nat.le_refl _) (fun k hk => N10H.out k (by rw [← hk]; rfl))
    have hown11 : w11.ownsRow 0 5 1 v11 (p7 ++ ds).length ((p7 ++ ds).map U) := by
      rw [List.length_append, l7, List.map_append]; exact hown
    have lp : (p7 ++ ds).length = 7 + ds.length := by rw [List.length_append, l7]
    have hbp : ∀ x ∈ p7 ++ ds, x < 256 := by
      intro x hx
      rcases List.mem_append.1 hx with h | h
      · exact HB7.out x h
      · exact H256.out x h
    clear hown hgrow hat E10 R10H N10H hr10 c510
    generalize p7 ++ ds = p at hown11 lp hbp HFR
    have lp1 : p.length ≤ 67 := by omega
    have lp0 : 0 < p.length := by omega
    clear lp
    obtain ⟨g11, c11, rfl, _, _⟩ := hown11.form (by omega)
    have hL := crc32_lt p
    have S12 := long_any (some ⟨g11, 0, none⟩) c11 p (by omega) hbp w11 (owns_reads hown11 rfl)
    have S12H := Hid.intro S12
    have N11H := Hid.intro N11
    have R11H := Hid.intro hown11
    clear S12 hbp N11 hown11 HB7
    generalize crc32 p = L at hL S12H HFR
    go_wp2_with fail
    refine S12H.out.mono ?_
    rintro e w12 ⟨rfl, B12⟩
    have E12 := E11.trans (B12.mono E11.size)
    have R12H := Hid.intro (ownsRow_keep (w' := w12) R11H.out (fun j hj => B12.block j (World.ownsRow.lt R11H.out j hj).2))
    clear S12H B12 E11 R11H
    go_wp2_with fail
    refine (number_yes L 4 (by decide) w12).mono ?_
    rintro e w13 ⟨g13, rfl, _, R13, B13⟩
    have E13 := E12.trans (B13.mono E12.size)
    have RP13H := Hid.intro (ownsRow_keep (w' := w13) R12H.out (fun j hj => B13.block j (World.ownsRow.lt R12H.out j hj).2))
    rw [lo64_nat L (by omega)] at R13
    clear B13 E12 R12H
    have lq := numB_length L 4
    generalize numB L 4 = qs at R13 lq HFR
    have r13H := Hid.intro (owns_reads R13 lq.symm)
    clear R13
    go_wp2_with (at_builtin; refine append_bytes rfl _ _ rfl _ p rfl RP13H.out (some ⟨g13, 0, none⟩) 4 4 qs lq.symm rfl r13H.out (fun e => by cases e) (by omega) ?_)
    intro v14 w14 hown hgrow hat
    obtain ⟨E14, N14⟩ := grown_step hgrow hat E13 (Nat.le_refl _) (fun k hk => N11H.out k hk)
    have hown14 : w14.ownsRow 0 5 1 v14 (p ++ qs).length ((p ++ qs).map U) := by
      rw [List.length_append, lq, List.map_append]; exact hown
    have l14 : 0 < (p ++ qs).length := by rw [List.length_append]; omega
    rw [← HFR.out] at hown14 l14
    obtain ⟨g14, c14, rfl, _, _⟩ := hown14.form (by omega)
    have hcap := ownsRow_cap hown14
    have DW := HB1.out.trans (E14.mono HB1.out.size)
    have hr14H := Hid.intro (owns_reads hown14 rfl)
    have hg14 := N14 g14 rfl
    clear hown hgrow hat E13 RP13H r13H hown14 E14 N11H N14
    go_wp2
    go_ret
    refine ⟨_, c14, rfl, hr14H.out, (fun h0 => by cases h0), hcap, ?_, DW⟩
    intro ad e
    cases e
    show w.heap.size ≤ g14
    have := HBE.out
    omega
  · have hno : FB = [] := by rw [HFB.out]; unfold putF; rw [if_neg (by rw [hf]; simp)]
    have D2 := HB1.out.trans (B2.mono HB1.out.size)
    subst hno
    clear B2 HB1 HFB
    go_wp2
    go_ret
    exact ⟨none, 0, rfl, fun h => absurd h (by simp), fun _ => rfl, ⟨Nat.le_refl _, by decide⟩, (fun ad e => by cases e), D2⟩

end Go.Proofs.YtaieohnppeapfaaDoor
