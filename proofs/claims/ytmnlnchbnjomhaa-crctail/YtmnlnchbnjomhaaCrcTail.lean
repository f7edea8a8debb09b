/- CrcTail: whatever bytes come in, it returns true: a text of up to 200 bytes with its CRC-16 behind it has the CRC-16 nought, and its CRC-32 is read again of its four bytes; no condition. -/
import Derived.Test.YtmnlnchbnjomhaaArgs
import Derived.Test.YtmnlnchbnjomhaaAppB
import Derived.Test.YtmnlnchbnjomhaaCrcAlive
namespace Go.Proofs.Ytmnlnchbnjomhaa.LCrcTail
open Go.ChangeShapes Go.WideShapes Go.ChangeAt Go.RowKit
open Bt

theorem num_unpack (l : List Nat) : num (unpack l) = readB (l.map (· % 256)) := by
  have key : ∀ m : List Nat, num (unpack m.reverse) = readB (m.reverse.map (· % 256)) := by
    intro m
    induction m with
    | nil => rfl
    | cons a m ih =>
      rw [List.reverse_cons, unpack_append, num_append, ih, List.map_append, show [a].map (· % 256) = [a % 256] from rfl, readB_snoc]
      have e1 : unpack [a] = fld 8 a := by simp [unpack]
      rw [e1, fld_length, num_fld]
  have := key l.reverse
  rwa [List.reverse_reverse] at this

theorem tail16 (bs : List Nat) : crc16 (bs ++ numB (crc16 bs) 2) = 0 := by
  have hl := crc16_lt bs
  unfold crc16 at hl ⊢
  rw [unpack_append, run_append]
  refine run_tail _ _ (unpack_bits _) (by rw [unpack_length, numB_length]) ?_
  rw [num_unpack]
  have e : (numB (run 15 4129 65535 (unpack bs)) 2).map (· % 256) = numB (run 15 4129 65535 (unpack bs)) 2 := by
    conv => rhs; rw [← List.map_id (numB _ 2)]
    apply List.map_congr_left
    intro b hb
    exact Nat.mod_eq_of_lt (numB_byte _ _ b hb)
  rw [e, readB_numB]
  exact Nat.mod_eq_of_lt hl

theorem walk_far (a : Option Addr) (len cap : Nat) (w : World) (hlen : len ≤ maxLen) (h : 200 < len) :
    Calls Try.prog 7 #[.slice a len cap] w fun e w' => e = .returned (.bool true) ∧ Below w.heap.size w w' := by
  unfold maxLen at hlen
  go_enter Try.func7, Try.ntmps7
  go_wp2_with fail
  refine (alive_any _).mono ?_
  rintro e w1 ⟨rfl, B1⟩
  go_wp2
  go_ret
  exact ⟨rfl, B1⟩

set_option maxHeartbeats 1000000 in
theorem walk_near (a : Option Addr) (cap : Nat) (bs : List Nat) (w : World) (h2 : bs.length ≤ 200) (hn : a = none → cap = 0) (h256 : ∀ b ∈ bs, b < 256) (hr : Reads w a bs) :
    Calls Try.prog 7 #[.slice a bs.length cap] w fun e w' => e = .returned (.bool true) ∧ Below w.heap.size w w' := by
  have HR := Hid.intro hr
  have H256 := Hid.intro h256
  have HN := Hid.intro hn
  clear hr h256 hn
  have hdec : decide ((200 : Int) < (bs.length : Int)) = false := by simp; omega
  go_enter Try.func7, Try.ntmps7
  go_wp2_with fail
  refine (alive_any _).mono ?_
  rintro e w1 ⟨rfl, B1⟩
  have E1 := Hid.intro (empty_row w1)
  have B2 := B1.alloc B1.size (.cells #[] 5)
  have hR2 := Hid.intro (HR.out.below B2)
  go_wp2_with (at_builtin; refine append_bytes rfl _ _ rfl _ [] rfl E1.out a bs.length cap bs rfl rfl hR2.out HN.out (by simp; omega) ?_)
  intro v3 w3 hown hgrow hat
  replace hown : w3.ownsRow 0 5 1 v3 bs.length (bs.map U) := hown
  have B3 : Below w.heap.size w w3 := B2.grown hgrow B2.size (fun k hk => by
    have e : w1.heap.size = k := by simpa [Value.ownBlock] using hk
    have := B1.size
    omega)
  have N3 : ∀ k, v3.ownBlock = some k → w.heap.size ≤ k := by
    intro k hk
    have := B1.size
    rcases hat with h | h
    · rw [hk] at h
      have e : k = w1.heap.size := by simpa [Value.ownBlock] using h
      omega
    · rw [hk] at h
      have e : k = w1.heap.size + 1 := by simpa using h
      omega
  have R3 := Hid.intro hown
  have N3H := Hid.intro N3
  clear hown hgrow hat N3 B1 B2 E1 hR2
  have hcl := crc16_lt bs
  have ht := Hid.intro (tail16 bs)
  have S4 := Hid.intro (short_any a cap bs (by omega) H256.out w3 (HR.out.below B3))
  generalize crc16 bs = C at hcl ht S4
  go_wp2_with fail
  refine S4.out.mono ?_
  rintro e w4 ⟨rfl, B4⟩
  have B4w := B3.trans (B4.mono B3.size)
  have R4 := Hid.intro (ownsRow_keep (w' := w4) R3.out (fun j hj => B4.block j (World.ownsRow.lt R3.out j hj).2))
  clear B4 B3 R3 S4
  go_wp2_with fail
  refine (number_reads C 2 (by decide) w4).mono ?_
  rintro e w5 ⟨ao, rfl, r5, B5⟩
  have B5w := B4w.trans (B5.mono B4w.size)
  have R5 := Hid.intro (ownsRow_keep (w' := w5) R4.out (fun j hj => B5.block j (World.ownsRow.lt R4.out j hj).2))
  rw [lo64_nat C (by omega)] at r5
  have hml := numB_length C 2
  have hmb := numB_byte C 2
  generalize numB C 2 = ms at r5 hml hmb ht
  have hao : ao = none → (2 : Nat) = 0 := by
    intro e
    obtain ⟨ad, h, _⟩ := r5 (by omega)
    rw [e] at h
    cases h
  have r5H := Hid.intro r5
  have haoH := Hid.intro hao
  have hmbH := Hid.intro hmb
  clear r5 hao hmb B5 B4w R4
  go_wp2_with (at_builtin; refine append_bytes rfl _ _ rfl _ bs rfl R5.out ao 2 2 ms hml.symm rfl r5H.out haoH.out (by omega) ?_)
  intro v6 w6 hown hgrow hat
  have B6 : Below w.heap.size w w6 := B5w.grown hgrow B5w.size (fun k hk => N3H.out k hk)
  have hown6 : w6.ownsRow 0 5 1 v6 (bs ++ ms).length ((bs ++ ms).map U) := by
    rw [List.length_append, hml, List.map_append]; exact hown
  obtain ⟨av, cv, hv, r6, _⟩ := row_of_owns hown6
  subst hv
  have h256b : ∀ b ∈ bs ++ ms, b < 256 := by
    intro b hb
    rcases List.mem_append.1 hb with h | h
    · exact H256.out b h
    · exact hmbH.out b h
  have S6 := short_any av cv (bs ++ ms) (by rw [List.length_append]; omega) h256b w6 r6
  rw [ht.out] at S6
  have S6H := Hid.intro S6
  clear S6 h256b hown hown6 hgrow hat r6 R5 r5H haoH B5w ht N3H hmbH
  generalize (bs ++ ms).length = L at S6H ⊢
  go_wp2_with fail
  refine S6H.out.mono ?_
  rintro e w7 ⟨rfl, B7⟩
  have B7w := B6.trans (B7.mono B6.size)
  clear S6H B7 B6
  have hll := crc32_lt bs
  have SL := Hid.intro (fun (w' : World) (h : Below w.heap.size w w') => long_any a cap bs (by omega) H256.out w' (HR.out.below h))
  generalize crc32 bs = T at hll SL
  go_wp2_with fail
  refine (SL.out w7 B7w).mono ?_
  rintro e w8 ⟨rfl, B8⟩
  have B8w := B7w.trans (B8.mono B7w.size)
  clear B8 B7w
  go_wp2_with fail
  refine (number_reads T 4 (by decide) w8).mono ?_
  rintro e w9 ⟨ao9, rfl, r9, B9⟩
  have B9w := B8w.trans (B9.mono B8w.size)
  rw [lo64_nat T (by omega)] at r9
  have S9 := read_any ao9 4 _ (by rw [numB_length]; omega) (numB_byte _ _) w9 r9
  rw [numB_length, if_neg (by omega), readB_numB, show 256 ^ 4 = 4294967296 from rfl, Nat.mod_eq_of_lt hll] at S9
  have S9H := Hid.intro S9
  clear S9 r9 B9 B8w
  go_wp2_with fail
  refine S9H.out.mono ?_
  rintro e w10 ⟨rfl, rfl⟩
  have hTT : ((T : Int) == (T : Int)) = true := by simp
  go_wp2_with fail
  refine (SL.out w9 B9w).mono ?_
  rintro e w11 ⟨rfl, B11⟩
  have B11w := B9w.trans (B11.mono B9w.size)
  clear B11 B9w
  go_wp2
  go_ret
  exact ⟨rfl, B11w⟩

theorem walk (a : Option Addr) (len cap : Nat) (zs : List Int) (w : World) (h : IsRow .u8 w a len cap zs) :
    Calls Try.prog 7 #[.slice a len cap] w fun e w' => e = .returned (.bool true) ∧ Below w.heap.size w w' := by
  by_cases h200 : 200 < len
  · exact walk_far a len cap w h.len h200
  · obtain ⟨bs, hl, h256, hr⟩ := h.bytes
    subst hl
    exact walk_near a cap bs w (by omega) h.none_cap h256 hr

set_option maxRecDepth 100000 in
theorem lifted (os : Os) (started : os.Started) (H : Type) (enc : TypeId × Value → H) :
    ReturnsInHanded {} Try.checked os 7 .any (Rows.crcTailSpec.pre6 enc Try.prog Try.f7 Rows.crcTailRow.domain false) (Rows.crcTailSpec.post enc Try.prog Try.f7 false true false false) := by
  refine returnsInHanded_of_change (C := Try.checked) own started (by kernel_rfl) Try.func7
    (ChangeSpec.witness6 (enc := enc) (C := Try.checked) false ⟨#[], #[.slice none 0 0], []⟩ 8 (by kernel_rfl) (by kernel_rfl) (by kernel_rfl) (by kernel_rfl)) ?_
  intro W base args ds gs before hval0 hW hcnd _
  have hval : ∀ (j : Nat) t v, Try.f7.params[j]? = some t → args[j]? = some v → Value.okWide Try.prog W .any base t v := hval0
  have hW' := hW
  obtain ⟨p, q, hA0, hV, rfl, hfz, hnd⟩ := hW
  have hA : DataW.TrodAll enc Try.prog W 0 (fun _ => true) true Try.f7.params.toList args.toList ds p := hA0
  rw [Try.params7] at hA hval
  obtain ⟨v0, vs0, d0, ds0, p0, q0, hargs, rfl, rfl, h0, r0⟩ := trodAll_cons hA
  obtain ⟨rfl, rfl, rfl⟩ := trodAll_nil r0
  obtain rfl : args = #[v0] := by cases args; simp_all
  obtain ⟨rfl, rfl⟩ := trodVars_none hV
  obtain ⟨a0, len0, cap0, rfl⟩ := okWide_slice Try.underlying22 (hval 0 22 v0 rfl rfl)
  have k0 := h0
  have lt0 : ∀ x ∈ p0, x.block < W.heap.size := by obtain ⟨m, hm⟩ := k0; exact DataW.trod_lt m _ _ _ hm
  obtain ⟨z0, w0⟩ : ∃ zs, IsRow .u8 W a0 len0 cap0 zs := by
    obtain ⟨fuel, hf⟩ := h0
    rcases open_ints Try.underlying22 Try.underlying5 (by kernel_rfl) hf with ⟨hcs, _⟩ | ⟨x, l, c, zs, hcs, _, hl, hm, hz, _, hcell, hwz⟩
    · simp [Value.cells] at hcs
      obtain ⟨rfl, rfl, rfl⟩ := hcs
      exact ⟨[], .inl ⟨rfl, rfl, rfl, rfl⟩⟩
    · simp [Value.cells] at hcs
      obtain ⟨rfl, rfl, rfl⟩ := hcs
      exact ⟨zs, .inr ⟨_, rfl, hl, hm, by simpa using hz, hcell, hwz⟩⟩
  clear hA0 hval0
  refine (walk a0 len0 cap0 z0 W w0).mono fun e W' ⟨he, bel⟩ => ?_
  subst he
  exact ⟨_, rfl, _, _, _, [], _, [], hW', trodAll_mk1 (shut_bool Try.underlying4 _), (trodAll_cons_mk (Below.trod laidOut (by kernel_rfl) (of_decide_eq_true (by kernel_rfl)) k0 bel lt0) trodAll_mk0), rfl, bel.frame _, fun h => by cases h⟩

theorem over : Rows.crcTailRow.holds Try.pinned (OpenSpec.ofChange Rows.crcTailSpec) :=
  OpenClaim.holds_of_wide 7 Try.f7 rfl rfl rfl rfl rfl rfl rfl ⟨rfl, rfl, rfl, rfl, rfl⟩ rfl rfl rfl rfl rfl (by kernel_rfl) Try.func7 (by kernel_rfl)
    (of_decide_eq_true (by kernel_rfl)) (by unfold Func.isWrapper; first | (rw [if_pos (by decide +kernel)]; kernel_rfl) | (rw [if_neg (by decide +kernel)]; exact ⟨rfl, rfl⟩))
    (fun os started H enc _ => lifted os started H enc)

end Go.Proofs.Ytmnlnchbnjomhaa.LCrcTail

namespace Go.Proofs.Ytmnlnchbnjomhaa
theorem crcTail_holds : Rows.CrcTailSaid := LCrcTail.over
#print axioms crcTail_holds
end Go.Proofs.Ytmnlnchbnjomhaa
