/- CrcMore: whatever bytes and byte come in, it returns true: two texts of one length, up to 200 bytes, that differ in one byte alone have other sums, of both kinds; no condition. -/
import Derived.Test.YtmnlnchbnjomhaaArgs
import Derived.Test.YtmnlnchbnjomhaaAppB
import Derived.Test.YtmnlnchbnjomhaaCrcNear
import Derived.Test.YtmnlnchbnjomhaaCrcAlive
namespace Go.Proofs.Ytmnlnchbnjomhaa.LCrcMore
open Go.ChangeShapes Go.WideShapes Go.ChangeAt Go.RowKit
open Bt

theorem walk_far (a : Option Addr) (len cap : Nat) (c : Int) (w : World) (hlen : len ≤ maxLen) (h : 200 < len ∨ len = 0) :
    Calls Try.prog 6 #[.slice a len cap, .int .u8 c] w fun e w' => e = .returned (.bool true) ∧ Below w.heap.size w w' := by
  unfold maxLen at hlen
  rcases h with h | h
  · go_enter Try.func6, Try.ntmps6
    go_wp2_with fail
    refine (alive_any _).mono ?_
    rintro e w1 ⟨rfl, B1⟩
    go_wp2
    go_ret
    exact ⟨rfl, B1⟩
  · subst h
    go_enter Try.func6, Try.ntmps6
    go_wp2_with fail
    refine (alive_any _).mono ?_
    rintro e w1 ⟨rfl, B1⟩
    go_wp2
    go_ret
    exact ⟨rfl, B1⟩

theorem or_one (c : Nat) : c ||| 1 ≠ 0 := by
  intro e
  have : (c ||| 1).testBit 0 = false := by rw [e]; rfl
  rw [Nat.testBit_or] at this
  simp at this

set_option maxRecDepth 100000 in
set_option maxHeartbeats 1000000 in
theorem walk_near (a : Option Addr) (cap : Nat) (bs : List Nat) (c : Nat) (w : World) (h1 : 0 < bs.length) (h2 : bs.length ≤ 200) (hc : c < 256) (h256 : ∀ b ∈ bs, b < 256) (hn : a = none → cap = 0) (hr : Reads w a bs) :
    Calls Try.prog 6 #[.slice a bs.length cap, .int .u8 c] w fun e w' => e = .returned (.bool true) ∧ Below w.heap.size w w' := by
  have HR := Hid.intro hr
  have H256 := Hid.intro h256
  have HN := Hid.intro hn
  clear hr h256 hn
  have hdec : decide ((200 : Int) < (bs.length : Int)) = false := by simp; omega
  have hdec0 : ((bs.length : Int) == 0) = false := by rw [beq_eq_false_iff_ne]; omega
  go_enter Try.func6, Try.ntmps6
  go_wp2_with fail
  refine (alive_any _).mono ?_
  rintro e w1 ⟨rfl, B1⟩
  have E1 := Hid.intro (empty_row w1)
  have B2 := B1.alloc B1.size (.cells #[] 5)
  have hR2 := Hid.intro (HR.out.below B2)
  go_wp2_with (at_builtin; refine append_bytes rfl _ _ rfl _ [] rfl E1.out a bs.length cap bs rfl rfl hR2.out HN.out (by simp; omega) ?_)
  intro v3 w3 hown hgrow hat
  replace hown : w3.ownsRow 0 5 1 v3 bs.length (bs.map U) := hown
  have B3 : Below w.heap.size w w3 := B2.grown hgrow B2.size (fun k hk => by
    have e : w1.heap.size = k := by simpa [Value.ownBlock] using hk
    have := B1.size
    omega)
  obtain ⟨g, cp, rfl, _, _⟩ := hown.form (by omega)
  have hg : w.heap.size ≤ g := by
    have := B1.size
    rcases hat with h | h
    · have e : g = w1.heap.size := by simpa [Value.ownBlock] using h
      omega
    · have e : g = w1.heap.size + 1 := by simpa [Value.ownBlock] using h
      omega
  clear hgrow hat B1 B2 E1 hR2
  obtain ⟨K, hK, hKl⟩ : ∃ K : Nat, (c : Int) % (bs.length : Int) = K ∧ K < bs.length := ⟨c % bs.length, by simp, Nat.mod_lt _ h1⟩
  have hKt : (c : Int).tmod (bs.length : Int) = K := by rw [Int.tmod_eq_emod_of_nonneg (by omega)]; exact hK
  have cK : w3.cell? ⟨g, K, none⟩ = some (U (bs.getD K 0)) := by
    rw [hown.cellAt K (by omega)]; simp [List.getD_eq_getElem?_getD, hKl]
  have fK : w3.frozen? ⟨g, K, none⟩ = false := hown.frozenAt _
  have hx := getD_byte H256.out K
  have ho := or_one c
  have hol : c ||| 1 < 256 := Nat.or_lt_two_pow (n := 8) hc (by decide)
  have hone : bits .or .u8 (c : Int) 1 = ((c ||| 1 : Nat) : Int) := u8_or_nat c 1 hc (by decide)
  have hxor : bits .xor .u8 ((bs.getD K 0 : Nat) : Int) ((c ||| 1 : Nat) : Int) = ((bs.getD K 0 ^^^ (c ||| 1) : Nat) : Int) := u8_xor_nat _ _ hx hol
  have hy : bs.getD K 0 ^^^ (c ||| 1) < 256 := Nat.xor_lt_two_pow (n := 8) hx hol
  have hone2 := crc_one bs H256.out K (bs.getD K 0 ^^^ (c ||| 1)) hKl hy (by
    intro e
    have : (bs.getD K 0 ^^^ (c ||| 1)) ^^^ bs.getD K 0 = 0 := by rw [e, Nat.xor_self]
    rw [Nat.xor_comm, ← Nat.xor_assoc, Nat.xor_self, Nat.zero_xor] at this
    exact ho this)
  have R4 := (hown.stored K (U (bs.getD K 0 ^^^ (c ||| 1)))).1
  rw [← List.map_set] at R4
  have hb4 := mem_set_byte H256.out K _ hy
  have hdl : (bs.set K (bs.getD K 0 ^^^ (c ||| 1))).length = bs.length := by simp
  have B4 := B3.setCell (p := ⟨g, K, none⟩) hg (U (bs.getD K 0 ^^^ (c ||| 1)))
  generalize bs.set K (bs.getD K 0 ^^^ (c ||| 1)) = ds at hone2 R4 hb4 hdl
  generalize bs.getD K 0 ^^^ (c ||| 1) = y at hxor hy R4 B4
  generalize bs.getD K 0 = x at cK hxor hx
  generalize c ||| 1 = o at hone hxor hol
  have B5 : Below w.heap.size w (w3.setCell ⟨g, K, none⟩ (U y)).drew := ⟨B4.os, B4.tape, B4.output, B4.size, B4.block⟩
  have R5 : (w3.setCell ⟨g, K, none⟩ (U y)).drew.ownsRow 0 5 1 (.slice (some ⟨g, 0, none⟩) ds.length cp) ds.length (ds.map U) := by rw [hdl]; exact R4
  obtain ⟨av, cv, hv, r5, _⟩ := row_of_owns R5
  rw [hdl] at hv
  cases hv
  have R5H := Hid.intro r5
  have B5H := Hid.intro B5
  have HNE := Hid.intro hone2
  have HB4 := Hid.intro hb4
  clear R4 R5 r5 B5 B4 B3 hone2 hb4 ho hy hown
  have j1 : (0 : Int) ≤ (K : Int) := by omega
  have j2 : (K : Int) < (bs.length : Int) := by omega
  have hl0 : ¬ bs = [] := by intro e; rw [e] at h1; exact absurd h1 (by decide)
  have hwc : IntKind.i64.wrap (c : Int) = c := IntWalk.i64_in _ (by omega)
  go_wp2_with fail
  refine wp_region_still_tail 18 (by kernel_rfl) (by kernel_rfl) ?_
  simp only [List.take_succ_cons, List.take_zero, List.drop_succ_cons, List.drop_zero]
  change wpStill _ _ w3.drew _ _ _
  iterate 18 still_step
  refine wpStill_nil ?_
  go_wp2_with fail
  generalize (w3.setCell ⟨g, K, none⟩ (U y)).drew = w4 at R5H B5H ⊢
  clear cK fK hxor hone hx hol hKt hK hwc
  have SB := Hid.intro (fun (w' : World) (h : Below w.heap.size w w') => And.intro (short_any a cap bs (by omega) H256.out w' (HR.out.below h)) (long_any a cap bs (by omega) H256.out w' (HR.out.below h)))
  have SD := Hid.intro (fun (w' : World) (h : Below w4.heap.size w4 w') => by
    have s1 := short_any (some ⟨g, 0, none⟩) cp ds (by omega) HB4.out w' (R5H.out.below h)
    have s2 := long_any (some ⟨g, 0, none⟩) cp ds (by omega) HB4.out w' (R5H.out.below h)
    rw [hdl] at s1 s2
    exact And.intro s1 s2)
  have hne := HNE.out
  clear HNE R5H HB4
  generalize crc16 bs = A1 at SB hne
  generalize crc16 ds = A2 at SD hne
  generalize crc32 bs = C1 at SB hne
  generalize crc32 ds = C2 at SD hne
  have n1 : ((A1 : Int) != (A2 : Int)) = true := by rw [bne_iff_ne]; intro e; exact hne.1 (by omega)
  have n2 : ((C1 : Int) != (C2 : Int)) = true := by rw [bne_iff_ne]; intro e; exact hne.2 (by omega)
  clear hne
  refine (SB.out w4 B5H.out).1.mono ?_
  rintro e w5 ⟨rfl, B6⟩
  have B6w := B5H.out.trans (B6.mono B5H.out.size)
  go_wp2_with fail
  refine (SD.out w5 B6).1.mono ?_
  rintro e w6 ⟨rfl, B7⟩
  have B7w := B6w.trans (B7.mono B6w.size)
  have B7d := B6.trans (B7.mono B6.size)
  clear B6 B6w B7
  go_wp2_with fail
  refine (SB.out w6 B7w).2.mono ?_
  rintro e w7 ⟨rfl, B8⟩
  have B8w := B7w.trans (B8.mono B7w.size)
  have B8d := B7d.trans (B8.mono B7d.size)
  clear B7w B7d B8
  go_wp2_with fail
  refine (SD.out w7 B8d).2.mono ?_
  rintro e w8 ⟨rfl, B9⟩
  have B9w := B8w.trans (B9.mono B8w.size)
  go_wp2
  go_ret
  exact ⟨rfl, B9w⟩

theorem walk (a : Option Addr) (len cap : Nat) (zs : List Int) (c : Int) (w : World) (h : IsRow .u8 w a len cap zs) (hc : (Lit.int .u8 c).wf = true) :
    Calls Try.prog 6 #[.slice a len cap, .int .u8 c] w fun e w' => e = .returned (.bool true) ∧ Below w.heap.size w w' := by
  by_cases h200 : 200 < len ∨ len = 0
  · exact walk_far a len cap c w h.len h200
  · obtain ⟨bs, hl, h256, hr⟩ := h.bytes
    subst hl
    have hb := bounds_u8 hc
    obtain ⟨C, rfl⟩ := Int.eq_ofNat_of_zero_le hb.1
    exact walk_near a cap bs C w (by omega) (by omega) (by omega) h256 h.none_cap hr

set_option maxRecDepth 100000 in
theorem lifted (os : Os) (started : os.Started) (H : Type) (enc : TypeId × Value → H) :
    ReturnsInHanded {} Try.checked os 6 .any (Rows.crcMoreSpec.pre6 enc Try.prog Try.f6 Rows.crcMoreRow.domain false) (Rows.crcMoreSpec.post enc Try.prog Try.f6 false true false false) := by
  refine returnsInHanded_of_change (C := Try.checked) own started (by kernel_rfl) Try.func6
    (ChangeSpec.witness6 (enc := enc) (C := Try.checked) false ⟨#[], #[.slice none 0 0, .int .u8 0], []⟩ 8 (by kernel_rfl) (by kernel_rfl) (by kernel_rfl) (by kernel_rfl)) ?_
  intro W base args ds gs before hval0 hW hcnd _
  have hval : ∀ (j : Nat) t v, Try.f6.params[j]? = some t → args[j]? = some v → Value.okWide Try.prog W .any base t v := hval0
  have hW' := hW
  obtain ⟨p, q, hA0, hV, rfl, hfz, hnd⟩ := hW
  have hA : DataW.TrodAll enc Try.prog W 0 (fun _ => true) true Try.f6.params.toList args.toList ds p := hA0
  rw [Try.params6] at hA hval
  obtain ⟨v0, vs0, d0, ds0, p0, q0, hargs, rfl, rfl, h0, r0⟩ := trodAll_cons hA
  obtain ⟨v1, vs1, d1, ds1, p1, q1, rfl, rfl, rfl, h1, r1⟩ := trodAll_cons r0
  obtain ⟨rfl, rfl, rfl⟩ := trodAll_nil r1
  obtain rfl : args = #[v0, v1] := by cases args; simp_all
  obtain ⟨rfl, rfl⟩ := trodVars_none hV
  obtain ⟨a0, len0, cap0, rfl⟩ := okWide_slice Try.underlying22 (hval 0 22 v0 rfl rfl)
  have k0 := h0
  have lt0 : ∀ x ∈ p0, x.block < W.heap.size := by obtain ⟨m, hm⟩ := k0; exact DataW.trod_lt m _ _ _ hm
  obtain ⟨z0, w0⟩ : ∃ zs, IsRow .u8 W a0 len0 cap0 zs := by
    obtain ⟨fuel, hf⟩ := h0
    rcases open_ints Try.underlying22 Try.underlying5 (by kernel_rfl) hf with ⟨hcs, _⟩ | ⟨x, l, c, zs, hcs, _, hl, hm, hz, _, hcell, hwz⟩
    · simp [Value.cells] at hcs
      obtain ⟨rfl, rfl, rfl⟩ := hcs
      exact ⟨[], .inl ⟨rfl, rfl, rfl, rfl⟩⟩
    · simp [Value.cells] at hcs
      obtain ⟨rfl, rfl, rfl⟩ := hcs
      exact ⟨zs, .inr ⟨_, rfl, hl, hm, by simpa using hz, hcell, hwz⟩⟩
  obtain ⟨a1, rfl, rfl, rfl, w1⟩ := open_int Try.underlying5 (hval 1 5 v1 rfl rfl) h1
  clear hA0 hval0
  refine (walk a0 len0 cap0 z0 a1 W w0 w1).mono fun e W' ⟨he, bel⟩ => ?_
  subst he
  exact ⟨_, rfl, _, _, _, [], _, [], hW', trodAll_mk1 (shut_bool Try.underlying4 _), (trodAll_cons_mk (Below.trod laidOut (by kernel_rfl) (of_decide_eq_true (by kernel_rfl)) k0 bel lt0) (trodAll_cons_mk (shut_int Try.underlying5 w1) trodAll_mk0)), rfl, bel.frame _, fun h => by cases h⟩

theorem over : Rows.crcMoreRow.holds Try.pinned (OpenSpec.ofChange Rows.crcMoreSpec) :=
  OpenClaim.holds_of_wide 6 Try.f6 rfl rfl rfl rfl rfl rfl rfl ⟨rfl, rfl, rfl, rfl, rfl⟩ rfl rfl rfl rfl rfl (by kernel_rfl) Try.func6 (by kernel_rfl)
    (of_decide_eq_true (by kernel_rfl)) (by unfold Func.isWrapper; first | (rw [if_pos (by decide +kernel)]; kernel_rfl) | (rw [if_neg (by decide +kernel)]; exact ⟨rfl, rfl⟩))
    (fun os started H enc _ => lifted os started H enc)

end Go.Proofs.Ytmnlnchbnjomhaa.LCrcMore

namespace Go.Proofs.Ytmnlnchbnjomhaa
theorem crcMore_holds : Rows.CrcMoreSaid := LCrcMore.over
#print axioms crcMore_holds
end Go.Proofs.Ytmnlnchbnjomhaa
