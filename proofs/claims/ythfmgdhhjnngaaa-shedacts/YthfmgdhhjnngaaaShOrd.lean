/- Package shed: Order. -/
import Derived.Test.YthfmgdhhjnngaaaShK1
import Derived.Test.YthfmgdhhjnngaaaNumL
import Derived.Maps.AppendAt
namespace Go.Proofs.Ythfmgdhhjnngaaa
open Go.RowKit
open Bt

theorem info_intS : (Try.prog.info? 3).map (fun i => (i.zero, i.size, i.bytes)) = some (some (.int .i64 0), 1, 8) := by kernel_rfl

abbrev NV (n : Int) : Value := .int .i64 n

theorem nums_of_ownsS {B : Nat} {w : World} {gv : Value} {G : List Int} (h : w.ownsRow B 3 1 gv G.length (G.map NV)) {R : Nat → Prop} (hR : ∀ k, gv.ownBlock = some k → R k) : NumsAt R w gv G := by
  have h0 : w.ownsRow 0 3 1 gv G.length (G.map NV) := by
    refine ⟨h.1, ?_⟩
    rcases h.2 with q | ⟨g, cap, cur, hv, _, r⟩
    · exact .inl q
    · exact .inr ⟨g, cap, cur, hv, Nat.zero_le _, r⟩
  obtain ⟨ao, c, rfl, hf⟩ := ownsRow_form h0
  refine ⟨ao, c, rfl, fun hp => ?_⟩
  obtain ⟨g, rfl⟩ := hf.resolve_left (by omega)
  refine ⟨g, 0, rfl, hR g rfl, fun t ht => ?_⟩
  rw [Nat.zero_add, h0.cellAt t (by omega)]
  simp [ht]

set_option maxRecDepth 100000 in
set_option maxHeartbeats 1000000 in
theorem horder_any (b : Nat) (S : Nat → Prop) (x : Ctl) (w : World) (h : Ctr S w b x) :
    Calls Try.prog 15 #[.pointer (some ⟨b, 0, none⟩)] w fun e w' => ∃ v, e = .returned v ∧ NumsAt (fun k => w.heap.size ≤ k ∧ k < w'.heap.size) w' v (ordS x) ∧ Below w.heap.size w w' := by
  obtain ⟨v, zs, h⟩ := h
  have hf := h.few
  obtain ⟨i0, hi0, hz0, hzs, hzb⟩ := info_parts info_intS
  have HH := Hid.intro h
  have ho : ordS x = zs.map (fun z => z.2.bed) := by unfold ordS; rw [h.beds, List.map_map]; rfl
  have HO := Hid.intro ho
  obtain ⟨O, hO⟩ : ∃ O, O = ordS x := ⟨_, rfl⟩
  have HOO := Hid.intro hO
  rw [← hO]
  obtain ⟨ao, c, rfl, hz⟩ := h.form
  have HZ := Hid.intro hz
  have k2 := h.cells.2.2.1
  obtain ⟨n, hn⟩ : ∃ n, n = zs.length := ⟨_, rfl⟩
  have HN := Hid.intro hn
  rw [← hn] at k2 hf
  clear h hz hn hO ho
  go_enter Try.func15, Try.ntmps15
  go_wp2_with fail
  go_loopw [3, 13] (fun gv iv ws => ∃ t : Nat, t ≤ n ∧ iv = .int .i64 t ∧ Below w.heap.size w ws ∧ ws.ownsRow w.heap.size 3 1 gv t (((zs.map (fun z => z.2.bed)).take t).map NV)) (fun _ iv _ => n - (intOf iv).toNat)
  case atStart => exact ⟨0, by omega, rfl, Below.refl _ w, World.ownsRow_nil _ _ _ _⟩
  case round =>
    obtain ⟨t, ht, rfl, hB, own⟩ := hrel
    have BH := Hid.intro hB
    have OW := Hid.intro own
    by_cases hlt : t < n
    · have hlt' : t < zs.length := by rw [← HN.out]; exact hlt
      obtain ⟨g, rfl⟩ := HZ.out.resolve_left (by omega)
      have d0 := (HH.out.below hB).at hlt'
      have d1 := ((HH.out.each zs[t] (List.getElem_mem hlt')).below hB).cells.1
      have tk : Hid (((zs.map (fun z => z.2.bed)).take (t + 1)).map NV = ((zs.map (fun z => z.2.bed)).take t).map NV ++ [NV zs[t].2.bed]) := by
        rw [Hid, List.take_succ_eq_append_getElem (by simpa using hlt'), List.map_append]
        simp
      have t1 : (t : Int) < (n : Int) := by omega
      have t0 : (0 : Int) ≤ (t : Int) := by omega
      have hmx : t + 1 ≤ maxLen := by unfold maxLen; omega
      have hs := Hid.intro hB.size
      generalize zs[t].2.bed = bd at *
      generalize zs[t].1 = q at *
      clear hB own
      go_wp2_with (at_builtin; refine wpList_append_own_at _ rfl _ _ 31 rfl w.heap.size 3 i0 (.int .i64 0) 1 8 Try.underlying31 hi0 hz0 hzs hzb rfl (by decide) _ _ _ rfl (OW.out.alloc _) ⟨wr.heap.size, 0, none⟩ 1 1 [NV bd] rfl rfl (cell_one_new _ _ _) (by simp [Value.oneCell']) hmx (by omega) (by have := hs.out; simp; omega) ?_; intro v' w1 hown' hgrow hnil hat)
      have BN : Hid (Below w.heap.size w w1) := by
        have q1 := BH.out.alloc hs.out (.cells #[NV bd] 3)
        exact q1.grown hgrow (Nat.le_trans hs.out (by simp)) (fun k e => (World.ownsRow.lt OW.out k e).1)
      rw [← tk.out] at hown'
      have OWN := Hid.intro hown'
      clear hgrow hown' hat hnil
      all_goals
        go_wp2
        go_roundw
        case rel => exact ⟨t + 1, by omega, by go_num, BN.out, OWN.out⟩
        case measure => simp [intOf]; omega
    · obtain rfl : t = n := by omega
      have t1 : ¬ (t : Int) < (t : Int) := by omega
      have e : Hid (((zs.map (fun z => z.2.bed)).take t).map NV = O.map NV) := by
        rw [Hid, List.take_of_length_le (by rw [List.length_map, HN.out]; exact Nat.le_refl _), HOO.out, HO.out]
      have el : Hid (O.length = t) := by rw [Hid, HOO.out, HO.out, List.length_map, HN.out]
      go_wp2
      go_ret
      have ow := OW.out
      rw [e.out, ← el.out] at ow
      exact ⟨_, rfl, nums_of_ownsS ow (fun k hk => World.ownsRow.lt ow k hk), BH.out⟩

end Go.Proofs.Ythfmgdhhjnngaaa
