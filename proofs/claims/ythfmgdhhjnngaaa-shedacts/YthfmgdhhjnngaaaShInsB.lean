/- slices.Insert: its roads. -/
import Derived.Test.YthfmgdhhjnngaaaShIns
namespace Go.Proofs.Ythfmgdhhjnngaaa
open Go.RowKit Go.Lib Go.Shelf
open Bt

abbrev TP : TypeId := 50
abbrev TE : TypeId := 55

/-- What Insert leaves. -/
def InsA (w w' : World) (v v' : Value) (xs : List Value) (i : Nat) (p : Value) : Prop :=
  w'.ownsRow 0 TE 1 v' (xs.length + 1) (xs.insertIdx i p) ∧ Chg (fun k => v.ownBlock = some k) w w' ∧ (v'.ownBlock = v.ownBlock ∨ ∃ k, v'.ownBlock = some k ∧ w.heap.size ≤ k)

theorem sizeOf_TE (w : World) : (Go.sizeOf TE).run Try.prog w = .ok 1 w := by
  obtain ⟨i0, hi0, _, h1, _⟩ := info_parts info_ptr
  simp [sizeOf, typeInfo, hi0, h1]

theorem hsz_TE : (Try.prog.info? TE).map (·.size) = some 1 := by
  obtain ⟨i0, hi0, _, h1, _⟩ := info_parts info_ptr
  rw [hi0]; simp [h1]

theorem ins_end (xs : List Value) (p : Value) : xs.insertIdx xs.length p = xs ++ [p] := by
  induction xs with
  | nil => rfl
  | cons a l ih => simp [List.insertIdx_succ_cons, ih]

theorem ins_take (xs : List Value) (p : Value) : ∀ i, i ≤ xs.length → xs.insertIdx i p = xs.take i ++ p :: xs.drop i := by
  induction xs with
  | nil => intro i hi; obtain rfl : i = 0 := by (simpa using hi)
           rfl
  | cons a l ih =>
    intro i hi
    cases i with
    | zero => rfl
    | succ i => simp [List.insertIdx_succ_cons, ih i (by simpa using hi)]

set_option maxRecDepth 100000 in
set_option maxHeartbeats 2000000 in
theorem hins_end (v : Value) (xs : List Value) (hn : xs.length ≤ 100) (p : Value) (hp : p.oneCell' = true) (vb : Nat) (w : World) (own : w.ownsRow 0 TE 1 v xs.length xs)
    (hvb : w.heap[vb]? = some (.cells #[p] TE (0, 0))) :
    Calls Try.prog 36 #[v, .int .i64 (xs.length : Int), .slice (some ⟨vb, 0, none⟩) 1 1] w fun e w' => ∃ v', e = .returned v' ∧ InsA w w' v v' xs xs.length p := by
  have hnew : ∀ j u, [p][j]? = some u → w.cell? ((⟨vb, 0, none⟩ : Addr).add j) = some u := fun j u hu => by
    match j, hu with
    | 0, hu =>
      simp at hu
      subst hu
      have := cell_of_row w vb 0 _ _ _ hvb
      simpa [Addr.add] using this
  have h1 : ∀ u ∈ [p], u.oneCell' = true := fun u hu => by simp at hu; subst hu; exact hp
  obtain ⟨i0, hi0, hz0, hzs, hzb⟩ := info_parts info_ptr
  have HI : Hid (xs.insertIdx xs.length p = xs ++ [p]) := ins_end xs p
  obtain ⟨n, hnn⟩ : ∃ n, n = xs.length := ⟨_, rfl⟩
  rw [← hnn] at own hn ⊢
  have HN := Hid.intro hnn
  have HO := Hid.intro own
  obtain ⟨ao, c, rfl, hz⟩ := ownsRow_form own
  have hcap : n ≤ c := by
    rcases own.2 with ⟨hv, h0⟩ | ⟨g, cap, cur, hv, _, _, hc, _⟩
    · omega
    · cases hv; exact hc
  have hc63 : c ≤ 9223372036854775807 := by
    rcases own.2 with ⟨hv, h0⟩ | ⟨g, cap, cur, hv, _, _, _, hm, _⟩
    · cases hv; omega
    · cases hv; unfold maxLen at hm; omega
  have hmx : n + 1 ≤ maxLen := by unfold maxLen; omega
  clear hvb own hnn
  have A0 : ∀ ao, w.ownsRow 0 TE 1 (.slice ao n c) n xs → (ao = none → n = 0 ∧ c = 0) → Calls Try.prog 36 #[.slice ao n c, .int .i64 (n : Int), .slice (some ⟨vb, 0, none⟩) 1 1] w fun e w' => ∃ v', e = .returned v' ∧ InsA w w' (.slice ao n c) v' xs n p := by
    intro ao hO hnil
    have HO := Hid.intro hO
    cases ao with
    | none =>
      obtain ⟨rfl, rfl⟩ := hnil rfl
      clear hnil hO
      go_enter Try.func36, Try.ntmps36
      go_wp2_with (at_builtin; refine wpList_append_own_at _ rfl _ _ TP rfl 0 TE i0 (.pointer none) 1 8 Try.underlying50 hi0 hz0 hzs hzb rfl (by decide) _ _ _ rfl HO.out ⟨vb, 0, none⟩ 1 1 [p] rfl rfl hnew h1 hmx (by omega) (by omega) ?_; intro v' w1 hown' hgrow hnil hat)
      go_ret
      refine ⟨_, rfl, ?_, ⟨hgrow.os, hgrow.tape, hgrow.output, hgrow.size, fun k hk hs => hgrow.block k hk (fun e => hs e.symm)⟩, ?_⟩
      · rw [← HN.out, HN.out, HI.out, ← HN.out]; exact hown'
      · rcases hat with e | e
        · exact .inl e
        · exact .inr ⟨_, e, Nat.le_refl _⟩
    | some ad =>
      obtain ⟨g, o, sp⟩ := ad
      clear hnil hO
      go_enter Try.func36, Try.ntmps36
      go_wp2_with (at_builtin; refine wpList_append_own_at _ rfl _ _ TP rfl 0 TE i0 (.pointer none) 1 8 Try.underlying50 hi0 hz0 hzs hzb rfl (by decide) _ _ _ rfl HO.out ⟨vb, 0, none⟩ 1 1 [p] rfl rfl hnew h1 hmx (by omega) (by omega) ?_; intro v' w1 hown' hgrow hnil hat)
      all_goals
        go_ret
        refine ⟨_, rfl, ?_, ⟨hgrow.os, hgrow.tape, hgrow.output, hgrow.size, fun k hk hs => hgrow.block k hk (fun e => hs e.symm)⟩, ?_⟩
        · rw [← HN.out, HN.out, HI.out, ← HN.out]; exact hown'
        · rcases hat with e | e
          · exact .inl e
          · exact .inr ⟨_, e, Nat.le_refl _⟩
  refine A0 ao HO.out (fun e => ?_)
  subst e
  rcases HO.out.2 with ⟨hv, h0⟩ | ⟨g, cap, cur, hv, _⟩
  · cases hv; exact ⟨rfl, rfl⟩
  · cases hv

end Go.Proofs.Ythfmgdhhjnngaaa
