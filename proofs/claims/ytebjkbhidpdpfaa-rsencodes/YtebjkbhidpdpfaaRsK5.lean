/- Package rs: firstThere. -/
import Derived.Test.YtebjkbhidpdpfaaRsK4
namespace Go.Proofs.Ytebjkbhidpdpfaa
open Go.RowKit
open Bt

/-- What the first shards that are there are. -/
def firstL (K : Nat) (L : List (List Nat)) : List (List Nat) := (decAt K L).map (fun j => L.getD j [])

theorem firstL_length (K : Nat) (L : List (List Nat)) : (firstL K L).length = (decAt K L).length := by simp [firstL]

theorem readsL_of_owns {w : World} {v : Value} {n : Nat} {xs : List Value} {R : List (List Nat)} (ho : w.ownsRow 0 24 1 v n xs) (hn : R.length = n)
    (hx : ∀ r, r < n → ∃ a c, xs[r]? = some (.slice a (R.getD r []).length c) ∧ Reads w a (R.getD r []) ∧ (a = none → c = 0)) :
    ∃ ao cap, v = .slice ao R.length cap ∧ ReadsL w ao R := by
  obtain ⟨ao, cap, rfl, hf⟩ := ownsRow_form ho
  refine ⟨ao, cap, by rw [hn], fun h0 => ?_⟩
  rcases hf with h1 | ⟨g, rfl⟩
  · omega
  · refine ⟨g, 0, rfl, fun r hr => ?_⟩
    obtain ⟨a, c, e, h2, h3⟩ := hx r (by omega)
    refine ⟨a, c, ?_, h2, h3⟩
    rw [Nat.zero_add, ho.cellAt r (by omega)]
    exact e

set_option maxRecDepth 100000 in
set_option maxHeartbeats 2000000 in
theorem firstThere_any (K : Nat) (hK : K ≤ 1000) (ao : Option Addr) (cap : Nat) (L : List (List Nat)) (hl : L.length ≤ 256) (hm : ∀ r, (L.getD r []).length ≤ 1000) (w : World) (hr : ReadsL w ao L) :
    Calls Try.prog 26 #[.int .i64 (K : Int), .slice ao L.length cap] w fun e w' => ∃ va vk, e = .returned (.tuple #[va, vk]) ∧ w'.ownsRow 0 5 1 va (decAt K L).length ((decAt K L).map U) ∧ (∃ ak ck, vk = .slice ak (firstL K L).length ck ∧ ReadsL w' ak (firstL K L)) ∧ Below w.heap.size w w' := by
  obtain ⟨i8, hi8, hz80, hz81, hz82⟩ := info_parts info_u8
  obtain ⟨iR, hiR, hzR0, hzR1, hzR2⟩ := info_parts info_rowK
  have HM := Hid.intro hm
  obtain ⟨ab, of_, hao, y, hy⟩ : ∃ ab of_, (0 < L.length → ao = some ⟨ab, of_, none⟩) ∧ ∃ y : Nat → Option Addr × Nat, ∀ r, r < L.length → w.cell? ⟨ab, of_ + r, none⟩ = some (.slice (y r).1 (L.getD r []).length (y r).2) ∧ Reads w (y r).1 (L.getD r []) ∧ ((y r).1 = none → (y r).2 = 0) := by
    by_cases h0 : 0 < L.length
    · obtain ⟨b, o, e, hrow⟩ := hr h0
      obtain ⟨y, hy⟩ := Go.Deep.choose_lt (n := L.length) (fun r hr => by
        obtain ⟨a, c, h1, h2, h3⟩ := hrow r hr
        exact (⟨(a, c), h1, h2, h3⟩ : ∃ q : Option Addr × Nat, w.cell? ⟨b, o + r, none⟩ = some (.slice q.1 (L.getD r []).length q.2) ∧ Reads w q.1 (L.getD r []) ∧ (q.1 = none → q.2 = 0)))
      exact ⟨b, o, fun _ => e, y, hy⟩
    · exact ⟨0, 0, fun h => absurd h h0, fun _ => (none, 0), fun r h => absurd h (by omega)⟩
  have HY := Hid.intro hy
  have HAO := Hid.intro hao
  have HL2 := Hid.intro (show L.length ≤ 256 from hl)
  obtain ⟨n, hn⟩ : ∃ n, n = L.length := ⟨_, rfl⟩
  rw [← hn] at hl ⊢
  have HN := Hid.intro hn
  obtain ⟨V, hV⟩ : ∃ V : Nat → Value, V = fun j => .slice (y j).1 (L.getD j []).length (y j).2 := ⟨_, rfl⟩
  have HV := Hid.intro (fun j => show V j = .slice (y j).1 (L.getD j []).length (y j).2 by rw [hV])
  have PB : Hid (∀ W, Below w.heap.size w W → ∀ va vk, W.ownsRow 0 5 1 va (thT K L n).length ((thT K L n).map U) → W.ownsRow 0 24 1 vk (thT K L n).length ((thT K L n).map V) → W.ownsRow 0 5 1 va (decAt K L).length ((decAt K L).map U) ∧ (∃ ak ck, vk = .slice ak (firstL K L).length ck ∧ ReadsL W ak (firstL K L))) := fun W hW va vk h1 h2 => by
    rw [hn, thT_all] at h1 h2
    refine ⟨h1, readsL_of_owns h2 (firstL_length K L) (fun r hr => ?_)⟩
    have hj : (decAt K L)[r] < L.length := there_lt (decAt_mem (List.getElem_mem hr))
    obtain ⟨_, q2, q3⟩ := HY.out _ hj
    have e : (firstL K L).getD r [] = L.getD (decAt K L)[r] [] := by
      rw [← List.getElem_eq_getD (h := by rw [firstL_length]; exact hr) []]
      simp [firstL]
    rw [e]
    refine ⟨_, _, ?_, q2.below hW, q3⟩
    rw [List.getElem?_map, List.getElem?_eq_getElem hr, Option.map_some, HV.out]
  clear hm hr hy hao hn hV
  go_enter Try.func26, Try.ntmps26
  go_wp2_with fail
  go_loopw [4, 5, 10] (fun va vk i wr => ∃ t : Nat, t ≤ n ∧ i = .int .i64 t ∧ wr.ownsRow 0 5 1 va (thT K L t).length ((thT K L t).map U) ∧ wr.ownsRow 0 24 1 vk (thT K L t).length ((thT K L t).map V) ∧ (∀ k, va.ownBlock = some k → w.heap.size ≤ k) ∧ (∀ k, vk.ownBlock = some k → w.heap.size ≤ k) ∧ Below w.heap.size w wr) (fun _ _ i _ => n - (intOf i).toNat)
  case atStart => exact ⟨0, by omega, rfl, by rw [thT_zero]; exact World.ownsRow_nil _ _ _ _, by rw [thT_zero]; exact World.ownsRow_nil _ _ _ _, nil_own _, nil_own _, Below.refl _ _⟩
  case round =>
    obtain ⟨t, ht, rfl, RA, RK, NA, NK, BT⟩ := hrel
    obtain ⟨aa, ca, ea, _⟩ := ownsRow_form RA
    have eaH := Hid.intro ea
    have RAH := Hid.intro RA
    have RKH := Hid.intro RK
    have NAH := Hid.intro NA
    have NKH := Hid.intro NK
    have BTH := Hid.intro BT
    have hle := thT_le K L t
    clear RA RK NA NK BT
    by_cases hlt : t < n
    · have hlt' : t < L.length := by rw [← HN.out]; exact hlt
      obtain rfl := HAO.out (by omega)
      obtain ⟨q1, _, _⟩ := HY.out t hlt'
      have ct : wr.cell? ⟨ab, of_ + t, none⟩ = some (.slice (y t).1 (L.getD t []).length (y t).2) := cellK BTH.out q1
      have hml := HM.out t
      have t0 : (0 : Int) ≤ (t : Int) := by omega
      have t1 : (t : Int) < (n : Int) := by omega
      have SK := Hid.intro (fun h : (L.getD t []).length = 0 => thT_skip (K := K) h)
      have SP := Hid.intro (fun (h : (L.getD t []).length ≠ 0) h2 => thT_push (K := K) h h2)
      have SF := Hid.intro (fun h => thT_full (K := K) (L := L) (t := t) h)
      have VT := Hid.intro (HV.out t)
      clear q1 hlt'
      generalize y t = yt at ct VT
      obtain ⟨ya, yc⟩ := yt
      obtain ⟨r, hrr⟩ : ∃ r, r = (L.getD t []).length := ⟨_, rfl⟩
      rw [← hrr] at ct hml SK SP VT
      clear hrr
      obtain ⟨m, hm⟩ : ∃ m, m = (thT K L t).length := ⟨_, rfl⟩
      rw [← hm] at ea hle RAH RKH SP SF
      have HMM := Hid.intro hm
      clear hm eaH
      subst ea
      by_cases hmk : m < K
      · have m1 : (m : Int) < (K : Int) := by omega
        by_cases r0 : r = 0
        · subst r0
          have SKE := SK.out rfl
          have l0 : ¬ (0 : Int) < ((0 : Nat) : Int) := by omega
          have SKH := Hid.intro SKE
          clear SKE SK SP SF
          go_wp2
          go_roundw
          case rel => exact ⟨t + 1, by omega, by go_num, by rw [SKH.out, ← HMM.out]; exact RAH.out, by rw [SKH.out, ← HMM.out]; exact RKH.out, NAH.out, NKH.out, BTH.out⟩
          case measure => simp [intOf]; omega
        · have l0 : (0 : Int) < (r : Int) := by omega
          have l1 : 0 < r := by omega
          have SPE := SP.out r0 hmk
          have SPH := Hid.intro SPE
          clear SPE SK SP SF
          have hu8 : (t : Int) % 256 = (t : Int) := by omega
          have hu8w : IntKind.u8.wrap (t : Int) = (t : Int) := IntWalk.u8_in _ (by omega)
          have R6H := Hid.intro (RAH.out.alloc (.cells #[U t] 5))
          go_wp2_with (at_builtin; refine wpList_append_lies _ rfl _ _ 24 rfl 0 5 i8 (.int .u8 0) 1 1 Try.underlying24 hi8 hz80 hz81 hz82 rfl (by decide) (.slice aa m ca) _ _ rfl R6H.out ⟨wr.heap.size, 0, none⟩ 1 1 [U t] rfl rfl (World.news_of_block (cs := #[U t]) (t := 5) (fr := (0, 0)) (heap_alloc_new wr _)) (by simp [Value.oneCell', U]) (by decide) (by unfold maxLen; omega) (by omega) (Nat.zero_le _) (wr.heap.size + 1) (by simp) ?_)
          intro g7 cp7 w7 hown hgrow hat hgl
          have C7 : Chg (fun q => (Value.slice aa m ca).ownBlock = some q) wr w7 := ((Chg.refl _ wr).alloc _).grown hgrow (fun q hq _ => hq)
          have B7 := BTH.out.trans (C7.below BTH.out.size (fun q hq => NAH.out q hq))
          have N7 : ∀ q, (Value.slice (some ⟨g7, 0, none⟩) (m + 1) cp7).ownBlock = some q → w.heap.size ≤ q := by
            intro q hq
            have e : g7 = q := by simpa [Value.ownBlock] using hq
            subst e
            rcases hat with hat | hat
            · exact NAH.out g7 hat
            · have := BTH.out.size; omega
          have R7 : w7.ownsRow 0 5 1 (.slice (some ⟨g7, 0, none⟩) (m + 1) cp7) (thT K L (t + 1)).length ((thT K L (t + 1)).map U) := by
            rw [SPH.out, List.length_append, List.length_singleton, ← HMM.out, List.map_append]
            exact hown
          have K7 : w7.ownsRow 0 24 1 u5 m ((thT K L t).map V) := ownsRow_keep RKH.out fun k hk => C7.block k (ownsRow_lt RKH.out hk) (fun q => rows_apart RAH.out RKH.out (by decide) k q hk)
          have R7H := Hid.intro R7
          have N7H := Hid.intro N7
          have B7H := Hid.intro B7
          have K7H := Hid.intro (K7.alloc (.cells #[.slice ya r yc] 24))
          have K6H := Hid.intro K7
          clear hown hgrow hat R7 N7 C7 B7 R6H K7 RAH RKH ct NAH BTH
          go_wp2_with (at_builtin; refine wpList_append_lies _ rfl _ _ 26 rfl 0 24 iR (.slice none 0 0) 1 24 Try.underlying26 hiR hzR0 hzR1 hzR2 rfl (by decide) u5 m _ rfl K7H.out ⟨w7.heap.size, 0, none⟩ 1 1 [.slice ya r yc] rfl rfl (World.news_of_block (cs := #[.slice ya r yc]) (t := 24) (fr := (0, 0)) (heap_alloc_new w7 _)) (by simp [Value.oneCell']) (by decide) (by unfold maxLen; omega) (by omega) (Nat.zero_le _) (w7.heap.size + 1) (by simp) ?_)
          intro g9 cp9 w9 hown hgrow hat hgl9
          have C9 : Chg (fun q => u5.ownBlock = some q) w7 w9 := ((Chg.refl _ w7).alloc _).grown hgrow (fun q hq _ => hq)
          have B9 := B7H.out.trans (C9.below B7H.out.size (fun q hq => NKH.out q hq))
          have N9 : ∀ q, (Value.slice (some ⟨g9, 0, none⟩) (m + 1) cp9).ownBlock = some q → w.heap.size ≤ q := by
            intro q hq
            have e : g9 = q := by simpa [Value.ownBlock] using hq
            subst e
            rcases hat with hat | hat
            · exact NKH.out g9 hat
            · have := B7H.out.size; omega
          have K9 : w9.ownsRow 0 24 1 (.slice (some ⟨g9, 0, none⟩) (m + 1) cp9) (thT K L (t + 1)).length ((thT K L (t + 1)).map V) := by
            rw [SPH.out, List.length_append, List.length_singleton, ← HMM.out, List.map_append, List.map_singleton, VT.out]
            exact hown
          have R9 := ownsRow_keep (w' := w9) R7H.out fun k hk => C9.block k (ownsRow_lt R7H.out hk) (fun q => rows_apart R7H.out K6H.out (by decide) k hk q)
          have R9H := Hid.intro R9
          have K9H := Hid.intro K9
          have N9H := Hid.intro N9
          have B9H := Hid.intro B9
          clear hown hgrow hat R9 K9 N9 B9 C9 R7H K7H K6H B7H NKH VT SPH HMM
          go_wp2
          go_roundw
          case rel => exact ⟨t + 1, by omega, by go_num, R9H.out, K9H.out, N7H.out, N9H.out, B9H.out⟩
          case measure => simp [intOf]; omega
      · have m1 : ¬ (m : Int) < (K : Int) := by omega
        have SFE := SF.out hmk
        have SFH := Hid.intro SFE
        clear SFE SK SP SF
        go_wp2
        go_roundw
        case rel => exact ⟨t + 1, by omega, by go_num, by rw [SFH.out, ← HMM.out]; exact RAH.out, by rw [SFH.out, ← HMM.out]; exact RKH.out, NAH.out, NKH.out, BTH.out⟩
        case measure => simp [intOf]; omega
    · have hte : n = t := by omega
      have t1 : ¬ (t : Int) < (n : Int) := by omega
      subst hte
      have P := PB.out wr BTH.out _ _ RAH.out RKH.out
      have PH := Hid.intro P
      clear P hlt ht
      subst ea
      go_wp2
      go_ret2
      obtain ⟨ak, ck, e, h⟩ := PH.out.2
      exact ⟨_, _, rfl, PH.out.1, ⟨ak, ⟨ck, e⟩, h⟩, BTH.out⟩

end Go.Proofs.Ytebjkbhidpdpfaa
