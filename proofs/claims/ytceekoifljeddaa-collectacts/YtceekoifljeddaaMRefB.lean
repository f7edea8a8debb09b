/- Several texts, one behind the other: RefSix RefSevA RefSevB RefSevC RefSevD RefSevE RefSevF RefSevH RefSevJ. -/
import Derived.Test.YtceekoifljeddaaBase
import Derived.Test.YtceekoifljeddaaMPlain
import Derived.Test.YtceekoifljeddaaMRefA
import Derived.Test.YtceekoifljeddaaCoPart
import Derived.Test.YtceekoifljeddaaMRs
import Derived.Deep.RegionHeld3
import Derived.Test.YtceekoifljeddaaAppB
import Derived.Deep.AppendLies
import Derived.Deep.RegionLaw
import Derived.Deep.OwnRows
import Derived.Laws.OwnMore
import Derived.Test.YtceekoifljeddaaRefSevI
/- Contracts of the document's own Is, Far, Next, Open, Behind of layer 6. -/
namespace Go.Proofs.Ytceekoifljeddaa
open Go.RowKit
open Bt

theorem refIs_any (g : Int) (w : World) :
    Calls Try.prog 12 #[.int .i64 g] w fun e w' => e = .returned (.bool (isG g)) ∧ w = w' := by
  by_cases h1 : 0 ≤ g
  · by_cases h2 : g ≤ 255
    · rw [isG_of ⟨h1, h2⟩]
      go_enter Try.func12, Try.ntmps12
      go_wp2
      go_ret
      exact ⟨rfl, rfl⟩
    · rw [show isG g = false from by simp [isG]; omega]
      go_enter Try.func12, Try.ntmps12
      go_wp2
      go_ret
      exact ⟨rfl, rfl⟩
  · rw [show isG g = false from by simp [isG]; omega]
    go_enter Try.func12, Try.ntmps12
    go_wp2
    go_ret
    exact ⟨rfl, rfl⟩

theorem refStep_any (g : Nat) (hg : g < 256) (w : World) :
    Calls Try.prog 50 #[.int .i64 (g : Int)] w fun e w' => e = .returned (.int .i64 (((g + 1) % 256 : Nat) : Int)) ∧ w = w' := by
  by_cases h : g = 255
  · subst h
    go_enter Try.func50, Try.ntmps50
    go_wp2
    go_ret
    exact ⟨rfl, rfl⟩
  · have j : ((g : Int) == 255) = false := by rw [beq_eq_false_iff_ne]; omega
    have e : ((g + 1) % 256 : Nat) = g + 1 := Nat.mod_eq_of_lt (by omega)
    rw [e]
    clear e
    go_enter Try.func50, Try.ntmps50
    go_wp2
    go_ret
    exact ⟨ret_int (by omega), rfl⟩

set_option maxHeartbeats 1000000 in
theorem refFar_any (b g : Int) (w : World) :
    Calls Try.prog 28 #[.int .i64 b, .int .i64 g] w fun e w' => e = .returned (.int .i64 (farA b g)) ∧ w = w' := by
  obtain ⟨R, hR⟩ : ∃ R, R = farA b g := ⟨_, rfl⟩
  rw [← hR]
  have HR := Hid.intro hR
  clear hR
  have I1 := Hid.intro (refIs_any b)
  have I2 := Hid.intro (refIs_any g)
  rcases h1 : isG b with _ | _
  · rw [h1] at I1
    obtain rfl : R = -1 := by rw [HR.out]; unfold farA; rw [if_neg (by rw [h1]; simp)]
    clear I2 HR h1
    go_enter Try.func28, Try.ntmps28
    go_wp2_with fail
    refine (I1.out w).mono ?_
    rintro e w1 ⟨rfl, rfl⟩
    go_wp2
    go_ret
    exact ⟨rfl, rfl⟩
  · rw [h1] at I1
    rcases h2 : isG g with _ | _
    · rw [h2] at I2
      obtain rfl : R = -1 := by rw [HR.out]; unfold farA; rw [if_neg (by rw [h2]; simp)]
      clear HR h1 h2
      go_enter Try.func28, Try.ntmps28
      go_wp2_with fail
      refine (I1.out w).mono ?_
      rintro e w1 ⟨rfl, rfl⟩
      clear I1
      go_wp2_with fail
      refine (I2.out w).mono ?_
      rintro e w1 ⟨rfl, rfl⟩
      go_wp2
      go_ret
      exact ⟨rfl, rfl⟩
    · rw [h2] at I2
      have k1 := isG_true h1
      have k2 := isG_true h2
      obtain ⟨B, rfl⟩ := Int.eq_ofNat_of_zero_le k1.1
      obtain ⟨G, rfl⟩ := Int.eq_ofNat_of_zero_le k2.1
      have hB : B < 256 := by omega
      have hG : G < 256 := by omega
      obtain ⟨N, hN⟩ : ∃ N : Nat, N = (G + 256 - B) % 256 := ⟨_, rfl⟩
      have hNl : N < 256 := by rw [hN]; exact Nat.mod_lt _ (by decide)
      have hNG : (B + N) % 256 = G := by omega
      obtain rfl : R = (N : Int) := by rw [HR.out, farA_in k1 k2]; omega
      have hmin : ∀ t, t < N → (B + t) % 256 ≠ G := fun t ht => by omega
      have HMIN := Hid.intro hmin
      clear HR h1 h2 k1 k2 hmin hN
      go_enter Try.func28, Try.ntmps28
      go_wp2_with fail
      refine (I1.out w).mono ?_
      rintro e w1 ⟨rfl, rfl⟩
      clear I1
      go_wp2_with fail
      refine (I2.out w).mono ?_
      rintro e w1 ⟨rfl, rfl⟩
      clear I2
      go_wp2_with fail
      go_loopw [0, 5] (fun b n wr => ∃ t : Nat, t ≤ N ∧ n = .int .i64 t ∧ b = .int .i64 (((B + t) % 256 : Nat) : Int) ∧ w = wr) (fun _ n _ => N - (intOf n).toNat)
      case atStart => exact ⟨0, by omega, rfl, by rw [Nat.add_zero, Nat.mod_eq_of_lt hB], rfl⟩
      case round =>
        obtain ⟨t, ht, rfl, rfl, rfl⟩ := hrel
        by_cases htl : t < N
        · have hne := HMIN.out t htl
          have hl : (B + t) % 256 < 256 := Nat.mod_lt _ (by decide)
          have hs := refStep_any ((B + t) % 256) hl w
          rw [show ((B + t) % 256 + 1) % 256 = (B + (t + 1)) % 256 by omega] at hs
          have HS := Hid.intro hs
          clear hs
          obtain ⟨C, hC⟩ : ∃ C, C = (B + t) % 256 := ⟨_, rfl⟩
          obtain ⟨D, hD⟩ : ∃ D, D = (B + (t + 1)) % 256 := ⟨_, rfl⟩
          rw [← hC] at hne HS ⊢
          rw [← hD] at HS
          have HD := Hid.intro hD
          have j : ((C : Int) != (G : Int)) = true := by rw [bne_iff_ne]; omega
          clear hC hD hl hne hNG
          go_wp2_with fail
          refine HS.out.mono ?_
          rintro e w1 ⟨rfl, rfl⟩
          go_wp2
          go_roundw
          case rel => exact ⟨t + 1, by omega, by go_num, by rw [HD.out], trivial⟩
          case measure => simp [intOf]; omega
        · have hte : t = N := by omega
          subst hte
          rw [hNG]
          have j : ((G : Int) != (G : Int)) = false := by simp
          clear hNG
          go_wp2
          go_ret
          exact ⟨rfl, rfl⟩

set_option maxHeartbeats 1000000 in
theorem refNext_any (g n : Int) (hn : -1000000 ≤ n ∧ n ≤ 1000000) (w : World) :
    Calls Try.prog 42 #[.int .i64 g, .int .i64 n] w fun e w' => e = .returned (.int .i64 (nextA g n)) ∧ w = w' := by
  obtain ⟨R, hR⟩ : ∃ R, R = nextA g n := ⟨_, rfl⟩
  rw [← hR]
  have HR := Hid.intro hR
  clear hR
  have I1 := Hid.intro (refIs_any g)
  rcases h1 : isG g with _ | _
  · rw [h1] at I1
    obtain rfl : R = -1 := by rw [HR.out]; unfold nextA; rw [if_neg (by rw [h1]; simp)]
    clear HR h1
    go_enter Try.func42, Try.ntmps42
    go_wp2_with fail
    refine (I1.out w).mono ?_
    rintro e w1 ⟨rfl, rfl⟩
    go_wp2
    go_ret
    exact ⟨rfl, rfl⟩
  · rw [h1] at I1
    have k1 := isG_true h1
    obtain ⟨G, rfl⟩ := Int.eq_ofNat_of_zero_le k1.1
    have hG : G < 256 := by omega
    have hRe : R = ((G : Int) + n) % 256 := by rw [HR.out, nextA_in n k1]
    have HRE := Hid.intro hRe
    clear HR h1 k1 hRe
    go_enter Try.func42, Try.ntmps42
    go_wp2_with fail
    refine (I1.out w).mono ?_
    rintro e w1 ⟨rfl, rfl⟩
    clear I1
    go_wp2_with fail
    go_loopw [1] (fun m wr => ∃ x : Int, m = .int .i64 x ∧ x % 256 = n % 256 ∧ -1000000 ≤ x ∧ x ≤ 1000256 ∧ w = wr) (fun m _ => (1000256 - intOf m).toNat)
    case atStart => exact ⟨n, rfl, rfl, hn.1, by omega, rfl⟩
    case round =>
      obtain ⟨x, rfl, hx, hx1, hx2, rfl⟩ := hrel
      by_cases h0 : x < 0
      · have HX := Hid.intro hx
        clear hx
        go_wp2
        go_roundw
        case rel => exact ⟨x + 256, by go_num, by have := HX.out; omega, by omega, by omega, trivial⟩
        case measure => simp [intOf]; omega
      · obtain ⟨X, rfl⟩ := Int.eq_ofNat_of_zero_le (show 0 ≤ x by omega)
        obtain ⟨M, hM⟩ : ∃ M : Nat, M = X % 256 := ⟨_, rfl⟩
        have hMl : M < 256 := by omega
        have hXM : (X : Int) % 256 = (M : Int) := by omega
        have hRM : R = (((G + M) % 256 : Nat) : Int) := by rw [HRE.out]; omega
        have j0 : decide ((X : Int) < 0) = false := by simp
        subst hRM
        clear hx hM
        go_wp2_with fail
        go_loopw [0, 5] (fun b i wr => ∃ t : Nat, t ≤ M ∧ i = .int .i64 t ∧ b = .int .i64 (((G + t) % 256 : Nat) : Int) ∧ w = wr) (fun _ i _ => M - (intOf i).toNat)
        case atStart => exact ⟨0, by omega, rfl, by rw [Nat.add_zero, Nat.mod_eq_of_lt hG], rfl⟩
        case round =>
          obtain ⟨t, ht, rfl, rfl, rfl⟩ := hrel
          by_cases htl : t < M
          · have hl : (G + t) % 256 < 256 := Nat.mod_lt _ (by decide)
            have hs := refStep_any ((G + t) % 256) hl w
            rw [show ((G + t) % 256 + 1) % 256 = (G + (t + 1)) % 256 by omega] at hs
            have HS := Hid.intro hs
            clear hs
            obtain ⟨C, hC⟩ : ∃ C, C = (G + t) % 256 := ⟨_, rfl⟩
            obtain ⟨D, hD⟩ : ∃ D, D = (G + (t + 1)) % 256 := ⟨_, rfl⟩
            rw [← hC] at HS ⊢
            rw [← hD] at HS
            have HD := Hid.intro hD
            have j : (t : Int) < (M : Int) := by omega
            clear hC hD hl
            go_wp2_with fail
            refine HS.out.mono ?_
            rintro e w1 ⟨rfl, rfl⟩
            go_wp2
            go_roundw
            case rel => exact ⟨t + 1, by omega, by go_num, by rw [HD.out], trivial⟩
            case measure => simp [intOf]; omega
          · have hte : t = M := by omega
            subst hte
            have j : ¬ (t : Int) < (t : Int) := by omega
            go_wp2
            go_ret
            exact ⟨rfl, rfl⟩

theorem refOpen_any (b g : Int) (w : World) :
    Calls Try.prog 44 #[.int .i64 b, .int .i64 g] w fun e w' => e = .returned (.bool (openA b g)) ∧ w = w' := by
  have F := Hid.intro (refFar_any b g w)
  unfold openA
  generalize farA b g = f at F ⊢
  go_enter Try.func44, Try.ntmps44
  go_wp2_with fail
  refine F.out.mono ?_
  rintro e w1 ⟨rfl, rfl⟩
  by_cases h1 : 0 ≤ f
  · by_cases h2 : f ≤ 3
    · go_wp2
      go_ret
      exact ⟨ret_bool (by simp [h1, h2]), rfl⟩
    · go_wp2
      go_ret
      exact ⟨ret_bool (by simp; omega), rfl⟩
  · go_wp2
    go_ret
    exact ⟨ret_bool (by simp; omega), rfl⟩

theorem refBehind_any (b g : Int) (w : World) :
    Calls Try.prog 59 #[.int .i64 b, .int .i64 g] w fun e w' => e = .returned (.bool (behindA b g)) ∧ w = w' := by
  have F := Hid.intro (refFar_any b g w)
  unfold behindA
  generalize farA b g = f at F ⊢
  go_enter Try.func59, Try.ntmps59
  go_wp2_with fail
  refine F.out.mono ?_
  rintro e w1 ⟨rfl, rfl⟩
  by_cases h1 : 128 ≤ f
  · go_wp2
    go_ret
    exact ⟨ret_bool (by simp [h1]), rfl⟩
  · go_wp2
    go_ret
    exact ⟨ret_bool (by simp), rfl⟩

end Go.Proofs.Ytceekoifljeddaa

/- The document's own collector of layer 7 in memory; its count, place and Skip. -/
namespace Go.Proofs.Ytceekoifljeddaa
open Go.RowKit
open Bt

/-- The document's collector: its own block, its groups' block, each group's rows. -/
structure RC (S : Nat → Prop) (w : World) (b gb go gc : Nat) (lb : Nat → Nat) (A : Nat → Nat → Option Addr) (C : Nat → Nat → Nat) (x : Col) : Prop where
  head : w.heap[b]? = some (.cells #[.int .i64 (x.K : Int), .int .i64 (x.N : Int), .int .i64 (x.S : Int), .int .i64 (x.base : Int), .slice (some ⟨gb, go, none⟩) 4 gc] 46 (0, 0))
  cap : 4 ≤ gc
  grp : ∀ i, i < 4 → w.cell? ⟨gb, go + i * 2, none⟩ = some (.slice (some ⟨lb i, 0, none⟩) x.N x.N)
  gon : ∀ i, i < 4 → w.cell? ⟨gb, go + i * 2 + 1, none⟩ = some (.bool (x.gone i)) ∧ w.frozen? ⟨gb, go + i * 2 + 1, none⟩ = false
  row : ∀ i, i < 4 → ∀ r, r < x.N → w.cell? ⟨lb i, r, none⟩ = some (.slice (A i r) ((x.g i).getD r []).length (C i r)) ∧ w.frozen? ⟨lb i, r, none⟩ = false
  rd : ∀ i, i < 4 → ∀ r, r < x.N → Reads w (A i r) ((x.g i).getD r []) ∧ (A i r = none → C i r = 0)
  inB : S b ∧ S gb
  inL : ∀ i, i < 4 → S (lb i)
  inA : ∀ i, i < 4 → ∀ r, r < x.N → ∀ ad, A i r = some ad → S ad.block
  apB : gb ≠ b
  apL : ∀ i, i < 4 → lb i ≠ b ∧ lb i ≠ gb ∧ ∀ j, j < 4 → i ≠ j → lb i ≠ lb j
  apA : ∀ i, i < 4 → ∀ r, r < x.N → ∀ ad, A i r = some ad → ad.block ≠ b ∧ ad.block ≠ gb ∧ ∀ j, j < 4 → ad.block ≠ lb j
  lt : ∀ k, S k → k < w.heap.size
  ok : x.Ok

def RefC (S : Nat → Prop) (w : World) (b : Nat) (x : Col) : Prop := ∃ gb go gc lb A C, RC S w b gb go gc lb A C x

variable {S : Nat → Prop} {w w' : World} {b gb go gc : Nat} {lb : Nat → Nat} {A : Nat → Nat → Option Addr} {C : Nat → Nat → Nat} {x : Col}

theorem RC.kept {T : Nat → Prop} (h : RC S w b gb go gc lb A C x) (hc : Chg T w w') (hT : ∀ k, S k → ¬ T k) : RC S w' b gb go gc lb A C x := by
  have bl : ∀ k, S k → w'.heap[k]? = w.heap[k]? := fun k hk => hc.block k (h.lt k hk) (hT k hk)
  have ce : ∀ {a : Addr} {v : Value}, S a.block → w.cell? a = some v → w'.cell? a = some v := fun {a v} ha hv => (World.cell?_of_block (bl _ ha)).trans hv
  have fr : ∀ {a : Addr} {v : Bool}, S a.block → w.frozen? a = v → w'.frozen? a = v := fun {a v} ha hv => (World.frozen?_of_block (bl _ ha)).trans hv
  exact ⟨(bl b h.inB.1).trans h.head, h.cap, fun i hi => ce h.inB.2 (h.grp i hi), fun i hi => ⟨ce h.inB.2 (h.gon i hi).1, fr h.inB.2 (h.gon i hi).2⟩,
    fun i hi r hr => ⟨ce (h.inL i hi) (h.row i hi r hr).1, fr (h.inL i hi) (h.row i hi r hr).2⟩,
    fun i hi r hr => ⟨(h.rd i hi r hr).1.kept hc (fun ad ha => hT _ (h.inA i hi r hr ad ha)), (h.rd i hi r hr).2⟩,
    h.inB, h.inL, h.inA, h.apB, h.apL, h.apA, fun k hk => Nat.lt_of_lt_of_le (h.lt k hk) hc.size, h.ok⟩

theorem RefC.kept {T : Nat → Prop} (h : RefC S w b x) (hc : Chg T w w') (hT : ∀ k, S k → ¬ T k) : RefC S w' b x := by
  obtain ⟨gb, go, gc, lb, A, C, h⟩ := h
  exact ⟨gb, go, gc, lb, A, C, h.kept hc hT⟩

theorem RefC.below (h : RefC S w b x) (hb : Below w.heap.size w w') : RefC S w' b x := h.kept (below_chg hb) (fun _ _ => id)

theorem RC.below (h : RC S w b gb go gc lb A C x) (hb : Below w.heap.size w w') : RC S w' b gb go gc lb A C x := h.kept (below_chg hb) (fun _ _ => id)

theorem RC.cells (h : RC S w b gb go gc lb A C x) : w.cell? ⟨b, 0, none⟩ = some (.int .i64 (x.K : Int)) ∧ w.cell? ⟨b, 1, none⟩ = some (.int .i64 (x.N : Int)) ∧ w.cell? ⟨b, 2, none⟩ = some (.int .i64 (x.S : Int)) ∧ w.cell? ⟨b, 3, none⟩ = some (.int .i64 (x.base : Int)) ∧ w.cell? ⟨b, 4, none⟩ = some (.slice (some ⟨gb, go, none⟩) 4 gc) :=
  ⟨by rw [cell_of_row w _ 0 _ _ _ h.head]; rfl, by rw [cell_of_row w _ 1 _ _ _ h.head]; rfl, by rw [cell_of_row w _ 2 _ _ _ h.head]; rfl, by rw [cell_of_row w _ 3 _ _ _ h.head]; rfl, by rw [cell_of_row w _ 4 _ _ _ h.head]; rfl⟩

theorem RC.readsL (h : RC S w b gb go gc lb A C x) {i : Nat} (hi : i < 4) : ReadsL w (some ⟨lb i, 0, none⟩) (x.g i) := fun _ =>
  ⟨lb i, 0, rfl, fun r hr => ⟨A i r, C i r, by rw [Nat.zero_add]; exact (h.row i hi r (by rw [← h.ok.len i hi]; exact hr)).1, h.rd i hi r (by rw [← h.ok.len i hi]; exact hr)⟩⟩

set_option maxRecDepth 100000 in
set_option maxHeartbeats 1000000 in
/-- How many shards a group has. -/
theorem refCount_any (ao : Option Addr) (cap : Nat) (L : List (List Nat)) (gn : Bool) (hl : L.length ≤ 1000) (hm : ∀ r, (L.getD r []).length ≤ 1000) (w : World) (hr : ReadsL w ao L) :
    Calls Try.prog 43 #[.agg #[.slice ao L.length cap, .bool gn]] w fun e w' => e = .returned (.int .i64 (cnt L : Int)) ∧ Below w.heap.size w w' := by
  have HR := Hid.intro hr
  have HM := Hid.intro hm
  have b0 := heap_alloc_new w (.cells #[.slice ao L.length cap, .bool gn] 74)
  have HB0 := Hid.intro b0
  have BA := Hid.intro ((Below.refl _ w).alloc (Nat.le_refl _) (.cells #[.slice ao L.length cap, .bool gn] 74))
  have HC : Hid (cnt L = cntH L.length (fun r => decide (0 < (L.getD r []).length))) := rfl
  obtain ⟨n, hn⟩ : ∃ n, n = L.length := ⟨_, rfl⟩
  rw [← hn] at hl HC HB0 BA ⊢
  have HN := Hid.intro hn
  generalize cnt L = c at HC ⊢
  clear hr hm b0 hn
  go_enter Try.func43, Try.ntmps43
  go_wp2_with fail
  go_loopw [3, 4] (fun v i wr => ∃ t : Nat, t ≤ n ∧ i = .int .i64 t ∧ v = .int .i64 (cntH t (fun r => decide (0 < (L.getD r []).length)) : Int) ∧ wr.heap[w.heap.size]? = some (.cells #[.slice ao n cap, .bool gn] 74 (0, 0)) ∧ Below w.heap.size w wr) (fun _ i _ => n - (intOf i).toNat)
  case atStart => exact ⟨0, by omega, rfl, rfl, HB0.out, BA.out⟩
  case round =>
    obtain ⟨t, ht, rfl, rfl, hb, hB⟩ := hrel
    have HBB := Hid.intro hb
    have HBW := Hid.intro hB
    have c0 : wr.cell? ⟨w.heap.size, 0, none⟩ = some (.slice ao n cap) := by rw [cell_of_row wr _ 0 _ _ _ hb]; rfl
    have CS := Hid.intro (cntH_succ t (fun r => decide (0 < (L.getD r []).length)))
    have cb := cntH_le t (fun r => decide (0 < (L.getD r []).length))
    clear hb hB
    by_cases hlt : t < n
    · have hlt' : t < L.length := by rw [← HN.out]; exact hlt
      obtain ⟨bb, bo, rfl, hrow⟩ := HR.out (by omega)
      obtain ⟨ra, rc, q1, _, _⟩ := hrow t hlt'
      have ct : wr.cell? ⟨bb, bo + t, none⟩ = some (.slice ra (L.getD t []).length rc) := (HBW.out.cell (cell_lt q1)).trans q1
      have hml := HM.out t
      have t0 : (0 : Int) ≤ (t : Int) := by omega
      have t1 : (t : Int) < (n : Int) := by omega
      have S1 : Hid (0 < (L.getD t []).length → cntH (t + 1) (fun r => decide (0 < (L.getD r []).length)) = cntH t (fun r => decide (0 < (L.getD r []).length)) + 1) := fun h => by rw [CS.out, if_pos (by simpa using h)]
      have S0 : Hid (¬ 0 < (L.getD t []).length → cntH (t + 1) (fun r => decide (0 < (L.getD r []).length)) = cntH t (fun r => decide (0 < (L.getD r []).length))) := fun h => by rw [CS.out, if_neg (by simpa using h)]; rfl
      obtain ⟨c1, hc1⟩ : ∃ c1, c1 = cntH (t + 1) (fun r => decide (0 < (L.getD r []).length)) := ⟨_, rfl⟩
      rw [← hc1] at S1 S0
      have HC1 := Hid.intro hc1
      generalize cntH t (fun r => decide (0 < (L.getD r []).length)) = c2 at S1 S0 cb ⊢
      obtain ⟨r, hrr⟩ : ∃ r, r = (L.getD t []).length := ⟨_, rfl⟩
      rw [← hrr] at ct hml S1 S0
      clear hrr hc1 CS q1 hlt' hrow
      by_cases r0 : 0 < r
      · have l0 : (0 : Int) < (r : Int) := by omega
        have e1 := S1.out r0
        have E1 := Hid.intro e1
        clear e1 S1 S0
        go_wp2
        go_roundw
        case rel => exact ⟨t + 1, by omega, by go_num, by rw [← HC1.out, E1.out]; go_num, HBB.out, HBW.out⟩
        case measure => simp [intOf]; omega
      · have l0 : ¬ (0 : Int) < (r : Int) := by omega
        have e1 := S0.out r0
        have E1 := Hid.intro e1
        clear e1 S1 S0
        go_wp2
        go_roundw
        case rel => exact ⟨t + 1, by omega, by go_num, by rw [← HC1.out, E1.out], HBB.out, HBW.out⟩
        case measure => simp [intOf]; omega
    · have hte : n = t := by omega
      have t1 : ¬ (t : Int) < (n : Int) := by omega
      subst hte
      have P := HC.out
      have PH := Hid.intro P
      clear P hlt ht CS
      generalize cntH n (fun r => decide (0 < (L.getD r []).length)) = c2 at PH cb ⊢
      go_wp2
      go_ret
      exact ⟨by rw [PH.out]; rfl, HBW.out⟩

/-- Where a group lies, if it is open. -/
def placeN (x : Col) (g : Int) : Nat := if placeE x g = 0 then farN x g else 0

set_option maxRecDepth 100000 in
theorem refPlace_any (g : Int) (w : World) (h : RC S w b gb go gc lb A C x) :
    Calls Try.prog 40 #[.pointer (some ⟨b, 0, none⟩), .int .i64 g] w fun e w' => e = .returned (.tuple #[.int .i64 (placeN x g : Int), .int .i64 (placeE x g)]) ∧ w = w' := by
  obtain ⟨_, _, _, c3, _⟩ := h.cells
  have FB := Hid.intro (refBehind_any x.base g w)
  have FO := Hid.intro (refOpen_any x.base g w)
  have FF := Hid.intro (refFar_any x.base g w)
  have HF := Hid.intro (fun ho : openA x.base g = true => (open_far ho).1)
  have hP : placeN x g = if placeE x g = 0 then farN x g else 0 := rfl
  have hE : placeE x g = if behindA x.base g = true then 9 else if openA x.base g = true then 0 else 8 := rfl
  rw [hE] at hP ⊢
  have HP := Hid.intro hP
  generalize placeN x g = pn at HP ⊢
  generalize farN x g = fn at HP HF
  generalize behindA x.base g = vb at FB HP ⊢
  generalize openA x.base g = vo at FO HP HF ⊢
  generalize farA x.base g = vf at FF HF
  generalize x.base = B at c3 FB FO FF HF ⊢
  clear h hP hE
  go_enter Try.func40, Try.ntmps40
  go_wp2_with fail
  refine FB.out.mono ?_
  rintro e w1 ⟨rfl, rfl⟩
  cases vb
  · go_wp2_with fail
    refine FO.out.mono ?_
    rintro e w1 ⟨rfl, rfl⟩
    cases vo
    · go_wp2
      go_ret2
      exact ⟨by rw [HP.out]; rfl, rfl⟩
    · go_wp2_with fail
      refine FF.out.mono ?_
      rintro e w1 ⟨rfl, rfl⟩
      go_wp2
      go_ret2
      exact ⟨by rw [HP.out, HF.out trivial]; rfl, rfl⟩
  · go_wp2
    go_ret2
    exact ⟨by rw [HP.out]; rfl, rfl⟩

end Go.Proofs.Ytceekoifljeddaa

/- The document's collector: Have, Skip. -/
namespace Go.Proofs.Ytceekoifljeddaa
open Go.RowKit
open Bt

variable {S : Nat → Prop} {w w' : World} {b gb go gc : Nat} {lb : Nat → Nat} {A : Nat → Nat → Option Addr} {C : Nat → Nat → Nat} {x : Col}

theorem RC.short (h : RC S w b gb go gc lb A C x) {i : Nat} (hi : i < 4) (r : Nat) : ((x.g i).getD r []).length ≤ 1000 := by
  have hb := h.ok.bounds
  by_cases hr : r < x.N
  · rcases h.ok.size i hi r hr with e | e <;> omega
  · rw [List.getD_eq_getElem?_getD, List.getElem?_eq_none (by rw [h.ok.len i hi]; omega)]; simp

/-- A group's count, out of the collector. -/
theorem RC.count (h : RC S w b gb go gc lb A C x) {i : Nat} (hi : i < 4) :
    Calls Try.prog 43 #[.agg #[.slice (some ⟨lb i, 0, none⟩) x.N x.N, .bool (x.gone i)]] w fun e w' => e = .returned (.int .i64 (cnt (x.g i) : Int)) ∧ Below w.heap.size w w' := by
  have hb := h.ok.bounds
  have := refCount_any (some ⟨lb i, 0, none⟩) x.N (x.g i) (x.gone i) (by rw [h.ok.len i hi]; omega) (h.short hi) w (h.readsL hi)
  rw [h.ok.len i hi] at this
  exact this

set_option maxRecDepth 100000 in
theorem refHave_any (g : Int) (w : World) (h : RC S w b gb go gc lb A C x) :
    Calls Try.prog 25 #[.pointer (some ⟨b, 0, none⟩), .int .i64 g] w fun e w' => e = .returned (.int .i64 (haveN x g : Int)) ∧ Below w.heap.size w w' := by
  obtain ⟨_, _, _, c3, c4⟩ := h.cells
  have FO := Hid.intro (refOpen_any x.base g w)
  have FF := Hid.intro (refFar_any x.base g w.drew)
  have hH : haveN x g = if openA x.base g = true then cnt (x.g (farN x g)) else 0 := rfl
  by_cases ho : openA x.base g = true
  · obtain ⟨e1, e2⟩ := open_far ho
    have k0 := h.grp _ e2
    have k1 := (h.gon _ e2).1
    have CT := Hid.intro ((h.below (Below.refl _ w).drew).count e2)
    have hcap := h.cap
    rw [ho] at FO
    rw [e1] at FF
    rw [hH, if_pos ho]
    generalize cnt (x.g (farN x g)) = c at CT ⊢
    generalize x.gone (farN x g) = gn at k1 CT
    generalize lb (farN x g) = bl at k0 CT
    generalize farN x g = i at e2 k0 k1 FF
    generalize x.base = B at c3 FO FF
    generalize x.N = n at k0 CT
    have i0 : (0 : Int) ≤ (i : Int) := by omega
    have i1 : (i : Int) < ((4 : Nat) : Int) := by omega
    have i2 : (i : Int) < 4 := by omega
    clear hH ho e1 h
    go_enter Try.func25, Try.ntmps25
    go_wp2_with fail
    refine FO.out.mono ?_
    rintro e w1 ⟨rfl, rfl⟩
    go_wp2_with fail
    go_region_held3 (fun w' => w'.cell? ⟨b, 3, none⟩ = some (.int .i64 (B : Int)) ∧ w'.cell? ⟨b, 4, none⟩ = some (.slice (some ⟨gb, go, none⟩) 4 gc) ∧ w'.cell? ⟨gb, go + i * 2, none⟩ = some (.slice (some ⟨bl, 0, none⟩) n n) ∧ w'.cell? ⟨gb, go + i * 2 + 1, none⟩ = some (.bool gn))
      (first | exact ⟨cellK E4 c3, cellK E4 c4, cellK E4 k0, cellK E4 k1⟩ | go_keep)
      ((first
        | (go_at_call 28; refine FF.out.mono ?_; rintro e w4 ⟨rfl, rfl⟩)
        | (go_at_call 43; refine CT.out.mono ?_; rintro e w4 ⟨rfl, B4⟩; have E4 : Below w.heap.size w w4 := undrewK B4 rfl)))
    all_goals
      have BH := Hid.intro E4
      clear B4 E4 c3 c4 k0 k1
      go_wp2
      go_ret
      exact ⟨rfl, BH.out⟩
  · have hof : openA x.base g = false := by simpa using ho
    rw [hof] at FO
    rw [hH, if_neg ho]
    generalize x.base = B at c3 FO
    clear hH ho h FF hof
    go_enter Try.func25, Try.ntmps25
    go_wp2_with fail
    refine FO.out.mono ?_
    rintro e w1 ⟨rfl, rfl⟩
    go_wp2
    go_ret
    exact ⟨rfl, Below.refl _ _⟩

/-- A group given up. -/
theorem RC.skip (h : RC S w b gb go gc lb A C x) {i : Nat} (hi : i < 4) : RC S (w.setCell ⟨gb, go + i * 2 + 1, none⟩ (.bool true)) b gb go gc lb A C (goneS x i) := by
  have hc : Chg (fun k => k = gb) w (w.setCell ⟨gb, go + i * 2 + 1, none⟩ (.bool true)) := Chg.setCell (S := fun k => k = gb) (p := ⟨gb, go + i * 2 + 1, none⟩) (Chg.refl _ w) (fun _ => rfl) _
  have bl : ∀ k, S k → k ≠ gb → (w.setCell ⟨gb, go + i * 2 + 1, none⟩ (.bool true)).heap[k]? = w.heap[k]? := fun k hk hn => hc.block k (h.lt k hk) hn
  refine ⟨(bl b h.inB.1 (Ne.symm h.apB)).trans h.head, h.cap, fun j hj => ?_, fun j hj => ⟨?_, by rw [World.frozen?_setCell]; exact (h.gon j hj).2⟩, fun j hj r hr => ⟨?_, by rw [World.frozen?_setCell]; exact (h.row j hj r hr).2⟩,
    fun j hj r hr => ⟨(h.rd j hj r hr).1.kept hc (fun ad ha => (h.apA j hj r hr ad ha).2.1), (h.rd j hj r hr).2⟩,
    h.inB, h.inL, h.inA, h.apB, h.apL, h.apA, fun k hk => Nat.lt_of_lt_of_le (h.lt k hk) hc.size, goneS_ok h.ok i⟩
  · rw [World.cell?_setCell_other _ _ _ _ (fun q => by have := congrArg Addr.off q; simp at this; omega)]
    exact h.grp j hj
  · by_cases e : j = i
    · subst e
      rw [show (goneS x j).gone j = true by simp [goneS]]
      exact World.cell?_setCell_same' _ _ _ (by rw [(h.gon j hj).1]; rfl)
    · rw [show (goneS x i).gone j = x.gone j by simp [goneS, e], World.cell?_setCell_other _ _ _ _ (fun q => e (by have := congrArg Addr.off q; simp at this; omega))]
      exact (h.gon j hj).1
  · rw [World.cell?_setCell_other _ _ _ _ (fun q => (h.apL j hj).2.1 (congrArg Addr.block q).symm)]
    exact (h.row j hj r hr).1

set_option maxRecDepth 100000 in
theorem refSkip_any (g : Int) (w : World) (h : RC S w b gb go gc lb A C x) :
    Calls Try.prog 21 #[.pointer (some ⟨b, 0, none⟩), .int .i64 g] w fun e w' => e = .returned (.int .i64 (skipE x g)) ∧ RC S w' b gb go gc lb A C (skipC x g) ∧ Chg S w w' := by
  obtain ⟨_, _, _, _, c4⟩ := h.cells
  have FI := Hid.intro (refIs_any g w)
  have FP := Hid.intro (refPlace_any g w h)
  have hE : skipE x g = if isG g = true then (if placeE x g = 0 then (if x.gone (farN x g) = true then 9 else 0) else placeE x g) else 1 := rfl
  have HS := Hid.intro (show skipC x g = if skipE x g = 0 then goneS x (farN x g) else x from rfl)
  have HH := Hid.intro h
  by_cases hg : isG g = true
  · rw [hg] at FI
    rw [if_pos hg] at hE
    by_cases hp : placeE x g = 0
    · obtain ⟨e1, e2⟩ := open_far (placeE_zero hp)
      rw [show placeN x g = farN x g by simp [placeN, hp], hp] at FP
      rw [if_pos hp] at hE
      have k0 := h.grp _ e2
      have k1 := (h.gon _ e2).1
      have k2 := (h.gon _ e2).2
      have hcap := h.cap
      have RN := Hid.intro (h.skip e2)
      have SG := Hid.intro h.inB.2
      by_cases hgn : x.gone (farN x g) = true
      · rw [if_pos hgn] at hE
        rw [hE] at HS ⊢
        rw [HS.out, if_neg (by decide)]
        rw [hgn] at k1
        generalize farN x g = i at e2 k0 k1 k2 FP
        have i0 : (0 : Int) ≤ (i : Int) := by omega
        have i1 : (i : Int) < ((4 : Nat) : Int) := by omega
        have i2 : (i : Int) < 4 := by omega
        clear RN HS e1 hp hg hgn hE h k0
        go_enter Try.func21, Try.ntmps21
        go_wp2_with fail
        refine FI.out.mono ?_
        rintro e w1 ⟨rfl, rfl⟩
        go_wp2_with fail
        refine FP.out.mono ?_
        rintro e w1 ⟨rfl, rfl⟩
        go_wp2
        go_ret
        exact ⟨rfl, HH.out, Chg.refl _ _⟩
      · have hgf : x.gone (farN x g) = false := by simpa using hgn
        rw [if_neg hgn] at hE
        rw [hE] at HS ⊢
        rw [HS.out, if_pos rfl]
        rw [hgf] at k1
        obtain ⟨X, hX⟩ : ∃ X, X = goneS x (farN x g) := ⟨_, rfl⟩
        rw [← hX] at RN ⊢
        generalize farN x g = i at e2 k0 k1 k2 FP RN
        have i0 : (0 : Int) ≤ (i : Int) := by omega
        have i1 : (i : Int) < ((4 : Nat) : Int) := by omega
        have i2 : (i : Int) < 4 := by omega
        clear HS e1 hp hg hgn hgf hE h k0 HH hX
        go_enter Try.func21, Try.ntmps21
        go_wp2_with fail
        refine FI.out.mono ?_
        rintro e w1 ⟨rfl, rfl⟩
        go_wp2_with fail
        refine FP.out.mono ?_
        rintro e w1 ⟨rfl, rfl⟩
        go_wp2
        go_ret
        exact ⟨rfl, RN.out, Chg.setCell (S := S) (p := ⟨gb, go + i * 2 + 1, none⟩) (Chg.refl _ w) (fun _ => SG.out) _⟩
    · have hne : placeE x g ≠ 0 := hp
      rw [if_neg hp] at hE
      rw [show placeN x g = 0 by simp [placeN, hp]] at FP
      rw [hE] at HS ⊢
      rw [HS.out, if_neg hp]
      generalize placeE x g = pe at FP hne ⊢
      clear HS hp hg hE h c4
      go_enter Try.func21, Try.ntmps21
      go_wp2_with fail
      refine FI.out.mono ?_
      rintro e w1 ⟨rfl, rfl⟩
      go_wp2_with fail
      refine FP.out.mono ?_
      rintro e w1 ⟨rfl, rfl⟩
      go_wp2
      go_ret
      exact ⟨rfl, HH.out, Chg.refl _ _⟩
  · have hgf : isG g = false := by simpa using hg
    rw [hgf] at FI
    rw [if_neg hg] at hE
    rw [hE] at HS ⊢
    rw [HS.out, if_neg (by decide)]
    clear HS hg hgf hE h c4 FP
    go_enter Try.func21, Try.ntmps21
    go_wp2_with fail
    refine FI.out.mono ?_
    rintro e w1 ⟨rfl, rfl⟩
    go_wp2
    go_ret
    exact ⟨rfl, HH.out, Chg.refl _ _⟩

end Go.Proofs.Ytceekoifljeddaa

/- The document's collector: Ready. -/
namespace Go.Proofs.Ytceekoifljeddaa
open Go.RowKit
open Bt

variable {S : Nat → Prop} {w w' : World} {b gb go gc : Nat} {lb : Nat → Nat} {A : Nat → Nat → Option Addr} {C : Nat → Nat → Nat} {x : Col}

/-- The bits of the first so many, from the last group on. -/
def readyP (x : Col) : Nat → Nat
  | 0 => 0
  | t + 1 => readyP x t * 2 + bitN (rdy x (3 - t))

theorem bitN_le (b : Bool) : bitN b ≤ 1 := by cases b <;> decide

theorem readyP_lt (x : Col) (t : Nat) : readyP x t < 2 ^ t := by
  induction t with
  | zero => exact Nat.zero_lt_one
  | succ t ih => have := bitN_le (rdy x (3 - t)); rw [readyP, Nat.pow_succ]; omega

theorem readyP_all (x : Col) : readyP x 4 = readyN x := by
  show (((0 * 2 + bitN (rdy x 3)) * 2 + bitN (rdy x 2)) * 2 + bitN (rdy x 1)) * 2 + bitN (rdy x 0) = _
  unfold readyN; omega

set_option maxRecDepth 100000 in
set_option maxHeartbeats 1000000 in
theorem refReady_any (w : World) (h : RC S w b gb go gc lb A C x) :
    Calls Try.prog 24 #[.pointer (some ⟨b, 0, none⟩)] w fun e w' => e = .returned (.int .i64 (readyN x : Int)) ∧ Below w.heap.size w w' := by
  have HH := Hid.intro h
  have hcap := h.cap
  have hbd := h.ok.bounds
  obtain ⟨K, hK⟩ : ∃ K, K = x.K := ⟨_, rfl⟩
  have HK := Hid.intro hK
  rw [← hK] at hbd
  have HP := Hid.intro (readyP_all x)
  generalize readyN x = rn at HP ⊢
  clear h hK
  go_enter Try.func24, Try.ntmps24
  go_wp2_with fail
  go_loopw [3, 4] (fun v i wr => ∃ (t : Nat) (j : Int), t ≤ 4 ∧ i = .int .i64 j ∧ j = 3 - (t : Int) ∧ v = .int .i64 (readyP x t : Int) ∧ Below w.heap.size w wr) (fun _ i _ => (intOf i + 1).toNat)
  case atStart => exact ⟨0, 3, by omega, rfl, by omega, rfl, Below.refl _ _⟩
  case round =>
    obtain ⟨t, j, ht, rfl, hj, rfl, hB⟩ := hrel
    have HBW := Hid.intro hB
    have hRC := HH.out.below hB
    obtain ⟨c0, _, _, _, c4⟩ := hRC.cells
    have hp := readyP_lt x t
    have hp2 : 2 ^ t ≤ 2 ^ 4 := Nat.pow_le_pow_right (by omega) ht
    have PS := Hid.intro (show readyP x (t + 1) = readyP x t * 2 + bitN (rdy x (3 - t)) from rfl)
    rw [← HK.out] at c0
    clear hB
    by_cases hlt : t < 4
    · obtain ⟨q, hq⟩ : ∃ q, q = 3 - t := ⟨_, rfl⟩
      obtain rfl : j = (q : Int) := by omega
      have hq4 : q < 4 := by omega
      rw [← hq] at PS
      have k0 := hRC.grp q hq4
      have k1 := (hRC.gon q hq4).1
      have CT := Hid.intro (hRC.count hq4)
      have CTD := Hid.intro ((hRC.below (Below.refl _ wr).drew).count hq4)
      have hr : rdy x q = (x.gone q || decide (K ≤ cnt (x.g q))) := by rw [HK.out]; rfl
      rw [hr] at PS
      have cl : cnt (x.g q) ≤ 1000 := by
        have := hRC.ok.len q hq4
        have h1 : cnt (x.g q) ≤ (x.g q).length := by unfold cnt there; exact Nat.le_trans (List.length_filter_le _ _) (by simp)
        omega
      generalize cnt (x.g q) = c at CT CTD PS cl
      generalize x.gone q = gn at k1 CT CTD PS
      generalize lb q = bl at k0 CT CTD
      generalize x.N = n at k0 CT CTD hbd
      obtain ⟨p1, hp1⟩ : ∃ p1, p1 = readyP x (t + 1) := ⟨_, rfl⟩
      rw [← hp1] at PS
      have HP1 := Hid.intro hp1
      generalize readyP x t = p at PS hp ⊢
      have i0 : (0 : Int) ≤ (q : Int) := by omega
      have i1 : (q : Int) < ((4 : Nat) : Int) := by omega
      have i2 : (q : Int) < 4 := by omega
      have HQ := Hid.intro (show t + q = 3 by omega)
      clear hr hp1 hRC hq hj
      cases gn
      · have PC := Hid.intro (show p1 = p * 2 + (if K ≤ c then 1 else 0) by rw [PS.out]; simp [bitN])
        clear PS CT
        go_wp2_with fail
        go_region_held3 (fun w' => w'.cell? ⟨b, 0, none⟩ = some (.int .i64 (K : Int)) ∧ w'.cell? ⟨b, 4, none⟩ = some (.slice (some ⟨gb, go, none⟩) 4 gc) ∧ w'.cell? ⟨gb, go + q * 2, none⟩ = some (.slice (some ⟨bl, 0, none⟩) n n) ∧ w'.cell? ⟨gb, go + q * 2 + 1, none⟩ = some (.bool false))
          (first | exact ⟨cellK E4 c0, cellK E4 c4, cellK E4 k0, cellK E4 k1⟩ | go_keep)
          ((go_at_call 43; refine CTD.out.mono ?_; rintro e w4 ⟨rfl, B4⟩; have E4 : Below wr.heap.size wr w4 := undrewK B4 rfl))
        all_goals
          have BH := Hid.intro (HBW.out.trans (E4.mono HBW.out.size))
          clear B4 E4 c0 c4 k0 k1 CTD
          by_cases hk : K ≤ c
          · have E1 : Hid (p1 = p * 2 + 1) := by rw [PC.out, if_pos hk]; rfl
            have g1 : (K : Int) ≤ (c : Int) := by omega
            clear PC
            go_wp2
            go_roundw
            case rel => exact ⟨t + 1, _, by omega, rfl, by have := HQ.out; go_num <;> omega, by rw [← HP1.out, E1.out]; go_num, BH.out⟩
            case measure => have := HQ.out; simp [intOf] <;> omega
          · have E1 : Hid (p1 = p * 2) := by rw [PC.out, if_neg hk]; rfl
            have g1 : ¬ (K : Int) ≤ (c : Int) := by omega
            clear PC
            go_wp2
            go_roundw
            case rel => exact ⟨t + 1, _, by omega, rfl, by have := HQ.out; go_num <;> omega, by rw [← HP1.out, E1.out]; go_num, BH.out⟩
            case measure => have := HQ.out; simp [intOf] <;> omega
      · have E1 : Hid (p1 = p * 2 + 1) := by rw [PS.out]; rfl
        clear PS CT CTD
        go_wp2_with fail
        go_quiet (fail)
        go_wp2
        go_roundw
        case rel => exact ⟨t + 1, _, by omega, rfl, by have := HQ.out; go_num <;> omega, by rw [← HP1.out, E1.out]; go_num, belowN HBW.out _⟩
        case measure => have := HQ.out; simp [intOf] <;> omega
    · obtain rfl : t = 4 := by omega
      obtain rfl : j = -1 := by omega
      have P := HP.out
      rw [P] at hp ⊢
      clear P PS
      go_wp2
      go_ret
      exact ⟨rfl, HBW.out⟩

end Go.Proofs.Ytceekoifljeddaa

/- The document's collector: Shard. -/
namespace Go.Proofs.Ytceekoifljeddaa
open Go.RowKit
open Bt

variable {S : Nat → Prop} {w w' : World} {b gb go gc : Nat} {lb : Nat → Nat} {A : Nat → Nat → Option Addr} {C : Nat → Nat → Nat} {x : Col}

theorem placeE_open {x : Col} {g : Int} (h : openA x.base g = true) : placeE x g = 0 := by
  unfold placeE
  rw [h]
  have hb : behindA x.base g = false := by
    simp [openA] at h
    simp [behindA]; omega
  rw [hb]; rfl

theorem putS_row {x : Col} (h : x.Ok) {i r : Nat} (hi : i < 4) (hr : r < x.N) (bs : List Nat) (j s : Nat) : ((putS x i r bs).g j).getD s [] = if j = i ∧ s = r then bs else (x.g j).getD s [] := by
  show (if j = i then (x.g i).set r bs else x.g j).getD s [] = _
  by_cases e : j = i
  · subst e
    rw [if_pos rfl, getD_set_row _ _ _ _ (by rw [h.len j hi]; exact hr)]
    by_cases e2 : s = r
    · rw [if_pos e2, if_pos ⟨rfl, e2⟩]
    · rw [if_neg e2, if_neg (fun q => e2 q.2)]
  · rw [if_neg e, if_neg (fun q => e q.1)]

/-- A shard laid in. -/
theorem RC.put (h0 : RC S w b gb go gc lb A C x) {i r : Nat} (hi : i < 4) (hr : r < x.N) {bs : List Nat} (hl : bs.length = x.S) (hY : Byt bs) {w7 : World} (hc : Chg (fun _ => False) w w7)
    {g7 cp7 : Nat} (hg : w.heap.size ≤ g7) (hg2 : g7 < w7.heap.size) (hrd : Reads w7 (some ⟨g7, 0, none⟩) bs) :
    RC (fun k => S k ∨ k = g7) (w7.setCell ⟨lb i, r, none⟩ (.slice (some ⟨g7, 0, none⟩) bs.length cp7)) b gb go gc lb (fun j s => if j = i ∧ s = r then some ⟨g7, 0, none⟩ else A j s) (fun j s => if j = i ∧ s = r then cp7 else C j s) (putS x i r bs) := by
  have h := h0.kept hc (fun _ _ => id)
  have hS : Chg (fun k => k = lb i) w7 (w7.setCell ⟨lb i, r, none⟩ (.slice (some ⟨g7, 0, none⟩) bs.length cp7)) := Chg.setCell (S := fun k => k = lb i) (p := ⟨lb i, r, none⟩) (Chg.refl _ w7) (fun _ => rfl) _
  have far : ∀ k, S k → k ≠ g7 := fun k hk e => by have := h0.lt k hk; omega
  refine ⟨(hS.block b (h.lt b h.inB.1) (Ne.symm (h.apL i hi).1)).trans h.head, h.cap, fun j hj => ?_, fun j hj => ⟨?_, by rw [World.frozen?_setCell]; exact (h.gon j hj).2⟩, fun j hj s hs => ⟨?_, by rw [World.frozen?_setCell]; exact (h.row j hj s hs).2⟩,
    fun j hj s hs => ?_, ⟨.inl h.inB.1, .inl h.inB.2⟩, fun j hj => .inl (h.inL j hj), fun j hj s hs ad ha => ?_, h.apB, h.apL, fun j hj s hs ad ha => ?_, fun k hk => ?_, putS_ok h.ok hi hr hl hY⟩
  · rw [World.cell?_setCell_other _ _ _ _ (fun q => (h.apL i hi).2.1 (congrArg Addr.block q))]
    exact h.grp j hj
  · rw [World.cell?_setCell_other _ _ _ _ (fun q => (h.apL i hi).2.1 (congrArg Addr.block q))]
    exact (h.gon j hj).1
  · rw [putS_row h.ok hi hr bs j s]
    by_cases e : j = i ∧ s = r
    · obtain ⟨rfl, rfl⟩ := e
      simp only [and_self, if_true]
      exact World.cell?_setCell_same' _ _ _ (by rw [(h.row j hj s hs).1]; rfl)
    · simp only [if_neg e]
      rw [World.cell?_setCell_other _ _ _ _ (fun q => e (by
        have e1 := congrArg Addr.block q
        have e2 := congrArg Addr.off q
        simp at e1 e2
        refine ⟨?_, e2.symm⟩
        by_cases e3 : j = i
        · exact e3
        · exact absurd e1.symm ((h.apL j hj).2.2 i hi e3)))]
      exact (h.row j hj s hs).1
  · rw [putS_row h.ok hi hr bs j s]
    by_cases e : j = i ∧ s = r
    · simp only [if_pos e]
      exact ⟨hrd.kept hS (fun ad ha => by cases ha; exact fun q => far _ (h.inL i hi) q.symm), fun q => by cases q⟩
    · simp only [if_neg e]
      exact ⟨(h.rd j hj s hs).1.kept hS (fun ad ha => (h.apA j hj s hs ad ha).2.2 i hi), (h.rd j hj s hs).2⟩
  · by_cases e : j = i ∧ s = r
    · simp only [if_pos e] at ha
      cases ha
      exact .inr rfl
    · simp only [if_neg e] at ha
      exact .inl (h.inA j hj s hs ad ha)
  · by_cases e : j = i ∧ s = r
    · simp only [if_pos e] at ha
      cases ha
      exact ⟨fun q => far _ h.inB.1 q.symm, fun q => far _ h.inB.2 q.symm, fun k hk q => far _ (h.inL k hk) q.symm⟩
    · simp only [if_neg e] at ha
      exact h.apA j hj s hs ad ha
  · have : (w7.setCell ⟨lb i, r, none⟩ (.slice (some ⟨g7, 0, none⟩) bs.length cp7)).heap.size = w7.heap.size := by simp
    rcases hk with hk | hk
    · have := h.lt k hk; omega
    · omega

set_option maxRecDepth 100000 in
set_option maxHeartbeats 1000000 in
/-- Shard, where it is well. -/
theorem refShard_put (g p : Int) (ao : Option Addr) (cap : Nat) (bs : List Nat) (hY : Byt bs) (w : World) (hr : Reads w ao bs) (hc : ao = none → cap = 0) (h : RC S w b gb go gc lb A C x) (h0 : shardE x g p bs.length = 0) :
    Calls Try.prog 20 #[.pointer (some ⟨b, 0, none⟩), .int .i64 g, .int .i64 p, .slice ao bs.length cap] w fun e w' => e = .returned (.int .i64 0) ∧ (∃ T A' C', RC T w' b gb go gc lb A' C' (putS x (farN x g) p.toNat bs) ∧ ∀ k, T k → S k ∨ w.heap.size ≤ k) ∧ Chg S w w' := by
  obtain ⟨q1, q2, q3, q4, q5, q6⟩ := shardE_zero h0
  obtain ⟨_, c1, c2, _, c4⟩ := h.cells
  obtain ⟨e1, e2⟩ := open_far q5
  have hcap := h.cap
  have hbd := h.ok.bounds
  have FI := Hid.intro (refIs_any g w)
  rw [q1] at FI
  have hpe : placeE x g = 0 := placeE_open q5
  have FP := Hid.intro (refPlace_any g w h)
  rw [show placeN x g = farN x g by simp [placeN, hpe], hpe] at FP
  have k0 := h.grp _ e2
  obtain ⟨r, hrr⟩ : ∃ r, r = p.toNat := ⟨_, rfl⟩
  obtain rfl : p = (r : Int) := by omega
  have hrN : r < x.N := by omega
  have k2 := (h.row _ e2 r hrN).1
  have k3 := (h.row _ e2 r hrN).2
  have hz : ((x.g (farN x g)).getD r []).length = 0 := by simpa using q6
  rw [hz] at k2
  have HH := Hid.intro h
  rw [← hrr]
  rw [← q4] at c2
  obtain ⟨n, hn⟩ : ∃ n, n = x.N := ⟨_, rfl⟩
  rw [← hn] at c1 hrN k0 q3 hbd
  obtain ⟨i, hi⟩ : ∃ i, i = farN x g := ⟨_, rfl⟩
  rw [← hi] at e2 FP k0 k2 k3 ⊢
  have hbl : 1 ≤ bs.length ∧ bs.length ≤ 24 := by omega
  obtain ⟨ad, rfl, had⟩ := hr (by omega)
  have ER := Hid.intro (show (w.drew.alloc (.cells #[] 5)).ownsRow 0 5 1 (.slice (some ⟨w.heap.size, 0, none⟩) 0 0) 0 [] from empty_row w.drew)
  have NW := Hid.intro (show ∀ j u, (bs.map U)[j]? = some u → (w.drew.alloc (.cells #[] 5)).cell? (ad.add j) = some u from fun j u hu => cellK ((Below.refl _ w).drew.alloc (Nat.le_refl _) _) (had j u hu))
  have FIN := Hid.intro (show ∀ (g7 cp7 : Nat) (w7 : World), w7.ownsRow 0 5 1 (.slice (some ⟨g7, 0, none⟩) (0 + bs.length) cp7) (0 + bs.length) ([] ++ bs.map U) → (w.drew.alloc (.cells #[] 5)).grownBy w7 (some w.heap.size) → (some w.heap.size = some g7 ∨ g7 = w.heap.size + 1) → g7 < w7.heap.size →
      (w7.cell? ⟨b, 4, none⟩ = some (.slice (some ⟨gb, go, none⟩) 4 gc) ∧ w7.cell? ⟨gb, go + i * 2, none⟩ = some (.slice (some ⟨lb i, 0, none⟩) n n) ∧ w7.cell? ⟨lb i, r, none⟩ = some (.slice (A i r) 0 (C i r)) ∧ w7.frozen? ⟨lb i, r, none⟩ = false) ∧
      ((∃ T A' C', RC T (w7.setCell ⟨lb i, r, none⟩ (.slice (some ⟨g7, 0, none⟩) bs.length cp7)) b gb go gc lb A' C' (putS x i r bs) ∧ ∀ k, T k → S k ∨ w.heap.size ≤ k) ∧ Chg S w (w7.setCell ⟨lb i, r, none⟩ (.slice (some ⟨g7, 0, none⟩) bs.length cp7))) from fun g7 cp7 w7 hown hgrow hat hgl => by
    have hc7 : Chg (fun _ => False) w w7 := ((Chg.refl _ w).drew.alloc _).grown hgrow (fun k e hk => by cases e; omega)
    have hg7 : w.heap.size ≤ g7 := by
      rcases hat with e | e
      · cases e; exact Nat.le_refl _
      · omega
    have hrd : Reads w7 (some ⟨g7, 0, none⟩) bs := by
      rw [Nat.zero_add, List.nil_append] at hown
      obtain ⟨a, c, e, q, _⟩ := row_of_owns hown
      cases e
      exact q
    have h7 := h.kept hc7 (fun _ _ => id)
    have hrN' : r < x.N := by rw [← hn]; exact hrN
    refine ⟨⟨h7.cells.2.2.2.2, by rw [hn]; exact h7.grp i e2, by have := (h7.row i e2 r hrN').1; rw [hi, hz, ← hi] at this; exact this, (h7.row i e2 r hrN').2⟩, ⟨_, _, _, h.put e2 hrN' q4 hY hc7 hg7 hgl hrd, fun k hk => hk.elim .inl (fun q => .inr (by omega))⟩, ?_⟩
    exact (hc7.mono (fun _ q _ => q.elim)).setCell (p := ⟨lb i, r, none⟩) (fun _ => h.inL i e2) _)
  generalize lb i = bl at k0 k2 k3 FIN
  generalize A i r = ar at k2 FIN
  generalize C i r = cr at k2 FIN
  have HN := Hid.intro hn
  have HI := Hid.intro hi
  have i0 : (0 : Int) ≤ (i : Int) := by omega
  have i1 : (i : Int) < ((4 : Nat) : Int) := by omega
  have i2 : (i : Int) < 4 := by omega
  have r0 : (0 : Int) ≤ (r : Int) := by omega
  have r1 : (r : Int) < (n : Int) := by omega
  obtain ⟨i8, hi8, hz80, hz81, hz82⟩ := info_parts info_u8
  clear hn hi hrr hr hc hY h0 h q1 q2 q3 q4 q5 q6 e1 hpe hz had
  go_enter Try.func20, Try.ntmps20
  go_wp2_with fail
  refine FI.out.mono ?_
  rintro e w1 ⟨rfl, rfl⟩
  go_wp2_with fail
  refine FP.out.mono ?_
  rintro e w1 ⟨rfl, rfl⟩
  clear FI FP
  go_wp2_with fail
  have m4 : (w.alloc (.cells #[] 5)).cell? ⟨b, 4, none⟩ = _ := cellK ((Below.refl _ w).alloc (Nat.le_refl _) _) c4
  have m0 : (w.alloc (.cells #[] 5)).cell? ⟨gb, go + i * 2, none⟩ = _ := cellK ((Below.refl _ w).alloc (Nat.le_refl _) _) k0
  have m2 : (w.alloc (.cells #[] 5)).cell? ⟨bl, r, none⟩ = _ := cellK ((Below.refl _ w).alloc (Nat.le_refl _) _) k2
  go_region_law
    ((refine step_append_lies _ (by rfl) _ _ _ (by rfl) 0 5 i8 (.int .u8 0) 1 1 Try.underlying39 hi8 hz80 hz81 hz82 (by rfl) (by decide) (.slice (some ⟨w.heap.size, 0, none⟩) 0 0) 0 [] (by rfl) ER.out ad bs.length cap (bs.map U) (by rfl) (by simp) NW.out (bytes_one bs) (by omega) (by unfold maxLen; omega) (by omega) (Nat.zero_le _) (w.heap.size + 1) (by simp) ?_; intro g7 cp7 w7 hown hgrow hat hgl; have FN := FIN.out g7 cp7 w7 hown hgrow hat hgl; have k4 := FN.1.1; have k5 := FN.1.2.1; have k6 := FN.1.2.2.1; have k7 := FN.1.2.2.2; have F2 := Hid.intro FN.2; clear FN hown hgrow hat))
  all_goals
    go_wp2
    go_ret
    exact ⟨rfl, F2.out⟩

end Go.Proofs.Ytceekoifljeddaa

/- The document's collector: Shard. -/
namespace Go.Proofs.Ytceekoifljeddaa
open Go.RowKit
open Bt

variable {S : Nat → Prop} {w w' : World} {b gb go gc : Nat} {lb : Nat → Nat} {A : Nat → Nat → Option Addr} {C : Nat → Nat → Nat} {x : Col}

set_option maxRecDepth 100000 in
set_option maxHeartbeats 1000000 in
/-- Shard, where it is not well. -/
theorem refShard_no (g p : Int) (hp : -9223372036854775808 ≤ p ∧ p ≤ 9223372036854775807) (ao : Option Addr) (cap : Nat) (bs : List Nat) (w : World) (h : RC S w b gb go gc lb A C x) (h0 : shardE x g p bs.length ≠ 0) :
    Calls Try.prog 20 #[.pointer (some ⟨b, 0, none⟩), .int .i64 g, .int .i64 p, .slice ao bs.length cap] w fun e w' => e = .returned (.int .i64 (shardE x g p bs.length)) ∧ w = w' := by
  obtain ⟨_, c1, c2, _, c4⟩ := h.cells
  have hcap := h.cap
  have hbd := h.ok.bounds
  have FI := Hid.intro (refIs_any g w)
  have FP := Hid.intro (refPlace_any g w h)
  have hE : shardE x g p bs.length = if isG g = true ∧ 0 ≤ p ∧ p < x.N then (if bs.length = x.S then (if placeE x g = 0 then (if 0 < ((x.g (farN x g)).getD p.toNat []).length then 9 else 0) else placeE x g) else 4) else 1 := rfl
  rw [hE] at h0 ⊢
  clear hE
  generalize hm : bs.length = m at h0 ⊢
  clear hm
  by_cases hg : isG g = true
  · rw [hg] at FI
    by_cases p0 : 0 ≤ p
    · have p0' : ¬ p < 0 := by omega
      by_cases p1 : p < x.N
      · have p1' : ¬ (x.N : Int) ≤ p := by omega
        rw [if_pos ⟨hg, p0, p1⟩] at h0 ⊢
        by_cases hm : m = x.S
        · rw [if_pos hm] at h0 ⊢
          subst hm
          by_cases hpe : placeE x g = 0
          · have ho := placeE_zero hpe
            obtain ⟨e1, e2⟩ := open_far ho
            rw [if_pos hpe] at h0 ⊢
            have hz : 0 < ((x.g (farN x g)).getD p.toNat []).length := by
              by_cases q : 0 < ((x.g (farN x g)).getD p.toNat []).length
              · exact q
              · rw [if_neg q] at h0; exact absurd rfl h0
            rw [if_pos hz]
            rw [show placeN x g = farN x g by simp [placeN, hpe], hpe] at FP
            have k0 := h.grp _ e2
            obtain ⟨r, hrr⟩ : ∃ r, r = p.toNat := ⟨_, rfl⟩
            obtain rfl : p = (r : Int) := by omega
            have hrN : r < x.N := by omega
            have k2 := (h.row _ e2 r hrN).1
            have hs := h.short e2 r
            rw [← hrr] at hz
            generalize ((x.g (farN x g)).getD r []).length = y at hz k2 hs
            have hz' : (0 : Int) < (y : Int) := by omega
            generalize lb (farN x g) = bl at k0 k2
            generalize A (farN x g) r = ar at k2
            generalize C (farN x g) r = cr at k2
            generalize farN x g = i at e2 FP k0
            generalize x.N = n at c1 k0 hrN p1' hbd p1
            generalize x.S = s at c2 hbd
            have i0 : (0 : Int) ≤ (i : Int) := by omega
            have i1 : (i : Int) < ((4 : Nat) : Int) := by omega
            have i2 : (i : Int) < 4 := by omega
            clear hrr h h0 hg ho e1 hpe
            go_enter Try.func20, Try.ntmps20
            go_wp2_with fail
            refine FI.out.mono ?_
            rintro e w1 ⟨rfl, rfl⟩
            go_wp2_with fail
            refine FP.out.mono ?_
            rintro e w1 ⟨rfl, rfl⟩
            go_wp2
            go_ret
            exact ⟨rfl, rfl⟩
          · rw [if_neg hpe]
            rw [show placeN x g = 0 by simp [placeN, hpe]] at FP
            generalize placeE x g = pe at FP hpe ⊢
            generalize x.N = n at c1 p1' hbd p1
            generalize x.S = s at c2 hbd
            clear h h0 hg c4
            go_enter Try.func20, Try.ntmps20
            go_wp2_with fail
            refine FI.out.mono ?_
            rintro e w1 ⟨rfl, rfl⟩
            go_wp2_with fail
            refine FP.out.mono ?_
            rintro e w1 ⟨rfl, rfl⟩
            go_wp2
            go_ret
            exact ⟨rfl, rfl⟩
        · rw [if_neg hm]
          generalize x.N = n at c1 p1' hbd p1
          generalize x.S = s at c2 hbd hm
          have hm' : ¬ (m : Int) = (s : Int) := by omega
          clear h h0 hg c4 FP
          go_enter Try.func20, Try.ntmps20
          go_wp2_with fail
          refine FI.out.mono ?_
          rintro e w1 ⟨rfl, rfl⟩
          go_wp2
          go_ret
          exact ⟨rfl, rfl⟩
      · have p1' : (x.N : Int) ≤ p := by omega
        rw [if_neg (fun q => p1 q.2.2)]
        generalize x.N = n at c1 p1' hbd p1
        clear h h0 hg c4 c2 FP
        go_enter Try.func20, Try.ntmps20
        go_wp2_with fail
        refine FI.out.mono ?_
        rintro e w1 ⟨rfl, rfl⟩
        go_wp2
        go_ret
        exact ⟨rfl, rfl⟩
    · have p0' : p < 0 := by omega
      rw [if_neg (fun q => p0 q.2.1)]
      clear h h0 hg c4 c2 c1 FP
      go_enter Try.func20, Try.ntmps20
      go_wp2_with fail
      refine FI.out.mono ?_
      rintro e w1 ⟨rfl, rfl⟩
      go_wp2
      go_ret
      exact ⟨rfl, rfl⟩
  · have hgf : isG g = false := by simpa using hg
    rw [hgf] at FI
    rw [if_neg (fun q => hg q.1)]
    clear h h0 hg hgf c4 c2 c1 FP
    go_enter Try.func20, Try.ntmps20
    go_wp2_with fail
    refine FI.out.mono ?_
    rintro e w1 ⟨rfl, rfl⟩
    go_wp2
    go_ret
    exact ⟨rfl, rfl⟩

/-- What a call leaves of the document's collector. -/
def RefLeft (S : Nat → Prop) (w w' : World) (b : Nat) (x : Col) : Prop := ∃ T, RefC T w' b x ∧ Chg S w w' ∧ ∀ k, T k → S k ∨ w.heap.size ≤ k

theorem refShard_any (g p : Int) (hp : -9223372036854775808 ≤ p ∧ p ≤ 9223372036854775807) (ao : Option Addr) (cap : Nat) (bs : List Nat) (hY : Byt bs) (w : World) (hr : Reads w ao bs) (hc : ao = none → cap = 0) (h : RefC S w b x) :
    Calls Try.prog 20 #[.pointer (some ⟨b, 0, none⟩), .int .i64 g, .int .i64 p, .slice ao bs.length cap] w fun e w' => e = .returned (.int .i64 (shardE x g p bs.length)) ∧ RefLeft S w w' b (shardC x g p bs) := by
  obtain ⟨gb, go, gc, lb, A, C, h⟩ := h
  have hC : shardC x g p bs = if shardE x g p bs.length = 0 then putS x (farN x g) p.toNat bs else x := rfl
  by_cases h0 : shardE x g p bs.length = 0
  · rw [hC, if_pos h0, h0]
    refine (refShard_put g p ao cap bs hY w hr hc h h0).mono ?_
    rintro e w' ⟨rfl, ⟨T, A', C', q1, q2⟩, q3⟩
    exact ⟨rfl, T, ⟨_, _, _, _, _, _, q1⟩, q3, q2⟩
  · rw [hC, if_neg h0]
    refine (refShard_no g p hp ao cap bs w h h0).mono ?_
    rintro e w' ⟨rfl, rfl⟩
    exact ⟨rfl, S, ⟨_, _, _, _, _, _, h⟩, Chg.refl _ _, fun _ => .inl⟩

theorem refSkip_left (g : Int) (w : World) (h : RefC S w b x) :
    Calls Try.prog 21 #[.pointer (some ⟨b, 0, none⟩), .int .i64 g] w fun e w' => e = .returned (.int .i64 (skipE x g)) ∧ RefLeft S w w' b (skipC x g) := by
  obtain ⟨gb, go, gc, lb, A, C, h⟩ := h
  refine (refSkip_any g w h).mono ?_
  rintro e w' ⟨rfl, q1, q2⟩
  exact ⟨rfl, S, ⟨_, _, _, _, _, _, q1⟩, q2, fun _ => .inl⟩

end Go.Proofs.Ytceekoifljeddaa

/- The document's collector: New. -/
namespace Go.Proofs.Ytceekoifljeddaa
open Go.RowKit
open Bt

def gcell (lb : Nat → Nat) (N : Nat) (gn : Nat → Bool) (i : Nat) : List Value := [.slice (some ⟨lb i, 0, none⟩) N N, .bool (gn i)]

def gcells (lb : Nat → Nat) (N : Nat) (gn : Nat → Bool) : Nat → List Value
  | 0 => []
  | t + 1 => gcells lb N gn t ++ gcell lb N gn t

theorem info_rowF : (Try.prog.info? 39).map (fun i => (i.zero, i.size, i.bytes)) = some (some (.slice none 0 0), 1, 24) := by kernel_rfl

theorem block_lt {w : World} {k : Nat} {o : Obj} (h : w.heap[k]? = some o) : k < w.heap.size := (Array.getElem?_eq_some_iff.1 h).1

theorem heap_alloc_other (w : World) (o : Obj) (k : Nat) (h : k < w.heap.size) : (w.alloc o).heap[k]? = w.heap[k]? := ((Below.refl w.heap.size w).alloc (Nat.le_refl _) o).block k h

theorem info_grp : (Try.prog.info? 74).map (fun i => (i.zero, i.size, i.bytes)) = some (some (.agg #[.slice none 0 0, .bool false]), 2, 32) := by kernel_rfl

/-- What New has made so far. -/
structure NewAt (H : Nat) (wr : World) (K N S g b : Nat) (v : Value) (lb : Nat → Nat) (t : Nat) : Prop where
  head : wr.heap[b]? = some (.cells #[.int .i64 (K : Int), .int .i64 (N : Int), .int .i64 (S : Int), .int .i64 (g : Int), v] 46 (0, 0))
  own : wr.ownsRow 0 74 2 v t (gcells lb N (fun _ => false) t)
  ap : ∀ k, v.ownBlock = some k → H ≤ k ∧ k ≠ b ∧ ∀ i, i < t → k ≠ lb i
  row : ∀ i, i < t → wr.heap[lb i]? = some (.cells (madeCells #[.slice none 0 0] N) 39 (0, 0)) ∧ H ≤ lb i ∧ lb i ≠ b ∧ ∀ j, j < t → i ≠ j → lb i ≠ lb j

theorem gcells_length (lb : Nat → Nat) (N : Nat) (gn : Nat → Bool) (t : Nat) : (gcells lb N gn t).length = t * 2 := by
  induction t with
  | zero => rfl
  | succ t ih => rw [gcells, List.length_append, ih]; simp [gcell]; omega

theorem gcells_congr {lb lb' : Nat → Nat} {N : Nat} {gn gn' : Nat → Bool} {t : Nat} (h : ∀ i, i < t → lb i = lb' i ∧ gn i = gn' i) : gcells lb N gn t = gcells lb' N gn' t := by
  induction t with
  | zero => rfl
  | succ t ih => rw [gcells, gcells, ih (fun i hi => h i (by omega)), gcell, gcell, (h t (by omega)).1, (h t (by omega)).2]

theorem gcells_at {lb : Nat → Nat} {N : Nat} {gn : Nat → Bool} {t i : Nat} (h : i < t) : (gcells lb N gn t)[i * 2]? = some (.slice (some ⟨lb i, 0, none⟩) N N) ∧ (gcells lb N gn t)[i * 2 + 1]? = some (.bool (gn i)) := by
  induction t with
  | zero => omega
  | succ t ih =>
    rw [gcells]
    have hl := gcells_length lb N gn t
    by_cases e : i < t
    · rw [List.getElem?_append_left (by omega), List.getElem?_append_left (by omega)]
      exact ih e
    · obtain rfl : i = t := by omega
      rw [List.getElem?_append_right (by omega), List.getElem?_append_right (by omega), hl]
      simp [gcell, Nat.add_sub_cancel_left]

/-- One group more. -/
theorem NewAt.more {H : Nat} {wr : World} {K N S g b t : Nat} {v : Value} {lb : Nat → Nat} (h : NewAt H wr K N S g b v lb t) (hH : H ≤ wr.heap.size) {W w7 : World} {g7 cp7 : Nat}
    (hW : Below wr.heap.size wr W) (hWs : W.heap.size = wr.heap.size + 2) (hWl : W.heap[wr.heap.size]? = some (.cells (madeCells #[.slice none 0 0] N) 39 (0, 0)))
    (hown : w7.ownsRow 0 74 2 (.slice (some ⟨g7, 0, none⟩) (t + 1) cp7) (t + 1) (gcells lb N (fun _ => false) t ++ [.slice (some ⟨wr.heap.size, 0, none⟩) N N, .bool false]))
    (hgrow : W.grownBy w7 v.ownBlock) (hat : v.ownBlock = some g7 ∨ g7 = wr.heap.size + 2) (hb : b < wr.heap.size) (hlb : ∀ i, i < t → lb i < wr.heap.size) :
    NewAt H (w7.setCell ⟨b, 4, none⟩ (.slice (some ⟨g7, 0, none⟩) (t + 1) cp7)) K N S g b (.slice (some ⟨g7, 0, none⟩) (t + 1) cp7) (fun j => if j = t then wr.heap.size else lb j) (t + 1) := by
  have old : ∀ k, k < wr.heap.size → v.ownBlock ≠ some k → w7.heap[k]? = wr.heap[k]? := fun k hk hn => (hgrow.block k (by omega) (fun q => hn q.symm)).trans (hW.block k hk)
  have hb7 := (old b hb (fun q => (h.ap b q).2.1 rfl)).trans h.head
  have hg7 : H ≤ g7 ∧ g7 ≠ b ∧ (∀ i, i < t → g7 ≠ lb i) ∧ g7 ≠ wr.heap.size := by
    rcases hat with q | q
    · obtain ⟨q1, q2, q3⟩ := h.ap g7 q
      have := (World.ownsRow.lt h.own g7 q).2
      exact ⟨q1, q2, q3, by omega⟩
    · exact ⟨by omega, by omega, fun i hi => by have := hlb i hi; omega, by omega⟩
  have hnew : w7.heap[wr.heap.size]? = some (.cells (madeCells #[.slice none 0 0] N) 39 (0, 0)) := (hgrow.block _ (by omega) (fun q => by have := (World.ownsRow.lt h.own _ q.symm).2; omega)).trans hWl
  have hgc : gcells (fun j => if j = t then wr.heap.size else lb j) N (fun _ => false) (t + 1) = gcells lb N (fun _ => false) t ++ [.slice (some ⟨wr.heap.size, 0, none⟩) N N, .bool false] := by
    rw [gcells, gcells_congr (lb' := lb) (gn' := fun _ => false) (fun i hi => ⟨if_neg (by omega), rfl⟩)]
    simp [gcell]
  refine ⟨?_, ?_, fun k hk => ?_, fun i hi => ?_⟩
  · rw [heap_setCell_same _ b 4 _ _ _ hb7]; rfl
  · rw [hgc]
    exact ownsRow_keep hown fun k hk => by
      have : g7 = k := by simpa [Value.ownBlock] using hk
      rw [heap_setCell_other _ _ _ _ (by simp; omega)]
  · obtain rfl : g7 = k := by simpa [Value.ownBlock] using hk
    refine ⟨hg7.1, hg7.2.1, fun i hi => ?_⟩
    by_cases e : i = t
    · simp only [if_pos e]; exact hg7.2.2.2
    · simp only [if_neg e]; exact hg7.2.2.1 i (by omega)
  · by_cases e : i = t
    · simp only [if_pos e]
      refine ⟨by rw [heap_setCell_other _ _ _ _ (by simp; omega)]; exact hnew, hH, by omega, fun j hj hn => ?_⟩
      rw [if_neg (by omega)]
      have := hlb j (by omega); omega
    · simp only [if_neg e]
      obtain ⟨q1, q2, q3, q4⟩ := h.row i (by omega)
      refine ⟨?_, q2, q3, fun j hj hn => ?_⟩
      · rw [heap_setCell_other _ _ _ _ (by simpa using q3), old (lb i) (hlb i (by omega)) (fun q => (h.ap _ q).2.2 i (by omega) rfl)]
        exact q1
      · by_cases e2 : j = t
        · simp only [if_pos e2]; have := hlb i (by omega); omega
        · simp only [if_neg e2]; exact q4 j (by omega) hn

/-- All four: a collector. -/
theorem NewAt.rc {H : Nat} {wr : World} {K N S g b : Nat} {v : Value} {lb : Nat → Nat} (h : NewAt H wr K N S g b v lb 4) (hok : mayC K N S = true) (hg : g < 256) : ∃ T, RefC T wr b (col0 K N S g) ∧ ∀ k, T k → k = b ∨ H ≤ k := by
  obtain ⟨gb, gc, rfl, _, hgl⟩ := h.own.form (by omega)
  have hcap : 4 ≤ gc := by
    rcases h.own.2 with ⟨e, _⟩ | ⟨_, _, _, e, _, _, q, _⟩
    · cases e
    · cases e; exact q
  obtain ⟨q1, q2, q3⟩ := h.ap gb rfl
  have hrow : ∀ i, i < 4 → ∀ r, r < N → wr.cell? ⟨lb i, r, none⟩ = some (.slice none 0 0) ∧ wr.frozen? ⟨lb i, r, none⟩ = false := fun i hi r hr => by
    have hh := (h.row i hi).1
    refine ⟨?_, frozen_of_row wr _ r _ _ hh⟩
    rw [cell_of_row wr _ r _ _ _ hh, ← Array.getElem?_toList, toList_madeCells_one, List.getElem?_replicate, if_pos hr]
  refine ⟨fun k => k = b ∨ k = gb ∨ ∃ i, i < 4 ∧ k = lb i, ⟨gb, 0, gc, lb, fun _ _ => none, fun _ _ => 0, h.head, hcap, fun i hi => ?_, fun i hi => ⟨?_, h.own.frozenAt _⟩, fun i hi r hr => ?_, fun i hi r hr => ?_, ⟨.inl rfl, .inr (.inl rfl)⟩, fun i hi => .inr (.inr ⟨i, hi, rfl⟩), fun _ _ _ _ _ e => (by cases e), q2, fun i hi => ⟨(h.row i hi).2.2.1, Ne.symm (q3 i hi), (h.row i hi).2.2.2⟩, fun _ _ _ _ _ e => (by cases e), fun k hk => ?_, col0_ok hok hg⟩, fun k hk => ?_⟩
  · rw [Nat.zero_add, h.own.cellAt (i * 2) (by omega)]; exact (gcells_at hi).1
  · rw [Nat.zero_add, h.own.cellAt (i * 2 + 1) (by omega)]; exact (gcells_at hi).2
  · rw [show ((col0 K N S g).g i).getD r [] = [] from getD_replicate_nil N r]
    exact hrow i hi r hr
  · rw [show ((col0 K N S g).g i).getD r [] = [] from getD_replicate_nil N r]
    exact ⟨fun q => by simp at q, fun _ => rfl⟩
  · rcases hk with rfl | rfl | ⟨i, hi, rfl⟩
    · exact block_lt h.head
    · exact hgl
    · exact block_lt (h.row i hi).1
  · rcases hk with rfl | rfl | ⟨i, hi, rfl⟩
    · exact .inl rfl
    · exact .inr q1
    · exact .inr (h.row i hi).2.1

set_option maxRecDepth 100000 in
set_option maxHeartbeats 1000000 in
theorem refNew_any (K N S g : Nat) (hok : mayC K N S = true) (hg : g < 256) (w : World) :
    Calls Try.prog 19 #[Cd K N S, .int .i64 (g : Int)] w fun e w' => ∃ b T, e = .returned (.pointer (some ⟨b, 0, none⟩)) ∧ RefC T w' b (col0 K N S g) ∧ (∀ k, T k → w.heap.size ≤ k) ∧ Below w.heap.size w w' := by
  have hN := mayC_true hok
  unfold Cd
  go_enter Try.func19, Try.ntmps19
  go_wp2_with fail
  have b0 := heap_alloc_new w (.cells #[.int .i64 (K : Int), .int .i64 (N : Int), .int .i64 (S : Int)] 23)
  have b1 := heap_alloc_new (w.alloc (.cells #[.int .i64 (K : Int), .int .i64 (N : Int), .int .i64 (S : Int)] 23)) (.cells #[.int .i64 (K : Int), .int .i64 (N : Int), .int .i64 (S : Int), .int .i64 (g : Int), .slice none 0 0] 46)
  have B1 := ((Below.refl _ w).alloc (Nat.le_refl _) (.cells #[.int .i64 (K : Int), .int .i64 (N : Int), .int .i64 (S : Int)] 23)).alloc (by simp) (.cells #[.int .i64 (K : Int), .int .i64 (N : Int), .int .i64 (S : Int), .int .i64 (g : Int), .slice none 0 0] 46)
  have z0 : ((w.alloc (.cells #[.int .i64 (K : Int), .int .i64 (N : Int), .int .i64 (S : Int)] 23)).alloc (.cells #[.int .i64 (K : Int), .int .i64 (N : Int), .int .i64 (S : Int), .int .i64 (g : Int), .slice none 0 0] 46)).cell? ⟨w.heap.size, 1, none⟩ = some (.int .i64 (N : Int)) := by
    refine cellK ((Below.refl _ _).alloc (Nat.le_refl _) _) ?_
    rw [cell_of_row _ _ 1 _ _ _ b0]; rfl
  have hs1 : (w.alloc (.cells #[.int .i64 (K : Int), .int .i64 (N : Int), .int .i64 (S : Int)] 23)).heap.size = w.heap.size + 1 := by simp
  rw [hs1] at b1
  obtain ⟨b, hb⟩ : ∃ b, b = w.heap.size + 1 := ⟨_, rfl⟩
  rw [← hb] at b1 ⊢
  have HB := Hid.intro hb
  generalize (w.alloc (.cells #[.int .i64 (K : Int), .int .i64 (N : Int), .int .i64 (S : Int)] 23)).alloc (.cells #[.int .i64 (K : Int), .int .i64 (N : Int), .int .i64 (S : Int), .int .i64 (g : Int), .slice none 0 0] 46) = w1 at b1 B1 z0 ⊢
  have H0 := Hid.intro (show NewAt (w.heap.size + 2) w1 K N S g b (.slice none 0 0) (fun _ => 0) 0 from ⟨b1, World.ownsRow_nil _ _ _ _, fun k h => by simp [Value.ownBlock] at h, fun i h => by omega⟩)
  have B1H := Hid.intro B1
  have ZH := Hid.intro z0
  clear b0 b1 B1 hs1 hb z0
  go_loopw [6] (fun i wr => ∃ (t : Nat) (v : Value) (lb : Nat → Nat), t ≤ 4 ∧ i = .int .i64 t ∧ NewAt (w.heap.size + 2) wr K N S g b v lb t ∧ wr.cell? ⟨w.heap.size, 1, none⟩ = some (.int .i64 (N : Int)) ∧ Below w.heap.size w wr) (fun i _ => 4 - (intOf i).toNat)
  case atStart => exact ⟨0, _, _, by omega, rfl, H0.out, ZH.out, B1H.out⟩
  case round =>
    obtain ⟨t, v, lb, ht, rfl, hA, hz, hB⟩ := hrel
    have HA := Hid.intro hA
    have HZ := Hid.intro hz
    have HBW := Hid.intro hB
    have c4 : wr.cell? ⟨b, 4, none⟩ = some v := by rw [cell_of_row wr _ 4 _ _ _ hA.head]; rfl
    have hH : w.heap.size + 2 ≤ wr.heap.size := by have := block_lt hA.head; have := HB.out; omega
    have hbw := block_lt hA.head
    have hlb : ∀ i, i < t → lb i < wr.heap.size := fun i hi => block_lt (hA.row i hi).1
    by_cases hlt : t < 4
    · have t1 : (t : Int) < 4 := by omega
      obtain ⟨MK, hMK⟩ : ∃ MK : Obj, MK = .cells (madeCells #[.slice none 0 0] N) 39 (0, 0) := ⟨_, rfl⟩
      have mk : (Instr.makeSlice 48 (.int .i64 (N : Int)) (.int .i64 (N : Int))).run Try.prog wr.drew = .ok (.slice (some ⟨wr.heap.size, 0, none⟩) N N) (wr.drew.alloc MK) := by
        rw [hMK]; exact run_make_row' 48 39 (.slice none 0 0) 24 Try.underlying48 info_rowF (by rfl) .i64 .i64 N (by omega) (by omega) wr.drew
      have BM : Below wr.heap.size wr (wr.alloc MK) := (Below.refl _ wr).alloc (Nat.le_refl _) _
      have BG : Below wr.heap.size wr ((wr.alloc MK).alloc (.cells #[.slice (some ⟨wr.heap.size, 0, none⟩) N N, .bool false] 74)) := BM.alloc BM.size _
      have m4 : (wr.alloc MK).cell? ⟨b, 4, none⟩ = some v := cellK BM c4
      have n4 : ((wr.alloc MK).alloc (.cells #[.slice (some ⟨wr.heap.size, 0, none⟩) N N, .bool false] 74)).cell? ⟨b, 4, none⟩ = some v := cellK BG c4
      have R6 := Hid.intro (show ((wr.drew.alloc MK).alloc (.cells #[.slice (some ⟨wr.heap.size, 0, none⟩) N N, .bool false] 74)).ownsRow 0 74 2 v t (gcells lb N (fun _ => false) t) from ownsRow_keep hA.own fun k hk => BG.block k (World.ownsRow.lt hA.own k hk).2)
      have sz1 : (wr.drew.alloc MK).heap.size = wr.heap.size + 1 := by simp
      have NW := Hid.intro (show ∀ j u, ([.slice (some ⟨wr.heap.size, 0, none⟩) N N, .bool false] : List Value)[j]? = some u → ((wr.drew.alloc MK).alloc (.cells #[.slice (some ⟨wr.heap.size, 0, none⟩) N N, .bool false] 74)).cell? ((⟨wr.heap.size + 1, 0, none⟩ : Addr).add j) = some u from
        World.news_of_block (cs := #[.slice (some ⟨wr.heap.size, 0, none⟩) N N, .bool false]) (t := 74) (fr := (0, 0)) (by have := heap_alloc_new (wr.drew.alloc MK) (.cells #[.slice (some ⟨wr.heap.size, 0, none⟩) N N, .bool false] 74); rw [sz1] at this; exact this))
      have ONE := Hid.intro (show ∀ u ∈ ([.slice (some ⟨wr.heap.size, 0, none⟩) N N, .bool false] : List Value), u.oneCell' = true by simp [Value.oneCell'])
      have FIN := Hid.intro (show ∀ (g7 cp7 : Nat) (w7 : World), w7.ownsRow 0 74 2 (.slice (some ⟨g7, 0, none⟩) (t + 1) cp7) (t + 1) (gcells lb N (fun _ => false) t ++ [.slice (some ⟨wr.heap.size, 0, none⟩) N N, .bool false]) → ((wr.drew.alloc MK).alloc (.cells #[.slice (some ⟨wr.heap.size, 0, none⟩) N N, .bool false] 74)).grownBy w7 v.ownBlock → (v.ownBlock = some g7 ∨ g7 = wr.heap.size + 2) →
          (w7.cell? ⟨b, 4, none⟩ = some v ∧ w7.frozen? ⟨b, 4, none⟩ = false) ∧ (NewAt (w.heap.size + 2) (w7.setCell ⟨b, 4, none⟩ (.slice (some ⟨g7, 0, none⟩) (t + 1) cp7)) K N S g b (.slice (some ⟨g7, 0, none⟩) (t + 1) cp7) (fun j => if j = t then wr.heap.size else lb j) (t + 1) ∧ (w7.setCell ⟨b, 4, none⟩ (.slice (some ⟨g7, 0, none⟩) (t + 1) cp7)).cell? ⟨w.heap.size, 1, none⟩ = some (.int .i64 (N : Int)) ∧ Below w.heap.size w (w7.setCell ⟨b, 4, none⟩ (.slice (some ⟨g7, 0, none⟩) (t + 1) cp7))) from fun g7 cp7 w7 hown hgrow hat => by
        have hbs := HB.out
        have BD : Below wr.heap.size wr ((wr.drew.alloc MK).alloc (.cells #[.slice (some ⟨wr.heap.size, 0, none⟩) N N, .bool false] 74)) := ((Below.refl _ wr).drew.alloc (Nat.le_refl _) _).alloc (by simp) _
        have C7 : Chg (fun q => v.ownBlock = some q) wr w7 := ((((Chg.refl _ wr).drew).alloc _).alloc _).grown hgrow (fun q hq _ => hq)
        have hb7 := (C7.block b hbw (fun q => (hA.ap b q).2.1 rfl)).trans hA.head
        have C8 : Chg (fun q => v.ownBlock = some q ∨ q = b) wr (w7.setCell ⟨b, 4, none⟩ (.slice (some ⟨g7, 0, none⟩) (t + 1) cp7)) := (C7.mono (fun q hq _ => .inl hq)).setCell (p := ⟨b, 4, none⟩) (fun _ => .inr rfl) _
        refine ⟨⟨by rw [cell_of_row w7 _ 4 _ _ _ hb7]; rfl, frozen_of_row w7 b 4 _ _ hb7⟩, hA.more hH BD (by simp) ?_ hown hgrow hat hbw hlb, ?_, ?_⟩
        · have e := heap_alloc_new wr.drew MK
          rw [heap_alloc_other _ _ _ (by simp)]
          rw [hMK] at e
          rw [hMK]; exact e
        · exact cell_chg C8 hz (fun q => q.elim (fun q => by have : w.heap.size + 2 ≤ w.heap.size := (hA.ap _ q).1; omega) (fun q => by have : w.heap.size = b := q; omega))
        · exact hB.trans (C8.below hB.size (fun q hq => hq.elim (fun hq => by have := (hA.ap _ hq).1; omega) (fun hq => by omega))))
      obtain ⟨iG, hiG, hzG0, hzG1, hzG2⟩ := info_parts info_grp
      clear hA hB hMK BM BG sz1 hlb
      go_wp2_with fail
      go_region_law
        ((refine step_append_lies _ (by rfl) _ _ _ (by rfl) 0 74 iG (.agg #[.slice none 0 0, .bool false]) 2 32 Try.underlying44 hiG hzG0 hzG1 hzG2 (by rfl) (by decide) v t _ (by rfl) R6.out ⟨wr.heap.size + 1, 0, none⟩ 1 1 [.slice (some ⟨wr.heap.size, 0, none⟩) N N, .bool false] (by rfl) (by rfl) NW.out ONE.out (by decide) (by unfold maxLen; omega) (by omega) (Nat.zero_le _) (wr.heap.size + 2) (by simp) ?_; intro g7 cp7 w7 hown hgrow hat hgl; have FN := FIN.out g7 cp7 w7 hown hgrow hat; have k4 := FN.1.1; have k5 := FN.1.2; have F2 := Hid.intro FN.2; clear FN hown hgrow hat))
      all_goals
        go_wp2
        go_roundw
        case rel => exact ⟨t + 1, _, _, by omega, by go_num, F2.out.1, F2.out.2.1, F2.out.2.2⟩
        case measure => simp [intOf]; omega
    · obtain rfl : t = 4 := by omega
      obtain ⟨T, q1, q2⟩ := hA.rc hok hg
      have Q1 := Hid.intro q1
      have Q2 := Hid.intro q2
      clear hA hB q1 q2 hlb
      go_wp2
      go_ret
      exact ⟨b, T, rfl, Q1.out, fun k hk => by have := Q2.out k hk; have := HB.out; omega, HBW.out⟩

end Go.Proofs.Ytceekoifljeddaa

/- The document's collector: one group goes, one comes. -/
namespace Go.Proofs.Ytceekoifljeddaa
open Go.RowKit
open Bt

variable {S : Nat → Prop} {w w' : World} {b gb go gc : Nat} {lb : Nat → Nat} {A : Nat → Nat → Option Addr} {C : Nat → Nat → Nat} {x : Col}

/-- The lists' blocks behind a shift. -/
def lbS (lb : Nat → Nat) (nl i : Nat) : Nat := if i = 3 then nl else lb (i + 1)

def gnS (x : Col) (i : Nat) : Bool := if i = 3 then false else x.gone (i + 1)

theorem RC.next (h0 : RC S w b gb go gc lb A C x) {W : World} {g9 c9 nl : Nat} (hc : Chg (fun k => k = b) w W)
    (head : W.heap[b]? = some (.cells #[.int .i64 (x.K : Int), .int .i64 (x.N : Int), .int .i64 (x.S : Int), .int .i64 (((x.base + 1) % 256 : Nat) : Int), .slice (some ⟨g9, 0, none⟩) 4 c9] 46 (0, 0)))
    (own : W.ownsRow 0 74 2 (.slice (some ⟨g9, 0, none⟩) 4 c9) 4 (gcells (lbS lb nl) x.N (gnS x) 4))
    (new : W.heap[nl]? = some (.cells (madeCells #[.slice none 0 0] x.N) 39 (0, 0))) (hnl : w.heap.size ≤ nl) (hg9 : w.heap.size ≤ g9) (hne : nl ≠ g9) :
    RC (fun k => S k ∨ k = nl ∨ k = g9) W b g9 0 c9 (lbS lb nl) (fun i r => if i = 3 then none else A (i + 1) r) (fun i r => if i = 3 then 0 else C (i + 1) r) (shift x) := by
  have hcap : 4 ≤ c9 := by
    rcases own.2 with ⟨e, _⟩ | ⟨_, _, _, e, _, _, q, _⟩
    · cases e
    · cases e; exact q
  have old : ∀ k, S k → k < w.heap.size := h0.lt
  have hb := old b h0.inB.1
  have bl : ∀ k, S k → k ≠ b → W.heap[k]? = w.heap[k]? := fun k hk hn => hc.block k (old k hk) hn
  have g3 : (shift x).g 3 = List.replicate x.N [] := rfl
  have gi : ∀ i, i ≠ 3 → (shift x).g i = x.g (i + 1) := fun i hi => if_neg hi
  have e3 : lbS lb nl 3 = nl := rfl
  have ei : ∀ i, i ≠ 3 → lbS lb nl i = lb (i + 1) := fun i hi => if_neg hi
  have hN : (shift x).N = x.N := rfl
  refine ⟨head, hcap, fun i hi => ?_, fun i hi => ⟨?_, own.frozenAt _⟩, fun i hi r hr => ?_, fun i hi r hr => ?_, ⟨.inl h0.inB.1, .inr (.inr rfl)⟩, fun i hi => ?_, fun i hi r hr ad ha => ?_, by omega, fun i hi => ⟨?_, ?_, fun j hj hn => ?_⟩, fun i hi r hr ad ha => ?_, fun k hk => ?_, shift_ok h0.ok⟩
  · rw [Nat.zero_add, own.cellAt (i * 2) (by omega)]; exact (gcells_at hi).1
  · rw [Nat.zero_add, own.cellAt (i * 2 + 1) (by omega)]; exact (gcells_at hi).2
  · by_cases e : i = 3
    · subst e
      rw [g3, getD_replicate_nil, e3]
      refine ⟨?_, frozen_of_row W _ r _ _ new⟩
      rw [cell_of_row W _ r _ _ _ new, ← Array.getElem?_toList, toList_madeCells_one, List.getElem?_replicate, if_pos (show r < x.N from hr)]
      rfl
    · rw [gi i e, ei i e]
      simp only [if_neg e]
      obtain ⟨q1, q2⟩ := h0.row (i + 1) (by omega) r hr
      have hh := bl (lb (i + 1)) (h0.inL _ (by omega)) (h0.apL _ (by omega)).1
      exact ⟨(World.cell?_of_block (a := ⟨lb (i + 1), r, none⟩) hh).trans q1, (World.frozen?_of_block (a := ⟨lb (i + 1), r, none⟩) hh).trans q2⟩
  · by_cases e : i = 3
    · subst e
      rw [g3, getD_replicate_nil]
      exact ⟨fun q => by simp at q, fun _ => rfl⟩
    · rw [gi i e]
      simp only [if_neg e]
      exact ⟨(h0.rd (i + 1) (by omega) r hr).1.kept hc (fun ad ha => (h0.apA _ (by omega) r hr ad ha).1), (h0.rd (i + 1) (by omega) r hr).2⟩
  · by_cases e : i = 3
    · subst e; exact .inr (.inl rfl)
    · rw [ei i e]; exact .inl (h0.inL _ (by omega))
  · by_cases e : i = 3
    · simp only [if_pos e] at ha; cases ha
    · simp only [if_neg e] at ha
      exact .inl (h0.inA _ (by omega) r hr ad ha)
  · by_cases e : i = 3
    · subst e; rw [e3]; omega
    · rw [ei i e]; exact (h0.apL _ (by omega)).1
  · by_cases e : i = 3
    · subst e; rw [e3]; exact hne
    · rw [ei i e]; have := old _ (h0.inL (i + 1) (by omega)); omega
  · by_cases e : i = 3
    · subst e; rw [e3, ei j (by omega)]; have := old _ (h0.inL (j + 1) (by omega)); omega
    · rw [ei i e]
      by_cases e2 : j = 3
      · subst e2; rw [e3]; have := old _ (h0.inL (i + 1) (by omega)); omega
      · rw [ei j e2]; exact (h0.apL (i + 1) (by omega)).2.2 (j + 1) (by omega) (by omega)
  · by_cases e : i = 3
    · simp only [if_pos e] at ha; cases ha
    · simp only [if_neg e] at ha
      have ho := old _ (h0.inA (i + 1) (by omega) r hr ad ha)
      refine ⟨(h0.apA (i + 1) (by omega) r hr ad ha).1, by omega, fun j hj => ?_⟩
      by_cases e2 : j = 3
      · subst e2; rw [e3]; omega
      · rw [ei j e2]; exact (h0.apA (i + 1) (by omega) r hr ad ha).2.2 (j + 1) (by omega)
  · rcases hk with hk | rfl | rfl
    · exact Nat.lt_of_lt_of_le (old k hk) hc.size
    · exact block_lt new
    · exact (World.ownsRow.lt own _ rfl).2

end Go.Proofs.Ytceekoifljeddaa

/- The document's collector beside the parts that are being made: what a round of Due leaves. -/
namespace Go.Proofs.Ytceekoifljeddaa
open Go.RowKit
open Bt

/-- Parts so far, and the collector beside them. -/
structure DueAt (S : Nat → Prop) (w wr : World) (b : Nat) (P : Nat → Prt) (v : Value) (t : Nat) (y : Col) (T : Nat → Prop) (gb go gc : Nat) (lb : Nat → Nat) (A : Nat → Nat → Option Addr) (C : Nat → Nat → Nat) (ad : Nat → Option Addr) (cp : Nat → Nat) : Prop where
  pts : PtsAt w.heap.size wr v P ad cp t
  rc : RC T wr b gb go gc lb A C y
  inT : ∀ k, T k → S k ∨ w.heap.size ≤ k
  apV : ∀ k, v.ownBlock = some k → ¬ T k
  apA : ∀ i, i < t → ∀ a, ad i = some a → ¬ T a.block ∧ a.block < wr.heap.size
  chg : Chg S w wr
  inS : S b ∧ b < w.heap.size

variable {S : Nat → Prop} {w wr w' : World} {b : Nat} {P : Nat → Prt} {v : Value} {t : Nat} {y : Col} {T : Nat → Prop} {gb go gc : Nat} {lb : Nat → Nat} {A : Nat → Nat → Option Addr} {C : Nat → Nat → Nat} {ad : Nat → Option Addr} {cp : Nat → Nat}

theorem DueAt.below (h : DueAt S w wr b P v t y T gb go gc lb A C ad cp) (hb : Below wr.heap.size wr w') : DueAt S w w' b P v t y T gb go gc lb A C ad cp :=
  ⟨h.pts.below hb, h.rc.below hb, h.inT, h.apV, fun i hi a ha => ⟨(h.apA i hi a ha).1, Nat.lt_of_lt_of_le (h.apA i hi a ha).2 hb.size⟩, h.chg.trans (below_chg hb) (fun _ q _ => q.elim), h.inS⟩

/-- One part more. -/
theorem DueAt.part (h : DueAt S w wr b P v t y T gb go gc lb A C ad cp) {PT : Obj} {w7 : World} {g7 c7 c : Nat} {a : Option Addr}
    (hr : Reads wr a (P t).data) (hm : Room a c (P t).data.length) (ha : ∀ z, a = some z → ¬ T z.block ∧ w.heap.size ≤ z.block ∧ z.block < wr.heap.size ∧ v.ownBlock ≠ some z.block)
    (hown : w7.ownsRow 0 53 3 (.slice (some ⟨g7, 0, none⟩) (t + 1) c7) (t + 1) (pcells P ad cp t ++ [.int .i64 ((P t).group : Int), .bool (P t).gap, .slice a (P t).data.length c]))
    (hgrow : (wr.alloc PT).grownBy w7 v.ownBlock) (hat : v.ownBlock = some g7 ∨ g7 = wr.heap.size + 1) :
    DueAt S w w7 b P (.slice (some ⟨g7, 0, none⟩) (t + 1) c7) (t + 1) y T gb go gc lb A C (fun i => if i = t then a else ad i) (fun i => if i = t then c else cp i) := by
  have hW : Below wr.heap.size wr (wr.alloc PT) := (Below.refl _ wr).alloc (Nat.le_refl _) _
  have C7 : Chg (fun q => v.ownBlock = some q) wr w7 := ((below_chg hW).mono (fun _ q _ => q.elim)).grown hgrow (fun q hq _ => hq)
  have hs : wr.heap.size ≤ w7.heap.size := C7.size
  refine ⟨h.pts.more hW hown hgrow ?_ h.chg.size hr hm (fun z hz => (ha z hz).2) (fun i hi z hz => (h.apA i hi z hz).2), h.rc.kept C7 (fun k hk q => h.apV k q hk), h.inT, fun k hk ht => ?_, fun i hi z hz => ?_, h.chg.trans C7 (fun k hk hlt => ?_), h.inS⟩
  · rcases hat with q | q
    · exact .inl q
    · exact .inr (by rw [q]; simp)
  · obtain rfl : g7 = k := by simpa [Value.ownBlock] using hk
    rcases hat with q | q
    · exact h.apV _ q ht
    · have := h.rc.lt _ ht; omega
  · by_cases e : i = t
    · simp only [if_pos e] at hz
      exact ⟨(ha z hz).1, Nat.lt_of_lt_of_le (ha z hz).2.2.1 hs⟩
    · simp only [if_neg e] at hz
      exact ⟨(h.apA i (by omega) z hz).1, Nat.lt_of_lt_of_le (h.apA i (by omega) z hz).2 hs⟩
  · have := h.pts.ap k hk; omega

/-- One group goes, one comes. -/
theorem DueAt.shift (h : DueAt S w wr b P v t y T gb go gc lb A C ad cp) {w9 : World} {g9 c9 m : Nat}
    (hB : Below wr.heap.size (wr.setCell ⟨b, 3, none⟩ (.int .i64 (((y.base + 1) % 256 : Nat) : Int))) w9)
    (own : w9.ownsRow 0 74 2 (.slice (some ⟨g9, 0, none⟩) 4 c9) 4 (gcells (lbS lb m) y.N (gnS y) 4))
    (new : w9.heap[m]? = some (.cells (madeCells #[.slice none 0 0] y.N) 39 (0, 0))) (hm : wr.heap.size ≤ m) (hg9 : wr.heap.size ≤ g9) (hne : m ≠ g9) :
    (w9.cell? ⟨b, 4, none⟩ = some (.slice (some ⟨gb, go, none⟩) 4 gc) ∧ w9.frozen? ⟨b, 4, none⟩ = false) ∧
    DueAt S w (w9.setCell ⟨b, 4, none⟩ (.slice (some ⟨g9, 0, none⟩) 4 c9)) b P v t (shift y) (fun k => T k ∨ k = m ∨ k = g9) g9 0 c9 (lbS lb m) (fun i r => if i = 3 then none else A (i + 1) r) (fun i r => if i = 3 then 0 else C (i + 1) r) ad cp := by
  have hb : b < wr.heap.size := h.rc.lt b h.rc.inB.1
  have C6 : Chg (fun k => k = b) wr (wr.setCell ⟨b, 3, none⟩ (.int .i64 (((y.base + 1) % 256 : Nat) : Int))) := Chg.setCell (S := fun k => k = b) (Chg.refl _ wr) (fun _ => rfl) _
  have hs6 : (wr.setCell ⟨b, 3, none⟩ (.int .i64 (((y.base + 1) % 256 : Nat) : Int))).heap.size = wr.heap.size := World.size_setCell _ _ _
  have C9 : Chg (fun k => k = b) wr w9 := C6.trans (below_chg (by rw [hs6]; exact hB)) (fun _ q _ => q.elim)
  have C10 : Chg (fun k => k = b) wr (w9.setCell ⟨b, 4, none⟩ (.slice (some ⟨g9, 0, none⟩) 4 c9)) := C9.setCell (p := ⟨b, 4, none⟩) (fun _ => rfl) _
  have h6 := heap_setCell_same wr b 3 _ _ (.int .i64 (((y.base + 1) % 256 : Nat) : Int)) h.rc.head
  have h9 := (hB.block b hb).trans h6
  have h10 := heap_setCell_same w9 b 4 _ _ (.slice (some ⟨g9, 0, none⟩) 4 c9) h9
  have hbS := h.inS.2
  have hsw := h.chg.size
  have rn := h.rc.next (W := w9.setCell ⟨b, 4, none⟩ (.slice (some ⟨g9, 0, none⟩) 4 c9)) (g9 := g9) (c9 := c9) (nl := m) C10 (by rw [h10]; rfl)
    (ownsRow_keep own fun k hk => by
      have : g9 = k := by simpa [Value.ownBlock] using hk
      rw [heap_setCell_other _ _ _ _ (by simp; omega)])
    (by rw [heap_setCell_other _ _ _ _ (by simp; omega)]; exact new) hm hg9 hne
  refine ⟨⟨by rw [cell_of_row w9 b 4 _ _ _ h9]; rfl, frozen_of_row w9 b 4 _ _ h9⟩, h.pts.kept C10 (fun k hk e => by omega), rn, fun k hk => ?_, fun k hk ht => ?_, fun i hi z hz => ⟨fun ht => ?_, ?_⟩, h.chg.trans C10 (fun k hk _ => by rw [hk]; exact h.inS.1), h.inS⟩
  · rcases hk with q | q | q
    · exact h.inT k q
    · right; omega
    · right; omega
  · have := (World.ownsRow.lt h.pts.own k hk).2
    rcases ht with q | q | q
    · exact h.apV k hk q
    · omega
    · omega
  · have := h.apA i hi z hz
    rcases ht with q | q | q
    · exact this.1 q
    · omega
    · omega
  · exact Nat.lt_of_lt_of_le (h.apA i hi z hz).2 C10.size

/-! ### The list of groups anew: an empty list, the last three behind it, a new one behind them -/

/-- An empty row of one's own. -/
theorem own_empty {W : World} {e : Nat} (h : W.heap[e]? = some (.cells #[] 74 (0, 0))) : W.ownsRow 0 74 2 (.slice (some ⟨e, 0, none⟩) 0 0) 0 [] :=
  ⟨rfl, .inr ⟨e, 0, #[], rfl, Nat.zero_le _, h, Nat.le_refl _, Nat.zero_le _, rfl, rfl⟩⟩

theorem bel_alloc {H : Nat} {a W : World} (h : Below H a W) (hH : H ≤ a.heap.size) (o : Obj) : Below H a (W.alloc o) := h.alloc (Nat.le_trans hH h.size) o

/-- Behind the first append. -/
structure App7 (H : Nat) (w6 : World) (ns : List Value) (W w7 : World) (g7 c7 : Nat) : Prop where
  own : w7.ownsRow 0 74 2 (.slice (some ⟨g7, 0, none⟩) 3 c7) 3 ns
  below : Below H w6 w7
  ge : H ≤ g7
  lt : g7 < w7.heap.size
  keep : ∀ k o, W.heap[k]? = some o → o ≠ .cells #[] 74 (0, 0) → w7.heap[k]? = some o ∧ g7 ≠ k

theorem app7 {H : Nat} {w6 W w7 : World} {ns : List Value} {e g7 c7 : Nat} (hE : W.heap[e]? = some (.cells #[] 74 (0, 0))) (he : H ≤ e) (hB : Below H w6 W) (hH : H ≤ w6.heap.size)
    (hown : w7.ownsRow 0 74 2 (.slice (some ⟨g7, 0, none⟩) 3 c7) 3 ns) (hgrow : W.grownBy w7 (some e)) (hat : some e = some g7 ∨ g7 = W.heap.size) (hlt : g7 < w7.heap.size) : App7 H w6 ns W w7 g7 c7 := by
  have hs := hB.size
  refine ⟨hown, ⟨hgrow.os.trans hB.os, hgrow.tape.trans hB.tape, hgrow.output.trans hB.output, Nat.le_trans hs hgrow.size, fun k hk => (hgrow.block k (by omega) (fun q => by cases q; omega)).trans (hB.block k hk)⟩, ?_, hlt, fun k o ho hn => ?_⟩
  · rcases hat with q | q
    · cases q; exact he
    · omega
  · have hk := block_lt ho
    have hne : k ≠ e := fun q => by subst q; rw [hE] at ho; cases ho; exact hn rfl
    refine ⟨(hgrow.block k hk (fun q => hne (by cases q; rfl))).trans ho, fun q => ?_⟩
    rcases hat with q2 | q2
    · cases q2; exact hne q.symm
    · omega

/-- Behind the second one. -/
theorem app9 {H : Nat} {w6 W w9 : World} {MK : Obj} {g7 g9 m : Nat} (hB : Below H w6 W) (hH : H ≤ w6.heap.size) (hg7 : H ≤ g7)
    (hm : W.heap[m]? = some MK) (hn : g7 ≠ m) (hgrow : W.grownBy w9 (some g7)) (hat : some g7 = some g9 ∨ g9 = W.heap.size) :
    Below H w6 w9 ∧ w9.heap[m]? = some MK ∧ H ≤ g9 ∧ m ≠ g9 := by
  have hs := hB.size
  have hk := block_lt hm
  refine ⟨⟨hgrow.os.trans hB.os, hgrow.tape.trans hB.tape, hgrow.output.trans hB.output, Nat.le_trans hs hgrow.size, fun k hk => (hgrow.block k (by omega) (fun q => by cases q; omega)).trans (hB.block k hk)⟩, (hgrow.block m hk (fun q => hn (by cases q; rfl))).trans hm, ?_, ?_⟩
  · rcases hat with q | q
    · cases q; exact hg7
    · omega
  · rcases hat with q | q
    · cases q; exact Ne.symm hn
    · omega

theorem alloc_at {W : World} {o : Obj} {k : Nat} (h : k = W.heap.size) : (W.alloc o).heap[k]? = some o := by rw [h]; exact heap_alloc_new W o

theorem alloc_far {W : World} {o v : Obj} {k : Nat} (h : W.heap[k]? = some v) : (W.alloc o).heap[k]? = some v := (heap_alloc_other W o k (block_lt h)).trans h

theorem own_alloc {W : World} {e : TypeId} {s : Nat} {v : Value} {n : Nat} {xs : List Value} (h : W.ownsRow 0 e s v n xs) (o : Obj) : (W.alloc o).ownsRow 0 e s v n xs :=
  ownsRow_keep h fun k hk => heap_alloc_other W o k (World.ownsRow.lt h k hk).2

/-- What is known ahead of the second append. -/
structure Pre16 (H : Nat) (w6 : World) (ns : List Value) (MK : Obj) (N : Nat) (W : World) (ga ca m q : Nat) : Prop where
  own : W.ownsRow 0 74 2 (.slice (some ⟨ga, 0, none⟩) 3 ca) 3 ns
  below : Below H w6 W
  ge : H ≤ ga
  made : W.heap[m]? = some MK
  ne : ga ≠ m
  gr : W.heap[q]? = some (.cells #[.slice (some ⟨m, 0, none⟩) N N, .bool false] 74 (0, 0))
  hm : H ≤ m

theorem pre1 {H : Nat} {w6 W wa : World} {ns : List Value} {ga ca : Nat} (MK : Obj) (N : Nat) (hH : H ≤ w6.heap.size) (Q : App7 H w6 ns W wa ga ca) :
    Pre16 H w6 ns MK N ((wa.alloc MK).alloc (.cells #[.slice (some ⟨wa.heap.size, 0, none⟩) N N, .bool false] 74 (0, 0))) ga ca wa.heap.size (wa.heap.size + 1) := by
  have := Q.lt
  have := Q.below.size
  exact ⟨own_alloc (own_alloc Q.own _) _, bel_alloc (bel_alloc Q.below hH _) hH _, Q.ge, alloc_far (alloc_at rfl), by omega, alloc_at (by simp), by omega⟩

theorem pre2 {H : Nat} {w6 W wa : World} {ns : List Value} {ga ca : Nat} (MK : Obj) (N m : Nat) (hne : MK ≠ .cells #[] 74 (0, 0)) (hH : H ≤ w6.heap.size) (Q : App7 H w6 ns W wa ga ca) (hmk : W.heap[m]? = some MK) (hm : H ≤ m) :
    Pre16 H w6 ns MK N (wa.alloc (.cells #[.slice (some ⟨m, 0, none⟩) N N, .bool false] 74 (0, 0))) ga ca m wa.heap.size := by
  obtain ⟨q1, q2⟩ := Q.keep _ _ hmk hne
  exact ⟨own_alloc Q.own _, bel_alloc Q.below hH _, Q.ge, alloc_far q1, q2, alloc_at rfl, hm⟩

theorem pre3 {H : Nat} {w6 W wa : World} {ns : List Value} {ga ca : Nat} (MK : Obj) (N m q : Nat) (hne : MK ≠ .cells #[] 74 (0, 0)) (Q : App7 H w6 ns W wa ga ca) (hmk : W.heap[m]? = some MK) (hgr : W.heap[q]? = some (.cells #[.slice (some ⟨m, 0, none⟩) N N, .bool false] 74 (0, 0))) (hm : H ≤ m) :
    Pre16 H w6 ns MK N wa ga ca m q := by
  obtain ⟨q1, q2⟩ := Q.keep _ _ hmk hne
  exact ⟨Q.own, Q.below, Q.ge, q1, q2, (Q.keep _ _ hgr (by simp)).1, hm⟩

/-- The last three groups' cells. -/
theorem next_cells (h : RC T wr b gb go gc lb A C y) : ∀ j u, (gcells (fun i => lb (i + 1)) y.N (fun i => y.gone (i + 1)) 3)[j]? = some u → wr.cell? ((⟨gb, go + 2, none⟩ : Addr).add j) = some u := by
  intro j u hu
  have hadd : (⟨gb, go + 2, none⟩ : Addr).add j = ⟨gb, go + 2 + j, none⟩ := by unfold Addr.add; split <;> simp_all
  rw [hadd]
  have hl := gcells_length (fun i => lb (i + 1)) y.N (fun i => y.gone (i + 1)) 3
  have hj : j < 6 := by have := (List.getElem?_eq_some_iff.1 hu).1; omega
  have q0 := h.grp 1 (by omega)
  have q1 := (h.gon 1 (by omega)).1
  have q2 := h.grp 2 (by omega)
  have q3 := (h.gon 2 (by omega)).1
  have q4 := h.grp 3 (by omega)
  have q5 := (h.gon 3 (by omega)).1
  rw [← hu]
  match j, hj with
  | 0, _ => exact q0
  | 1, _ => exact q1
  | 2, _ => exact q2
  | 3, _ => exact q3
  | 4, _ => exact q4
  | 5, _ => exact q5

theorem next_all (lb : Nat → Nat) (m : Nat) (y : Col) : gcells (fun i => lb (i + 1)) y.N (fun i => y.gone (i + 1)) 3 ++ [.slice (some ⟨m, 0, none⟩) y.N y.N, .bool false] = gcells (lbS lb m) y.N (gnS y) 4 := rfl

theorem next_one (lb : Nat → Nat) (y : Col) : ∀ u ∈ gcells (fun i => lb (i + 1)) y.N (fun i => y.gone (i + 1)) 3, u.oneCell' = true := by
  intro u hu
  simp only [gcells, gcell, List.nil_append, List.cons_append, List.mem_cons, List.not_mem_nil, or_false] at hu
  rcases hu with rfl | rfl | rfl | rfl | rfl | rfl <;> rfl

end Go.Proofs.Ytceekoifljeddaa
