/- Several texts, one behind the other: SqA SqMk SqN SqB SqO SqF. -/
import Derived.Test.YthhggjakenalpaaGreatDoorBase
import Derived.Test.YthhggjakenalpaaGreatDoorMPlain
import Derived.OwnWalk
/- Contracts of package seq: is it a group; the rest by 256. -/
namespace Go.Proofs.YthhggjakenalpaaGreatDoor
set_option maxRecDepth 100000
open Go.RowKit
open Bt

theorem isG_no {g : Int} (h : ¬ (0 ≤ g ∧ g ≤ 255)) : isG g = false := by
  cases e : isG g
  · rfl
  · exact absurd (isG_true e) h

theorem isGroup_any (g : Int) (w : World) :
    Calls Tryz.prog 117 #[.int .i64 g] w fun e w' => e = .returned (.bool (isG g)) ∧ w = w' := by
  by_cases h1 : 0 ≤ g
  · by_cases h2 : g < 256
    · rw [isG_of ⟨h1, by omega⟩]
      go_enter Tryz.func117, Tryz.ntmps117
      go_wp2
      go_ret
      exact ⟨rfl, rfl⟩
    · rw [isG_no (by omega)]
      go_enter Tryz.func117, Tryz.ntmps117
      go_wp2
      go_ret
      exact ⟨rfl, rfl⟩
  · rw [isG_no (by omega)]
    go_enter Tryz.func117, Tryz.ntmps117
    go_wp2
    go_ret
    exact ⟨rfl, rfl⟩

/-- The number's rest by 256, as the code reckons it. -/
theorem around_eq (n : Int) : (n.tmod 256 + 256).tmod 256 = n % 256 := by
  have h := Int.tmod_eq_emod (a := n) (b := 256)
  have h1 := Int.emod_nonneg n (show (256 : Int) ≠ 0 by decide)
  have h2 := Int.emod_lt_of_pos n (show (0 : Int) < 256 by decide)
  have h3 : n.tmod 256 = n % 256 ∨ n.tmod 256 = n % 256 - 256 := by
    split at h
    · left; rw [h]; omega
    · right; rw [h]; rfl
  rcases h3 with h3 | h3
  · rw [h3, Int.tmod_eq_emod_of_nonneg (by omega)]; omega
  · rw [h3, Int.tmod_eq_emod_of_nonneg (by omega)]; omega

theorem tmod_range (n : Int) : -256 < n.tmod 256 ∧ n.tmod 256 < 256 := by
  have h := Int.tmod_eq_emod (a := n) (b := 256)
  have h1 := Int.emod_nonneg n (show (256 : Int) ≠ 0 by decide)
  have h2 := Int.emod_lt_of_pos n (show (0 : Int) < 256 by decide)
  have h3 : n.tmod 256 = n % 256 ∨ (n.tmod 256 = n % 256 - 256 ∧ n % 256 ≠ 0) := by
    split at h
    · left; rw [h]; omega
    · rename_i hh
      right; refine ⟨by rw [h]; rfl, fun e => hh (Or.inr (Int.dvd_of_emod_eq_zero e))⟩
  omega

theorem around_any (n : Int) (w : World) :
    Calls Tryz.prog 118 #[.int .i64 n] w fun e w' => e = .returned (.int .i64 (n % 256)) ∧ w = w' := by
  obtain ⟨R, hR⟩ : ∃ R, R = n % 256 := ⟨_, rfl⟩
  have hA := around_eq n
  have hT := tmod_range n
  rw [← hR] at hA ⊢
  have b1 := Int.emod_nonneg n (show (256 : Int) ≠ 0 by decide)
  have b2 := Int.emod_lt_of_pos n (show (0 : Int) < 256 by decide)
  rw [← hR] at b1 b2
  clear hR
  have HA := Hid.intro hA
  clear hA
  go_enter Tryz.func118, Tryz.ntmps118
  go_wp2
  go_ret
  refine ⟨ret_int ?_, rfl⟩
  have := HA.out
  rw [Int.tmod_eq_emod_of_nonneg (by omega)] at this
  exact this

end Go.Proofs.YthhggjakenalpaaGreatDoor

/- Contracts of package seq: Make. -/
namespace Go.Proofs.YthhggjakenalpaaGreatDoor
set_option maxRecDepth 100000
open Go.RowKit
open Bt

theorem isPlace_any (g : Int) (w : World) :
    Calls Tryz.prog 168 #[.int .i64 g] w fun e w' => e = .returned (.bool (decide (0 ≤ g) && decide (g ≤ 15))) ∧ w = w' := by
  by_cases h1 : 0 ≤ g
  · by_cases h2 : g < 16
    · rw [show (decide (0 ≤ g) && decide (g ≤ 15)) = true from by simp; omega]
      go_enter Tryz.func168, Tryz.ntmps168
      go_wp2
      go_ret
      exact ⟨rfl, rfl⟩
    · rw [show (decide (0 ≤ g) && decide (g ≤ 15)) = false from by simp; omega]
      go_enter Tryz.func168, Tryz.ntmps168
      go_wp2
      go_ret
      exact ⟨rfl, rfl⟩
  · rw [show (decide (0 ≤ g) && decide (g ≤ 15)) = false from by simp; omega]
    go_enter Tryz.func168, Tryz.ntmps168
    go_wp2
    go_ret
    exact ⟨rfl, rfl⟩

theorem smake_any (g p : Int) (w : World) :
    Calls Tryz.prog 156 #[.int .i64 g, .int .i64 p] w fun e w' => e = .returned (.tuple #[.int .i64 (makeA g p), .bool (isM g p)]) ∧ Below w.heap.size w w' := by
  have I1 := Hid.intro (isGroup_any g w)
  have I2 := Hid.intro (isPlace_any p w)
  rcases h1 : isG g with _ | _
  · rw [h1] at I1
    have hM : isM g p = false := by unfold isM; rw [h1]; rfl
    rw [hM, show makeA g p = 0 from by unfold makeA; rw [hM]; rfl]
    clear I2 h1 hM
    go_enter Tryz.func156, Tryz.ntmps156
    go_wp2_with fail
    refine I1.out.mono ?_
    clear I1
    rintro e w1 ⟨rfl, rfl⟩
    go_wp2
    go_ret2
    exact ⟨rfl, Below.refl _ _⟩
  · rw [h1] at I1
    have hg := isG_true h1
    rcases h2 : (decide (0 ≤ p) && decide (p ≤ 15)) with _ | _
    · rw [h2] at I2
      have hM : isM g p = false := by unfold isM; rw [h1, h2]; rfl
      rw [hM, show makeA g p = 0 from by unfold makeA; rw [hM]; rfl]
      clear h1 h2 hM
      go_enter Tryz.func156, Tryz.ntmps156
      go_wp2_with fail
      refine I1.out.mono ?_
      clear I1
      rintro e w1 ⟨rfl, rfl⟩
      go_wp2_with fail
      refine I2.out.mono ?_
      clear I2
      rintro e w1 ⟨rfl, rfl⟩
      go_wp2
      go_ret2
      exact ⟨rfl, Below.refl _ _⟩
    · rw [h2] at I2
      have hM : isM g p = true := by unfold isM; rw [h1, h2]; rfl
      have hp : 0 ≤ p ∧ p ≤ 15 := by simpa using h2
      rw [hM, show makeA g p = g * 16 + p from by unfold makeA; rw [hM]; rfl]
      clear h1 h2 hM
      go_enter Tryz.func156, Tryz.ntmps156
      go_wp2_with fail
      refine I1.out.mono ?_
      clear I1
      rintro e w1 ⟨rfl, rfl⟩
      go_wp2_with fail
      refine I2.out.mono ?_
      clear I2
      rintro e w1 ⟨rfl, rfl⟩
      go_wp2
      go_ret2
      exact ⟨rfl, Below.refl _ _⟩

end Go.Proofs.YthhggjakenalpaaGreatDoor

/- Contracts of package seq: Next. -/
namespace Go.Proofs.YthhggjakenalpaaGreatDoor
set_option maxRecDepth 100000
open Go.RowKit
open Bt

theorem snext_any (g n : Int) (_hn : -1000000 ≤ n ∧ n ≤ 1000000) (w : World) :
    Calls Tryz.prog 76 #[.int .i64 g, .int .i64 n] w fun e w' => e = .returned (.int .i64 (nextA g n)) ∧ Below w.heap.size w w' := by
  have I1 := Hid.intro (isGroup_any g w)
  rcases h1 : isG g with _ | _
  · rw [h1] at I1
    rw [show nextA g n = -1 from by unfold nextA; rw [if_neg (by rw [h1]; simp)]]
    clear h1
    go_enter Tryz.func76, Tryz.ntmps76
    go_wp2_with fail
    refine I1.out.mono ?_
    clear I1
    rintro e w1 ⟨rfl, rfl⟩
    go_wp2
    go_ret
    exact ⟨rfl, Below.refl _ _⟩
  · rw [h1] at I1
    have hg := isG_true h1
    have hT := tmod_range n
    have hN : nextA g n = (g + n.tmod 256) % 256 := by
      rw [nextA_in n hg]
      have h := Int.tmod_eq_emod (a := n) (b := 256)
      split at h
      · rw [h]; omega
      · rw [h]; simp; omega
    have A := Hid.intro (around_any (g + n.tmod 256) w)
    rw [← hN] at A
    generalize nextA g n = R at A ⊢
    clear h1 hN
    go_enter Tryz.func76, Tryz.ntmps76
    go_wp2_with fail
    refine I1.out.mono ?_
    clear I1
    rintro e w1 ⟨rfl, rfl⟩
    go_wp2_with fail
    refine A.out.mono ?_
    clear A
    rintro e w1 ⟨rfl, rfl⟩
    go_wp2
    go_ret
    exact ⟨rfl, Below.refl _ _⟩

end Go.Proofs.YthhggjakenalpaaGreatDoor

/- Contracts of package seq: a base's far. -/
namespace Go.Proofs.YthhggjakenalpaaGreatDoor
set_option maxRecDepth 100000
open Go.RowKit
open Bt

/-- A base's far, of a group. -/
theorem ofar_any (b g : Int) (hb : 0 ≤ b ∧ b ≤ 255) (hg : 0 ≤ g ∧ g ≤ 255) (w : World) :
    Calls Tryz.prog 140 #[.int .i64 b, .int .i64 g] w fun e w' => e = .returned (.int .i64 ((g - b) % 256)) ∧ w = w' := by
  have A := Hid.intro (around_any (g - b) w)
  go_enter Tryz.func140, Tryz.ntmps140
  go_wp2_with fail
  refine A.out.mono ?_
  clear A
  rintro e w1 ⟨rfl, rfl⟩
  go_wp2
  go_ret
  exact ⟨rfl, rfl⟩

end Go.Proofs.YthhggjakenalpaaGreatDoor

/- Contracts of package seq: Open, Behind: a method value of a base that is handed on. -/
namespace Go.Proofs.YthhggjakenalpaaGreatDoor
set_option maxRecDepth 100000
open Go.RowKit
open Bt

theorem opens_any (b g : Int) (hb : 0 ≤ b ∧ b ≤ 255) (hg : 0 ≤ g ∧ g ≤ 255) (w : World) :
    Calls Tryz.prog 143 #[.int .i64 b, .int .i64 g] w fun e w' => e = .returned (.bool (openA b g)) ∧ w = w' := by
  have A := Hid.intro (ofar_any b g hb hg w)
  have e1 : openA b g = decide ((g - b) % 256 < 4) := by
    unfold openA
    rw [farA_in hb hg]
    have := Int.emod_nonneg (g - b) (show (256 : Int) ≠ 0 by decide)
    by_cases h : (g - b) % 256 < 4
    · simp [h, this]; omega
    · simp [h]; omega
  rw [e1]
  clear e1
  generalize (g - b) % 256 = d at A ⊢
  clear hb hg
  go_enter Tryz.func143, Tryz.ntmps143
  go_wp2_with fail
  refine A.out.mono ?_
  clear A
  rintro e w1 ⟨rfl, rfl⟩
  go_wp2
  go_ret
  exact ⟨rfl, rfl⟩

theorem passed_any (b g : Int) (hb : 0 ≤ b ∧ b ≤ 255) (hg : 0 ≤ g ∧ g ≤ 255) (w : World) :
    Calls Tryz.prog 142 #[.int .i64 b, .int .i64 g] w fun e w' => e = .returned (.bool (behindA b g)) ∧ w = w' := by
  have A := Hid.intro (ofar_any b g hb hg w)
  have e1 : behindA b g = decide (128 ≤ (g - b) % 256) := by
    unfold behindA
    rw [farA_in hb hg]
  rw [e1]
  clear e1
  generalize (g - b) % 256 = d at A ⊢
  clear hb hg
  go_enter Tryz.func142, Tryz.ntmps142
  go_wp2_with fail
  refine A.out.mono ?_
  clear A
  rintro e w1 ⟨rfl, rfl⟩
  go_wp2
  go_ret
  exact ⟨rfl, rfl⟩

/-- A test that is handed on as a base's method value: it is asked of groups alone. -/
theorem passes_any (F : Nat) (hf : F = 143 ∨ F = 142) (b g : Int) (R : Bool) (w : World)
    (hF : isG b = true → isG g = true → Calls Tryz.prog F #[.int .i64 b, .int .i64 g] w fun e w' => e = .returned (.bool R) ∧ w = w')
    (hb : isG b = false → R = false) (hg : isG g = false → R = false) :
    Calls Tryz.prog 141 #[.int .i64 b, .int .i64 g, .func (.func F) #[.int .i64 b] #[]] w fun e w' => e = .returned (.bool R) ∧ w = w' := by
  have I1 := Hid.intro (isGroup_any b w)
  have I2 := Hid.intro (isGroup_any g w)
  rcases h1 : isG b with _ | _
  · rw [h1] at I1
    obtain rfl : R = false := hb h1
    clear I2 h1 hF hb hg hf
    go_enter Tryz.func141, Tryz.ntmps141
    go_wp2_with fail
    refine I1.out.mono ?_
    clear I1
    rintro e w1 ⟨rfl, rfl⟩
    go_wp2
    go_ret
    exact ⟨rfl, rfl⟩
  · rw [h1] at I1
    rcases h2 : isG g with _ | _
    · rw [h2] at I2
      obtain rfl : R = false := hg h2
      clear h1 h2 hF hb hg hf
      go_enter Tryz.func141, Tryz.ntmps141
      go_wp2_with fail
      refine I1.out.mono ?_
      clear I1
      rintro e w1 ⟨rfl, rfl⟩
      go_wp2_with fail
      refine I2.out.mono ?_
      clear I2
      rintro e w1 ⟨rfl, rfl⟩
      go_wp2
      go_ret
      exact ⟨rfl, rfl⟩
    · rw [h2] at I2
      have A := Hid.intro (hF h1 h2)
      clear h1 h2 hF hb hg
      rcases hf with rfl | rfl
      · go_enter Tryz.func141, Tryz.ntmps141
        go_wp2_with fail
        refine I1.out.mono ?_
        clear I1
        rintro e w1 ⟨rfl, rfl⟩
        go_wp2_with fail
        refine I2.out.mono ?_
        clear I2
        rintro e w1 ⟨rfl, rfl⟩
        go_wp2_with fail
        refine A.out.mono ?_
        clear A
        rintro e w1 ⟨rfl, rfl⟩
        go_wp2
        go_ret
        exact ⟨rfl, rfl⟩
      · go_enter Tryz.func141, Tryz.ntmps141
        go_wp2_with fail
        refine I1.out.mono ?_
        clear I1
        rintro e w1 ⟨rfl, rfl⟩
        go_wp2_with fail
        refine I2.out.mono ?_
        clear I2
        rintro e w1 ⟨rfl, rfl⟩
        go_wp2_with fail
        refine A.out.mono ?_
        clear A
        rintro e w1 ⟨rfl, rfl⟩
        go_wp2
        go_ret
        exact ⟨rfl, rfl⟩

theorem farA_no {b g : Int} (h : isG b = false ∨ isG g = false) : farA b g = -1 := by
  unfold farA
  rw [if_neg]
  rintro ⟨h1, h2⟩
  rcases h with h | h
  · rw [h] at h1; cases h1
  · rw [h] at h2; cases h2

theorem openA_no {b g : Int} (h : isG b = false ∨ isG g = false) : openA b g = false := by
  unfold openA; rw [farA_no h]; rfl

theorem behindA_no {b g : Int} (h : isG b = false ∨ isG g = false) : behindA b g = false := by
  unfold behindA; rw [farA_no h]; rfl

theorem sopen_any (b g : Int) (w : World) :
    Calls Tryz.prog 106 #[.int .i64 b, .int .i64 g] w fun e w' => e = .returned (.bool (openA b g)) ∧ Below w.heap.size w w' := by
  have A := Hid.intro (passes_any 143 (.inl rfl) b g (openA b g) w (fun h1 h2 => opens_any b g (isG_true h1) (isG_true h2) w) (fun h => openA_no (.inl h)) (fun h => openA_no (.inr h)))
  generalize openA b g = R at A ⊢
  go_enter Tryz.func106, Tryz.ntmps106
  go_wp2_with fail
  refine A.out.mono ?_
  clear A
  rintro e w1 ⟨rfl, rfl⟩
  go_wp2
  go_ret
  exact ⟨rfl, Below.refl _ _⟩

theorem sbehind_any (b g : Int) (w : World) :
    Calls Tryz.prog 105 #[.int .i64 b, .int .i64 g] w fun e w' => e = .returned (.bool (behindA b g)) ∧ Below w.heap.size w w' := by
  have A := Hid.intro (passes_any 142 (.inr rfl) b g (behindA b g) w (fun h1 h2 => passed_any b g (isG_true h1) (isG_true h2) w) (fun h => behindA_no (.inl h)) (fun h => behindA_no (.inr h)))
  generalize behindA b g = R at A ⊢
  go_enter Tryz.func105, Tryz.ntmps105
  go_wp2_with fail
  refine A.out.mono ?_
  clear A
  rintro e w1 ⟨rfl, rfl⟩
  go_wp2
  go_ret
  exact ⟨rfl, Below.refl _ _⟩

end Go.Proofs.YthhggjakenalpaaGreatDoor

/- Contracts of package seq: Far. -/
namespace Go.Proofs.YthhggjakenalpaaGreatDoor
set_option maxRecDepth 100000
open Go.RowKit
open Bt

theorem sfar_any (b g : Int) (w : World) :
    Calls Tryz.prog 104 #[.int .i64 b, .int .i64 g] w fun e w' => e = .returned (.int .i64 (farA b g)) ∧ Below w.heap.size w w' := by
  have I1 := Hid.intro (isGroup_any b w)
  have I2 := Hid.intro (isGroup_any g w)
  rcases h1 : isG b with _ | _
  · rw [h1] at I1
    rw [show farA b g = -1 from by unfold farA; rw [if_neg (by rw [h1]; simp)]]
    clear I2 h1
    go_enter Tryz.func104, Tryz.ntmps104
    go_wp2_with fail
    refine I1.out.mono ?_
    clear I1
    rintro e w1 ⟨rfl, rfl⟩
    go_wp2
    go_ret
    exact ⟨rfl, Below.refl _ _⟩
  · rw [h1] at I1
    rcases h2 : isG g with _ | _
    · rw [h2] at I2
      rw [show farA b g = -1 from by unfold farA; rw [if_neg (by rw [h2]; simp)]]
      clear h1 h2
      go_enter Tryz.func104, Tryz.ntmps104
      go_wp2_with fail
      refine I1.out.mono ?_
      clear I1
      rintro e w1 ⟨rfl, rfl⟩
      go_wp2_with fail
      refine I2.out.mono ?_
      clear I2
      rintro e w1 ⟨rfl, rfl⟩
      go_wp2
      go_ret
      exact ⟨rfl, Below.refl _ _⟩
    · rw [h2] at I2
      have A := Hid.intro (ofar_any b g (isG_true h1) (isG_true h2) w)
      rw [← farA_in (isG_true h1) (isG_true h2)] at A
      generalize farA b g = R at A ⊢
      clear h1 h2
      go_enter Tryz.func104, Tryz.ntmps104
      go_wp2_with fail
      refine I1.out.mono ?_
      clear I1
      rintro e w1 ⟨rfl, rfl⟩
      go_wp2_with fail
      refine I2.out.mono ?_
      clear I2
      rintro e w1 ⟨rfl, rfl⟩
      go_wp2_with fail
      refine A.out.mono ?_
      clear A
      rintro e w1 ⟨rfl, rfl⟩
      go_wp2
      go_ret
      exact ⟨rfl, Below.refl _ _⟩

end Go.Proofs.YthhggjakenalpaaGreatDoor
