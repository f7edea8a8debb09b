/- SeqMakes: whatever numbers come in, it returns true: every sequence number, and its group and place, are the document's; no condition. -/
import Derived.Test.YtonlhddcdipgjaaArgs
import Derived.Test.YtonlhddcdipgjaaSqAlive
import Derived.Test.YtonlhddcdipgjaaRefSix
namespace Go.Proofs.Ytonlhddcdipgjaa.LSeqMakes
open Go.ChangeShapes Go.WideShapes Go.ChangeAt Go.RowKit
open Bt

set_option maxHeartbeats 1000000 in
theorem walk_g0_n0 (g p n : Int) (w : World) (h : isG g = false) (hn : n < 0) :
    Calls Try.prog 3 #[.int .i64 g, .int .i64 p, .int .i64 n] w fun e w' => e = .returned (.bool true) ∧ Below w.heap.size w w' := by
  have em : isM g p = false := by unfold isM; rw [h]; rfl
  have ek : makeA g p = 0 := by unfold makeA; rw [em]; rfl
  have es : isS n = false := by simp [isS]; omega
  have eg : splitG n = 0 := by unfold splitG; rw [es]; rfl
  have ep : splitP n = 0 := by unfold splitP; rw [es]; rfl
  have C1 := Hid.intro (fun w => smake_any g p w)
  have C2 := Hid.intro (fun w => refIs_any g w)
  have C3 := Hid.intro (fun w => ssplit_any n w)
  rw [em, ek] at C1
  rw [h] at C2
  rw [es, eg, ep] at C3
  clear h em ek es eg ep
  go_enter Try.func3, Try.ntmps3
  have D0 := Below.refl w.heap.size w
  have S1 := Hid.intro (alive_any w)
  go_wp2_with fail
  refine S1.out.mono ?_
  clear S1
  rintro e w1 ⟨rfl, B1⟩
  have D1 := D0.trans (B1.mono D0.size)
  clear B1 D0
  have S2 := Hid.intro (C1.out w1)
  go_wp2_with fail
  refine S2.out.mono ?_
  clear S2
  rintro e w2 ⟨rfl, B2⟩
  have D2 := D1.trans (B2.mono D1.size)
  clear B2 D1
  go_wp2_with fail
  refine (C2.out w2).mono ?_
  rintro e w2b ⟨rfl, rfl⟩
  have S3 := Hid.intro (C3.out w2)
  go_wp2_with fail
  refine S3.out.mono ?_
  clear S3
  rintro e w3 ⟨rfl, B3⟩
  have D3 := D2.trans (B3.mono D2.size)
  clear B3 D2
  go_wp2
  go_ret
  exact ⟨rfl, D3⟩

set_option maxHeartbeats 1000000 in
theorem walk_g0_n1 (g p n : Int) (w : World) (h : isG g = false) (hn : 0 ≤ n) (hn1 : 4095 < n) :
    Calls Try.prog 3 #[.int .i64 g, .int .i64 p, .int .i64 n] w fun e w' => e = .returned (.bool true) ∧ Below w.heap.size w w' := by
  have em : isM g p = false := by unfold isM; rw [h]; rfl
  have ek : makeA g p = 0 := by unfold makeA; rw [em]; rfl
  have es : isS n = false := by simp [isS]; omega
  have eg : splitG n = 0 := by unfold splitG; rw [es]; rfl
  have ep : splitP n = 0 := by unfold splitP; rw [es]; rfl
  have C1 := Hid.intro (fun w => smake_any g p w)
  have C2 := Hid.intro (fun w => refIs_any g w)
  have C3 := Hid.intro (fun w => ssplit_any n w)
  rw [em, ek] at C1
  rw [h] at C2
  rw [es, eg, ep] at C3
  clear h em ek es eg ep
  go_enter Try.func3, Try.ntmps3
  have D0 := Below.refl w.heap.size w
  have S1 := Hid.intro (alive_any w)
  go_wp2_with fail
  refine S1.out.mono ?_
  clear S1
  rintro e w1 ⟨rfl, B1⟩
  have D1 := D0.trans (B1.mono D0.size)
  clear B1 D0
  have S2 := Hid.intro (C1.out w1)
  go_wp2_with fail
  refine S2.out.mono ?_
  clear S2
  rintro e w2 ⟨rfl, B2⟩
  have D2 := D1.trans (B2.mono D1.size)
  clear B2 D1
  go_wp2_with fail
  refine (C2.out w2).mono ?_
  rintro e w2b ⟨rfl, rfl⟩
  have S3 := Hid.intro (C3.out w2)
  go_wp2_with fail
  refine S3.out.mono ?_
  clear S3
  rintro e w3 ⟨rfl, B3⟩
  have D3 := D2.trans (B3.mono D2.size)
  clear B3 D2
  go_wp2
  go_ret
  exact ⟨rfl, D3⟩

set_option maxHeartbeats 1000000 in
theorem walk_g0_ok (g p n : Int) (w : World) (h : isG g = false) (hn : 0 ≤ n) (hn1 : n ≤ 4095) :
    Calls Try.prog 3 #[.int .i64 g, .int .i64 p, .int .i64 n] w fun e w' => e = .returned (.bool true) ∧ Below w.heap.size w w' := by
  have em : isM g p = false := by unfold isM; rw [h]; rfl
  have ek : makeA g p = 0 := by unfold makeA; rw [em]; rfl
  have es : isS n = true := by simp [isS]; omega
  have eg : splitG n = n / 16 := by unfold splitG; rw [es]; rfl
  have ep : splitP n = n % 16 := by unfold splitP; rw [es]; rfl
  have C1 := Hid.intro (fun w => smake_any g p w)
  have C2 := Hid.intro (fun w => refIs_any g w)
  have C3 := Hid.intro (fun w => ssplit_any n w)
  rw [em, ek] at C1
  rw [h] at C2
  rw [es, eg, ep] at C3
  obtain ⟨Q, hQ⟩ : ∃ Q : Int, Q = n / 16 := ⟨_, rfl⟩
  obtain ⟨P, hP⟩ : ∃ P : Int, P = n % 16 := ⟨_, rfl⟩
  rw [← hQ, ← hP] at C3
  have b1 : 0 ≤ Q ∧ Q ≤ 255 := by omega
  have b2 : 0 ≤ P ∧ P ≤ 15 := by omega
  have b3 : 16 * Q + P = n := by omega
  have b4 : (16 * Q + P == n) = true := by rw [b3]; simp
  obtain ⟨b5, b6⟩ := b2
  clear hQ hP b3
  clear h em ek es eg ep
  go_enter Try.func3, Try.ntmps3
  have D0 := Below.refl w.heap.size w
  have S1 := Hid.intro (alive_any w)
  go_wp2_with fail
  refine S1.out.mono ?_
  clear S1
  rintro e w1 ⟨rfl, B1⟩
  have D1 := D0.trans (B1.mono D0.size)
  clear B1 D0
  have S2 := Hid.intro (C1.out w1)
  go_wp2_with fail
  refine S2.out.mono ?_
  clear S2
  rintro e w2 ⟨rfl, B2⟩
  have D2 := D1.trans (B2.mono D1.size)
  clear B2 D1
  go_wp2_with fail
  refine (C2.out w2).mono ?_
  rintro e w2b ⟨rfl, rfl⟩
  have S3 := Hid.intro (C3.out w2)
  go_wp2_with fail
  refine S3.out.mono ?_
  clear S3
  rintro e w3 ⟨rfl, B3⟩
  have D3 := D2.trans (B3.mono D2.size)
  clear B3 D2
  go_wp2
  go_ret
  exact ⟨rfl, D3⟩

set_option maxHeartbeats 1000000 in
theorem walk_p0_n0 (g p n : Int) (w : World) (h : isG g = true) (hp : p < 0) (hn : n < 0) :
    Calls Try.prog 3 #[.int .i64 g, .int .i64 p, .int .i64 n] w fun e w' => e = .returned (.bool true) ∧ Below w.heap.size w w' := by
  have em : isM g p = false := by unfold isM; rw [h]; simp; omega
  have ek : makeA g p = 0 := by unfold makeA; rw [em]; rfl
  have es : isS n = false := by simp [isS]; omega
  have eg : splitG n = 0 := by unfold splitG; rw [es]; rfl
  have ep : splitP n = 0 := by unfold splitP; rw [es]; rfl
  have C1 := Hid.intro (fun w => smake_any g p w)
  have C2 := Hid.intro (fun w => refIs_any g w)
  have C3 := Hid.intro (fun w => ssplit_any n w)
  rw [em, ek] at C1
  rw [h] at C2
  rw [es, eg, ep] at C3
  clear h em ek es eg ep
  go_enter Try.func3, Try.ntmps3
  have D0 := Below.refl w.heap.size w
  have S1 := Hid.intro (alive_any w)
  go_wp2_with fail
  refine S1.out.mono ?_
  clear S1
  rintro e w1 ⟨rfl, B1⟩
  have D1 := D0.trans (B1.mono D0.size)
  clear B1 D0
  have S2 := Hid.intro (C1.out w1)
  go_wp2_with fail
  refine S2.out.mono ?_
  clear S2
  rintro e w2 ⟨rfl, B2⟩
  have D2 := D1.trans (B2.mono D1.size)
  clear B2 D1
  go_wp2_with fail
  refine (C2.out w2).mono ?_
  rintro e w2b ⟨rfl, rfl⟩
  have S3 := Hid.intro (C3.out w2)
  go_wp2_with fail
  refine S3.out.mono ?_
  clear S3
  rintro e w3 ⟨rfl, B3⟩
  have D3 := D2.trans (B3.mono D2.size)
  clear B3 D2
  go_wp2
  go_ret
  exact ⟨rfl, D3⟩

set_option maxHeartbeats 1000000 in
theorem walk_p0_n1 (g p n : Int) (w : World) (h : isG g = true) (hp : p < 0) (hn : 0 ≤ n) (hn1 : 4095 < n) :
    Calls Try.prog 3 #[.int .i64 g, .int .i64 p, .int .i64 n] w fun e w' => e = .returned (.bool true) ∧ Below w.heap.size w w' := by
  have em : isM g p = false := by unfold isM; rw [h]; simp; omega
  have ek : makeA g p = 0 := by unfold makeA; rw [em]; rfl
  have es : isS n = false := by simp [isS]; omega
  have eg : splitG n = 0 := by unfold splitG; rw [es]; rfl
  have ep : splitP n = 0 := by unfold splitP; rw [es]; rfl
  have C1 := Hid.intro (fun w => smake_any g p w)
  have C2 := Hid.intro (fun w => refIs_any g w)
  have C3 := Hid.intro (fun w => ssplit_any n w)
  rw [em, ek] at C1
  rw [h] at C2
  rw [es, eg, ep] at C3
  clear h em ek es eg ep
  go_enter Try.func3, Try.ntmps3
  have D0 := Below.refl w.heap.size w
  have S1 := Hid.intro (alive_any w)
  go_wp2_with fail
  refine S1.out.mono ?_
  clear S1
  rintro e w1 ⟨rfl, B1⟩
  have D1 := D0.trans (B1.mono D0.size)
  clear B1 D0
  have S2 := Hid.intro (C1.out w1)
  go_wp2_with fail
  refine S2.out.mono ?_
  clear S2
  rintro e w2 ⟨rfl, B2⟩
  have D2 := D1.trans (B2.mono D1.size)
  clear B2 D1
  go_wp2_with fail
  refine (C2.out w2).mono ?_
  rintro e w2b ⟨rfl, rfl⟩
  have S3 := Hid.intro (C3.out w2)
  go_wp2_with fail
  refine S3.out.mono ?_
  clear S3
  rintro e w3 ⟨rfl, B3⟩
  have D3 := D2.trans (B3.mono D2.size)
  clear B3 D2
  go_wp2
  go_ret
  exact ⟨rfl, D3⟩

set_option maxHeartbeats 1000000 in
theorem walk_p0_ok (g p n : Int) (w : World) (h : isG g = true) (hp : p < 0) (hn : 0 ≤ n) (hn1 : n ≤ 4095) :
    Calls Try.prog 3 #[.int .i64 g, .int .i64 p, .int .i64 n] w fun e w' => e = .returned (.bool true) ∧ Below w.heap.size w w' := by
  have em : isM g p = false := by unfold isM; rw [h]; simp; omega
  have ek : makeA g p = 0 := by unfold makeA; rw [em]; rfl
  have es : isS n = true := by simp [isS]; omega
  have eg : splitG n = n / 16 := by unfold splitG; rw [es]; rfl
  have ep : splitP n = n % 16 := by unfold splitP; rw [es]; rfl
  have C1 := Hid.intro (fun w => smake_any g p w)
  have C2 := Hid.intro (fun w => refIs_any g w)
  have C3 := Hid.intro (fun w => ssplit_any n w)
  rw [em, ek] at C1
  rw [h] at C2
  rw [es, eg, ep] at C3
  obtain ⟨Q, hQ⟩ : ∃ Q : Int, Q = n / 16 := ⟨_, rfl⟩
  obtain ⟨P, hP⟩ : ∃ P : Int, P = n % 16 := ⟨_, rfl⟩
  rw [← hQ, ← hP] at C3
  have b1 : 0 ≤ Q ∧ Q ≤ 255 := by omega
  have b2 : 0 ≤ P ∧ P ≤ 15 := by omega
  have b3 : 16 * Q + P = n := by omega
  have b4 : (16 * Q + P == n) = true := by rw [b3]; simp
  obtain ⟨b5, b6⟩ := b2
  clear hQ hP b3
  clear h em ek es eg ep
  go_enter Try.func3, Try.ntmps3
  have D0 := Below.refl w.heap.size w
  have S1 := Hid.intro (alive_any w)
  go_wp2_with fail
  refine S1.out.mono ?_
  clear S1
  rintro e w1 ⟨rfl, B1⟩
  have D1 := D0.trans (B1.mono D0.size)
  clear B1 D0
  have S2 := Hid.intro (C1.out w1)
  go_wp2_with fail
  refine S2.out.mono ?_
  clear S2
  rintro e w2 ⟨rfl, B2⟩
  have D2 := D1.trans (B2.mono D1.size)
  clear B2 D1
  go_wp2_with fail
  refine (C2.out w2).mono ?_
  rintro e w2b ⟨rfl, rfl⟩
  have S3 := Hid.intro (C3.out w2)
  go_wp2_with fail
  refine S3.out.mono ?_
  clear S3
  rintro e w3 ⟨rfl, B3⟩
  have D3 := D2.trans (B3.mono D2.size)
  clear B3 D2
  go_wp2
  go_ret
  exact ⟨rfl, D3⟩

set_option maxHeartbeats 1000000 in
theorem walk_p1_n0 (g p n : Int) (w : World) (h : isG g = true) (hp : 0 ≤ p) (hp1 : 15 < p) (hn : n < 0) :
    Calls Try.prog 3 #[.int .i64 g, .int .i64 p, .int .i64 n] w fun e w' => e = .returned (.bool true) ∧ Below w.heap.size w w' := by
  have em : isM g p = false := by unfold isM; rw [h]; simp; omega
  have ek : makeA g p = 0 := by unfold makeA; rw [em]; rfl
  have es : isS n = false := by simp [isS]; omega
  have eg : splitG n = 0 := by unfold splitG; rw [es]; rfl
  have ep : splitP n = 0 := by unfold splitP; rw [es]; rfl
  have C1 := Hid.intro (fun w => smake_any g p w)
  have C2 := Hid.intro (fun w => refIs_any g w)
  have C3 := Hid.intro (fun w => ssplit_any n w)
  rw [em, ek] at C1
  rw [h] at C2
  rw [es, eg, ep] at C3
  clear h em ek es eg ep
  go_enter Try.func3, Try.ntmps3
  have D0 := Below.refl w.heap.size w
  have S1 := Hid.intro (alive_any w)
  go_wp2_with fail
  refine S1.out.mono ?_
  clear S1
  rintro e w1 ⟨rfl, B1⟩
  have D1 := D0.trans (B1.mono D0.size)
  clear B1 D0
  have S2 := Hid.intro (C1.out w1)
  go_wp2_with fail
  refine S2.out.mono ?_
  clear S2
  rintro e w2 ⟨rfl, B2⟩
  have D2 := D1.trans (B2.mono D1.size)
  clear B2 D1
  go_wp2_with fail
  refine (C2.out w2).mono ?_
  rintro e w2b ⟨rfl, rfl⟩
  have S3 := Hid.intro (C3.out w2)
  go_wp2_with fail
  refine S3.out.mono ?_
  clear S3
  rintro e w3 ⟨rfl, B3⟩
  have D3 := D2.trans (B3.mono D2.size)
  clear B3 D2
  go_wp2
  go_ret
  exact ⟨rfl, D3⟩

set_option maxHeartbeats 1000000 in
theorem walk_p1_n1 (g p n : Int) (w : World) (h : isG g = true) (hp : 0 ≤ p) (hp1 : 15 < p) (hn : 0 ≤ n) (hn1 : 4095 < n) :
    Calls Try.prog 3 #[.int .i64 g, .int .i64 p, .int .i64 n] w fun e w' => e = .returned (.bool true) ∧ Below w.heap.size w w' := by
  have em : isM g p = false := by unfold isM; rw [h]; simp; omega
  have ek : makeA g p = 0 := by unfold makeA; rw [em]; rfl
  have es : isS n = false := by simp [isS]; omega
  have eg : splitG n = 0 := by unfold splitG; rw [es]; rfl
  have ep : splitP n = 0 := by unfold splitP; rw [es]; rfl
  have C1 := Hid.intro (fun w => smake_any g p w)
  have C2 := Hid.intro (fun w => refIs_any g w)
  have C3 := Hid.intro (fun w => ssplit_any n w)
  rw [em, ek] at C1
  rw [h] at C2
  rw [es, eg, ep] at C3
  clear h em ek es eg ep
  go_enter Try.func3, Try.ntmps3
  have D0 := Below.refl w.heap.size w
  have S1 := Hid.intro (alive_any w)
  go_wp2_with fail
  refine S1.out.mono ?_
  clear S1
  rintro e w1 ⟨rfl, B1⟩
  have D1 := D0.trans (B1.mono D0.size)
  clear B1 D0
  have S2 := Hid.intro (C1.out w1)
  go_wp2_with fail
  refine S2.out.mono ?_
  clear S2
  rintro e w2 ⟨rfl, B2⟩
  have D2 := D1.trans (B2.mono D1.size)
  clear B2 D1
  go_wp2_with fail
  refine (C2.out w2).mono ?_
  rintro e w2b ⟨rfl, rfl⟩
  have S3 := Hid.intro (C3.out w2)
  go_wp2_with fail
  refine S3.out.mono ?_
  clear S3
  rintro e w3 ⟨rfl, B3⟩
  have D3 := D2.trans (B3.mono D2.size)
  clear B3 D2
  go_wp2
  go_ret
  exact ⟨rfl, D3⟩

set_option maxHeartbeats 1000000 in
theorem walk_p1_ok (g p n : Int) (w : World) (h : isG g = true) (hp : 0 ≤ p) (hp1 : 15 < p) (hn : 0 ≤ n) (hn1 : n ≤ 4095) :
    Calls Try.prog 3 #[.int .i64 g, .int .i64 p, .int .i64 n] w fun e w' => e = .returned (.bool true) ∧ Below w.heap.size w w' := by
  have em : isM g p = false := by unfold isM; rw [h]; simp; omega
  have ek : makeA g p = 0 := by unfold makeA; rw [em]; rfl
  have es : isS n = true := by simp [isS]; omega
  have eg : splitG n = n / 16 := by unfold splitG; rw [es]; rfl
  have ep : splitP n = n % 16 := by unfold splitP; rw [es]; rfl
  have C1 := Hid.intro (fun w => smake_any g p w)
  have C2 := Hid.intro (fun w => refIs_any g w)
  have C3 := Hid.intro (fun w => ssplit_any n w)
  rw [em, ek] at C1
  rw [h] at C2
  rw [es, eg, ep] at C3
  obtain ⟨Q, hQ⟩ : ∃ Q : Int, Q = n / 16 := ⟨_, rfl⟩
  obtain ⟨P, hP⟩ : ∃ P : Int, P = n % 16 := ⟨_, rfl⟩
  rw [← hQ, ← hP] at C3
  have b1 : 0 ≤ Q ∧ Q ≤ 255 := by omega
  have b2 : 0 ≤ P ∧ P ≤ 15 := by omega
  have b3 : 16 * Q + P = n := by omega
  have b4 : (16 * Q + P == n) = true := by rw [b3]; simp
  obtain ⟨b5, b6⟩ := b2
  clear hQ hP b3
  clear h em ek es eg ep
  go_enter Try.func3, Try.ntmps3
  have D0 := Below.refl w.heap.size w
  have S1 := Hid.intro (alive_any w)
  go_wp2_with fail
  refine S1.out.mono ?_
  clear S1
  rintro e w1 ⟨rfl, B1⟩
  have D1 := D0.trans (B1.mono D0.size)
  clear B1 D0
  have S2 := Hid.intro (C1.out w1)
  go_wp2_with fail
  refine S2.out.mono ?_
  clear S2
  rintro e w2 ⟨rfl, B2⟩
  have D2 := D1.trans (B2.mono D1.size)
  clear B2 D1
  go_wp2_with fail
  refine (C2.out w2).mono ?_
  rintro e w2b ⟨rfl, rfl⟩
  have S3 := Hid.intro (C3.out w2)
  go_wp2_with fail
  refine S3.out.mono ?_
  clear S3
  rintro e w3 ⟨rfl, B3⟩
  have D3 := D2.trans (B3.mono D2.size)
  clear B3 D2
  go_wp2
  go_ret
  exact ⟨rfl, D3⟩

set_option maxHeartbeats 1000000 in
theorem walk_ok_n0 (g p n : Int) (w : World) (h : isG g = true) (hp : 0 ≤ p) (hp1 : p ≤ 15) (hn : n < 0) :
    Calls Try.prog 3 #[.int .i64 g, .int .i64 p, .int .i64 n] w fun e w' => e = .returned (.bool true) ∧ Below w.heap.size w w' := by
  have em : isM g p = true := by unfold isM; rw [h]; simp; omega
  have ek : makeA g p = g * 16 + p := by unfold makeA; rw [em]; rfl
  have es : isS n = false := by simp [isS]; omega
  have eg : splitG n = 0 := by unfold splitG; rw [es]; rfl
  have ep : splitP n = 0 := by unfold splitP; rw [es]; rfl
  have C1 := Hid.intro (fun w => smake_any g p w)
  have C2 := Hid.intro (fun w => refIs_any g w)
  have C3 := Hid.intro (fun w => ssplit_any n w)
  rw [em, ek] at C1
  rw [h] at C2
  rw [es, eg, ep] at C3
  have hg := isG_true h
  have hkk : ((g * 16 + p : Int) != g * 16 + p) = false := by simp
  clear h em ek es eg ep
  go_enter Try.func3, Try.ntmps3
  have D0 := Below.refl w.heap.size w
  have S1 := Hid.intro (alive_any w)
  go_wp2_with fail
  refine S1.out.mono ?_
  clear S1
  rintro e w1 ⟨rfl, B1⟩
  have D1 := D0.trans (B1.mono D0.size)
  clear B1 D0
  have S2 := Hid.intro (C1.out w1)
  go_wp2_with fail
  refine S2.out.mono ?_
  clear S2
  rintro e w2 ⟨rfl, B2⟩
  have D2 := D1.trans (B2.mono D1.size)
  clear B2 D1
  go_wp2_with fail
  refine (C2.out w2).mono ?_
  rintro e w2b ⟨rfl, rfl⟩
  have S3 := Hid.intro (C3.out w2)
  go_wp2_with fail
  refine S3.out.mono ?_
  clear S3
  rintro e w3 ⟨rfl, B3⟩
  have D3 := D2.trans (B3.mono D2.size)
  clear B3 D2
  go_wp2
  go_ret
  exact ⟨rfl, D3⟩

set_option maxHeartbeats 1000000 in
theorem walk_ok_n1 (g p n : Int) (w : World) (h : isG g = true) (hp : 0 ≤ p) (hp1 : p ≤ 15) (hn : 0 ≤ n) (hn1 : 4095 < n) :
    Calls Try.prog 3 #[.int .i64 g, .int .i64 p, .int .i64 n] w fun e w' => e = .returned (.bool true) ∧ Below w.heap.size w w' := by
  have em : isM g p = true := by unfold isM; rw [h]; simp; omega
  have ek : makeA g p = g * 16 + p := by unfold makeA; rw [em]; rfl
  have es : isS n = false := by simp [isS]; omega
  have eg : splitG n = 0 := by unfold splitG; rw [es]; rfl
  have ep : splitP n = 0 := by unfold splitP; rw [es]; rfl
  have C1 := Hid.intro (fun w => smake_any g p w)
  have C2 := Hid.intro (fun w => refIs_any g w)
  have C3 := Hid.intro (fun w => ssplit_any n w)
  rw [em, ek] at C1
  rw [h] at C2
  rw [es, eg, ep] at C3
  have hg := isG_true h
  have hkk : ((g * 16 + p : Int) != g * 16 + p) = false := by simp
  clear h em ek es eg ep
  go_enter Try.func3, Try.ntmps3
  have D0 := Below.refl w.heap.size w
  have S1 := Hid.intro (alive_any w)
  go_wp2_with fail
  refine S1.out.mono ?_
  clear S1
  rintro e w1 ⟨rfl, B1⟩
  have D1 := D0.trans (B1.mono D0.size)
  clear B1 D0
  have S2 := Hid.intro (C1.out w1)
  go_wp2_with fail
  refine S2.out.mono ?_
  clear S2
  rintro e w2 ⟨rfl, B2⟩
  have D2 := D1.trans (B2.mono D1.size)
  clear B2 D1
  go_wp2_with fail
  refine (C2.out w2).mono ?_
  rintro e w2b ⟨rfl, rfl⟩
  have S3 := Hid.intro (C3.out w2)
  go_wp2_with fail
  refine S3.out.mono ?_
  clear S3
  rintro e w3 ⟨rfl, B3⟩
  have D3 := D2.trans (B3.mono D2.size)
  clear B3 D2
  go_wp2
  go_ret
  exact ⟨rfl, D3⟩

set_option maxHeartbeats 1000000 in
theorem walk_ok_ok (g p n : Int) (w : World) (h : isG g = true) (hp : 0 ≤ p) (hp1 : p ≤ 15) (hn : 0 ≤ n) (hn1 : n ≤ 4095) :
    Calls Try.prog 3 #[.int .i64 g, .int .i64 p, .int .i64 n] w fun e w' => e = .returned (.bool true) ∧ Below w.heap.size w w' := by
  have em : isM g p = true := by unfold isM; rw [h]; simp; omega
  have ek : makeA g p = g * 16 + p := by unfold makeA; rw [em]; rfl
  have es : isS n = true := by simp [isS]; omega
  have eg : splitG n = n / 16 := by unfold splitG; rw [es]; rfl
  have ep : splitP n = n % 16 := by unfold splitP; rw [es]; rfl
  have C1 := Hid.intro (fun w => smake_any g p w)
  have C2 := Hid.intro (fun w => refIs_any g w)
  have C3 := Hid.intro (fun w => ssplit_any n w)
  rw [em, ek] at C1
  rw [h] at C2
  rw [es, eg, ep] at C3
  have hg := isG_true h
  have hkk : ((g * 16 + p : Int) != g * 16 + p) = false := by simp
  obtain ⟨Q, hQ⟩ : ∃ Q : Int, Q = n / 16 := ⟨_, rfl⟩
  obtain ⟨P, hP⟩ : ∃ P : Int, P = n % 16 := ⟨_, rfl⟩
  rw [← hQ, ← hP] at C3
  have b1 : 0 ≤ Q ∧ Q ≤ 255 := by omega
  have b2 : 0 ≤ P ∧ P ≤ 15 := by omega
  have b3 : 16 * Q + P = n := by omega
  have b4 : (16 * Q + P == n) = true := by rw [b3]; simp
  obtain ⟨b5, b6⟩ := b2
  clear hQ hP b3
  clear h em ek es eg ep
  go_enter Try.func3, Try.ntmps3
  have D0 := Below.refl w.heap.size w
  have S1 := Hid.intro (alive_any w)
  go_wp2_with fail
  refine S1.out.mono ?_
  clear S1
  rintro e w1 ⟨rfl, B1⟩
  have D1 := D0.trans (B1.mono D0.size)
  clear B1 D0
  have S2 := Hid.intro (C1.out w1)
  go_wp2_with fail
  refine S2.out.mono ?_
  clear S2
  rintro e w2 ⟨rfl, B2⟩
  have D2 := D1.trans (B2.mono D1.size)
  clear B2 D1
  go_wp2_with fail
  refine (C2.out w2).mono ?_
  rintro e w2b ⟨rfl, rfl⟩
  have S3 := Hid.intro (C3.out w2)
  go_wp2_with fail
  refine S3.out.mono ?_
  clear S3
  rintro e w3 ⟨rfl, B3⟩
  have D3 := D2.trans (B3.mono D2.size)
  clear B3 D2
  go_wp2
  go_ret
  exact ⟨rfl, D3⟩

theorem walk (g p n : Int) (w : World) (_ : (Lit.int .i64 g).wf = true) (_ : (Lit.int .i64 p).wf = true) (_ : (Lit.int .i64 n).wf = true) :
    Calls Try.prog 3 #[.int .i64 g, .int .i64 p, .int .i64 n] w fun e w' => e = .returned (.bool true) ∧ Below w.heap.size w w' := by
  have key : (n < 0) ∨ (0 ≤ n ∧ 4095 < n) ∨ (0 ≤ n ∧ n ≤ 4095) := by omega
  rcases h : isG g with _ | _
  · rcases key with k | ⟨k, l⟩ | ⟨k, l⟩
    · exact walk_g0_n0 g p n w h k
    · exact walk_g0_n1 g p n w h k l
    · exact walk_g0_ok g p n w h k l
  · have kp : (p < 0) ∨ (0 ≤ p ∧ 15 < p) ∨ (0 ≤ p ∧ p ≤ 15) := by omega
    rcases kp with q | ⟨q, r⟩ | ⟨q, r⟩
    · rcases key with k | ⟨k, l⟩ | ⟨k, l⟩
      · exact walk_p0_n0 g p n w h q k
      · exact walk_p0_n1 g p n w h q k l
      · exact walk_p0_ok g p n w h q k l
    · rcases key with k | ⟨k, l⟩ | ⟨k, l⟩
      · exact walk_p1_n0 g p n w h q r k
      · exact walk_p1_n1 g p n w h q r k l
      · exact walk_p1_ok g p n w h q r k l
    · rcases key with k | ⟨k, l⟩ | ⟨k, l⟩
      · exact walk_ok_n0 g p n w h q r k
      · exact walk_ok_n1 g p n w h q r k l
      · exact walk_ok_ok g p n w h q r k l

set_option maxRecDepth 100000 in
theorem lifted (os : Os) (started : os.Started) (H : Type) (enc : TypeId × Value → H) :
    ReturnsInHanded {} Try.checked os 3 .any (Rows.seqMakesSpec.pre6 enc Try.prog Try.f3 Rows.seqMakesRow.domain false) (Rows.seqMakesSpec.post enc Try.prog Try.f3 false true false false) := by
  refine returnsInHanded_of_change (C := Try.checked) own started (by kernel_rfl) Try.func3
    (ChangeSpec.witness6 (enc := enc) (C := Try.checked) false ⟨#[], #[.int .i64 0, .int .i64 0, .int .i64 0], []⟩ 8 (by kernel_rfl) (by kernel_rfl) (by kernel_rfl) (by kernel_rfl)) ?_
  intro W base args ds gs before hval0 hW hcnd _
  have hval : ∀ (j : Nat) t v, Try.f3.params[j]? = some t → args[j]? = some v → Value.okWide Try.prog W .any base t v := hval0
  have hW' := hW
  obtain ⟨p, q, hA0, hV, rfl, hfz, hnd⟩ := hW
  have hA : DataW.TrodAll enc Try.prog W 0 (fun _ => true) true Try.f3.params.toList args.toList ds p := hA0
  rw [Try.params3] at hA hval
  obtain ⟨v0, vs0, d0, ds0, p0, q0, hargs, rfl, rfl, h0, r0⟩ := trodAll_cons hA
  obtain ⟨v1, vs1, d1, ds1, p1, q1, rfl, rfl, rfl, h1, r1⟩ := trodAll_cons r0
  obtain ⟨v2, vs2, d2, ds2, p2, q2, rfl, rfl, rfl, h2, r2⟩ := trodAll_cons r1
  obtain ⟨rfl, rfl, rfl⟩ := trodAll_nil r2
  obtain rfl : args = #[v0, v1, v2] := by cases args; simp_all
  obtain ⟨rfl, rfl⟩ := trodVars_none hV
  obtain ⟨a0, rfl, rfl, rfl, w0⟩ := open_int Try.underlying3 (hval 0 3 v0 rfl rfl) h0
  obtain ⟨a1, rfl, rfl, rfl, w1⟩ := open_int Try.underlying3 (hval 1 3 v1 rfl rfl) h1
  obtain ⟨a2, rfl, rfl, rfl, w2⟩ := open_int Try.underlying3 (hval 2 3 v2 rfl rfl) h2
  clear hA0 hval0
  refine (walk a0 a1 a2 W w0 w1 w2).mono fun e W' ⟨he, bel⟩ => ?_
  subst he
  exact ⟨_, rfl, _, _, _, [], _, [], hW', trodAll_mk1 (shut_bool Try.underlying4 _), (trodAll_cons_mk (shut_int Try.underlying3 w0) (trodAll_cons_mk (shut_int Try.underlying3 w1) (trodAll_cons_mk (shut_int Try.underlying3 w2) trodAll_mk0))), rfl, bel.frame _, fun h => by cases h⟩

theorem over : Rows.seqMakesRow.holds Try.pinned (OpenSpec.ofChange Rows.seqMakesSpec) :=
  OpenClaim.holds_of_wide 3 Try.f3 rfl rfl rfl rfl rfl rfl rfl ⟨rfl, rfl, rfl, rfl, rfl⟩ rfl rfl rfl rfl rfl (by kernel_rfl) Try.func3 (by kernel_rfl)
    (of_decide_eq_true (by kernel_rfl)) (by unfold Func.isWrapper; first | (rw [if_pos (by decide +kernel)]; kernel_rfl) | (rw [if_neg (by decide +kernel)]; exact ⟨rfl, rfl⟩))
    (fun os started H enc _ => lifted os started H enc)

end Go.Proofs.Ytonlhddcdipgjaa.LSeqMakes

namespace Go.Proofs.Ytonlhddcdipgjaa
theorem seqMakes_holds : Rows.SeqMakesSaid := LSeqMakes.over
#print axioms seqMakes_holds
end Go.Proofs.Ytonlhddcdipgjaa
