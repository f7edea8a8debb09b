/- BitsOrder: whatever numbers come in, it returns true: of two fields of a width the lesser one's bits stand ahead; no condition. -/
import Derived.Test.YtfmnnhpadpjegaaArgs
import Derived.Test.YtfmnnhpadpjegaaOrder0
import Derived.Deep.RegionWith
import Derived.Deep.DrawnRows
import Derived.Laws.IdiomStrings
namespace Go.Proofs.Ytfmnnhpadpjegaa.LawOrder
open Go.ChangeShapes Go.WideShapes Go.ChangeAt Go.RowKit
open Bt

/-- The text of a row of bytes. -/
def textOf (bs : List Nat) : ByteArray := ⟨(bytesOf bs).toArray⟩

theorem text_list (bs : List Nat) : (textOf bs).toList = bytesOf bs := by
  simp [textOf]

theorem convert_row (bs : List Nat) (h256 : ∀ b ∈ bs, b < 256) (g cap : Nat) (w : World) (h : RowIs w g bs) :
    (convert 24 9 (.slice (some ⟨g, 0, none⟩) bs.length cap)).run Try.prog w = .ok (.string (textOf bs)) w := by
  have hl : (bytesOf bs).length = bs.length := by simp [bytesOf]
  have := run_convert_bytes_back (P := Try.prog) w 24 9 5 ⟨g, 0, none⟩ cap (bytesOf bs) Try.underlying24 Try.underlying5 Try.underlying9 (fun j hj => by
    obtain ⟨ad, ha, hc⟩ := h.reads (by omega)
    cases ha
    have hj' : j < bs.length := by omega
    have hb := h256 bs[j] (List.getElem_mem hj')
    rw [hc j (U bs[j]) (by simp [hj'])]
    have e : ((bytesOf bs)[j]'hj).toNat = bs[j] := by
      simp only [bytesOf, List.getElem_map]
      exact Nat.mod_eq_of_lt hb
    rw [e])
  rw [hl] at this
  exact this

theorem PenAt.drew {w : World} {pb : Nat} {v : Value} {l : List Nat} (h : PenAt w pb v l) : PenAt w.drew pb v l := ⟨h.bits, h.here, h.row⟩

theorem order_facts (n m k : Nat) (hn : isF n k = true) (hm : isF m k = true) :
    Op.bytesLess (bytesOf (pack (putB n k))) (bytesOf (pack (putB m k))) = decide ((n : Int) < (m : Int)) ∧ (bytesOf (pack (putB n k)) == bytesOf (pack (putB m k))) = ((n : Int) == (m : Int)) := by
  have hbn := isF_bounds hn
  have hbm := isF_bounds hm
  simp only [putB, hn, hm, if_true, Int.toNat_natCast]
  have a1 : n < 2 ^ k := by have := hbn.2.2.2; rw [Int.toNat_natCast] at this; exact_mod_cast this
  have a2 : m < 2 ^ k := by have := hbm.2.2.2; rw [Int.toNat_natCast] at this; exact_mod_cast this
  rw [less_fields k n m a1 a2, eq_fields k n m a1 a2]
  constructor
  · rw [Bool.eq_iff_iff, decide_eq_true_eq, decide_eq_true_eq]; omega
  · rw [Bool.eq_iff_iff, decide_eq_true_eq, beq_iff_eq]; omega

set_option maxHeartbeats 1000000 in
theorem walk_yes (n m k : Nat) (hn : isF n k = true) (hm : isF m k = true) (w : World) :
    Calls Try.prog 6 #[.int .i64 n, .int .i64 m, .int .i64 k] w fun e w' => e = .returned (.bool true) ∧ Below w.heap.size w w' := by
  have HN := Hid.intro hn
  have HM := Hid.intro hm
  clear hn hm
  go_enter Try.func6, Try.ntmps6
  go_wp2_with (go_at_call 9; refine (alive_any _).mono ?_; rintro e w1 ⟨rfl, B1⟩)
  obtain ⟨P0, Q0, A0⟩ := pens_new w1
  have B0 := B1.trans (A0.mono B1.size)
  have T0 := apart_new w1.heap.size (w1.heap.size + 1) (by omega)
  have hpq : w.heap.size ≤ w1.heap.size := B1.size
  generalize (w1.alloc (.cells #[.slice none 0 0, .int .i64 0] 26)).alloc (.cells #[.slice none 0 0, .int .i64 0] 26) = w2 at P0 Q0 B0 ⊢
  clear A0 B1
  refine (put_any w1.heap.size n k _ _ (by simp) w2 P0).mono ?_
  rintro e w3 ⟨rfl, v3, P3, C3, K3⟩
  rw [HN.out]
  have O3 := (own_new w.heap.size w1.heap.size hpq).next B0.size K3
  have B3 := B0.trans (((own_new w.heap.size w1.heap.size hpq).chg C3).below B0.size fun _ h => h)
  have Q3 := Q0.kept C3 T0.symm
  have T3 := T0.next Q0 K3
  clear P0 C3 K3 Q0 T0 B0
  go_wp2_with fail
  refine (put_any (w1.heap.size + 1) m k _ _ (by simp) w3 Q3).mono ?_
  rintro e w4 ⟨rfl, v4, Q4, C4, K4⟩
  rw [HM.out]
  have U3 := own_new w.heap.size (w1.heap.size + 1) (by omega)
  have B4 := B3.trans ((U3.chg C4).below B3.size fun _ h => h)
  have P4 := P3.kept C4 T3
  clear P3 C4 K4 Q3 T3 B3 U3 O3
  have lp := putB_length n k
  have lq := putB_length m k
  rw [List.nil_append] at P4 Q4
  have FL := order_facts n m k HN.out HM.out
  have hb1 := pack_byte (putB n k) P4.bits
  have hb2 := pack_byte (putB m k) Q4.bits
  generalize putB (n : Int) (k : Int) = L1 at P4 lp FL hb1
  generalize putB (m : Int) (k : Int) = L2 at Q4 lq FL hb2
  have FLH := Hid.intro FL
  have cv1 : ∀ W g, RowIs W g (pack L1) → (convert 24 9 (.slice (some ⟨g, 0, none⟩) (pack L1).length (pack L1).length)).run Try.prog W = .ok (.string (textOf (pack L1))) W := fun W g h => convert_row _ hb1 g _ W h
  have cv2 : ∀ W g, RowIs W g (pack L2) → (convert 24 9 (.slice (some ⟨g, 0, none⟩) (pack L2).length (pack L2).length)).run Try.prog W = .ok (.string (textOf (pack L2))) W := fun W g h => convert_row _ hb2 g _ W h
  clear FL hb1 hb2
  generalize w1.heap.size + 1 = qb at Q4 ⊢
  generalize w1.heap.size = pb at P4 hpq ⊢
  go_wp2_with fail
  go_region_with (first | (go_at_call_of 12 (Value.pointer (some ⟨pb, 0, none⟩)); refine (bytes_any pb v3 L1 (by omega) _ ?_).mono ?_; exact PenAt.drew P4; rintro e w5 ⟨g5, rfl, hg5, R5, C5⟩) | (go_at_call_of 12 (Value.pointer (some ⟨qb, 0, none⟩)); refine (bytes_any qb v4 L2 (by omega) _ ?_).mono ?_; exact (PenAt.drew Q4).kept C5 (fun _ _ h => h); rintro e w6 ⟨g6, rfl, hg6, R6, C6⟩; have R56 := R5.kept C6 (fun h => h)))
  all_goals
    have B6 : Below w.heap.size w w6 := by
      have b4 : Below w.heap.size w w4.drew := B4.drew
      have b5 := b4.trans ((C5.below (Nat.le_refl _) (fun _ h => h.elim)).mono b4.size)
      exact b5.trans ((C6.below (Nat.le_refl _) (fun _ h => h.elim)).mono b5.size)
    have F1 := FLH.out.1
    have F2 := FLH.out.2
    have t1 := text_list (pack L1)
    have t2 := text_list (pack L2)
    clear C5 C6 R5 R6 R56 Q4 P4
    go_wp2
    go_ret
    refine ⟨?_, B6⟩
    simp

theorem walk_no1 (n m k : Int) (hn : isF n k = false) (w : World) :
    Calls Try.prog 6 #[.int .i64 n, .int .i64 m, .int .i64 k] w fun e w' => e = .returned (.bool true) ∧ Below w.heap.size w w' := by
  go_enter Try.func6, Try.ntmps6
  go_wp2_with (go_at_call 9; refine (alive_any _).mono ?_; rintro e w1 ⟨rfl, B1⟩)
  have B0 := B1.trans ((pens_new w1).2.2.mono B1.size)
  generalize (w1.alloc (.cells #[.slice none 0 0, .int .i64 0] 26)).alloc (.cells #[.slice none 0 0, .int .i64 0] 26) = w2 at B0 ⊢
  refine (put_no w1.heap.size n k w2 hn).mono ?_
  rintro e w3 ⟨rfl, rfl⟩
  go_wp2
  go_ret
  exact ⟨rfl, B0⟩

theorem walk_no2 (n m k : Int) (hn : isF n k = true) (hm : isF m k = false) (w : World) :
    Calls Try.prog 6 #[.int .i64 n, .int .i64 m, .int .i64 k] w fun e w' => e = .returned (.bool true) ∧ Below w.heap.size w w' := by
  go_enter Try.func6, Try.ntmps6
  go_wp2_with (go_at_call 9; refine (alive_any _).mono ?_; rintro e w1 ⟨rfl, B1⟩)
  obtain ⟨P0, _, A0⟩ := pens_new w1
  have B0 := B1.trans (A0.mono B1.size)
  have hpq : w.heap.size ≤ w1.heap.size := B1.size
  generalize (w1.alloc (.cells #[.slice none 0 0, .int .i64 0] 26)).alloc (.cells #[.slice none 0 0, .int .i64 0] 26) = w2 at P0 B0 ⊢
  clear A0 B1
  refine (put_any w1.heap.size n k _ _ (by simp) w2 P0).mono ?_
  rintro e w3 ⟨rfl, v3, P3, C3, K3⟩
  rw [hn]
  have B3 := B0.trans (((own_new w.heap.size w1.heap.size hpq).chg C3).below B0.size fun _ h => h)
  clear P0 C3 K3 P3 B0
  go_wp2_with fail
  refine (put_no (w1.heap.size + 1) m k w3 hm).mono ?_
  rintro e w4 ⟨rfl, rfl⟩
  go_wp2
  go_ret
  exact ⟨rfl, B3⟩

theorem walk (n m k : Int) (w : World) :
    Calls Try.prog 6 #[.int .i64 n, .int .i64 m, .int .i64 k] w fun e w' => e = .returned (.bool true) ∧ Below w.heap.size w w' := by
  cases hn : isF n k with
  | false => exact walk_no1 n m k hn w
  | true =>
    cases hm : isF m k with
    | false => exact walk_no2 n m k hn hm w
    | true =>
      have h1 := isF_bounds hn
      have h2 := isF_bounds hm
      obtain ⟨N, rfl⟩ := Int.eq_ofNat_of_zero_le h1.2.2.1
      obtain ⟨M, rfl⟩ := Int.eq_ofNat_of_zero_le h2.2.2.1
      obtain ⟨K, rfl⟩ := Int.eq_ofNat_of_zero_le (show 0 ≤ k by omega)
      exact walk_yes N M K hn hm w

set_option maxRecDepth 100000 in
theorem lifted (os : Os) (started : os.Started) (H : Type) (enc : TypeId × Value → H) :
    ReturnsInHanded {} Try.checked os 6 .any (Rows.bitsOrderSpec.pre6 enc Try.prog Try.f6 Rows.bitsOrderRow.domain false) (Rows.bitsOrderSpec.post enc Try.prog Try.f6 false true false false) := by
  refine returnsInHanded_of_change (C := Try.checked) own started (by kernel_rfl) Try.func6
    (ChangeSpec.witness6 (enc := enc) (C := Try.checked) false ⟨#[], #[.int .i64 0, .int .i64 0, .int .i64 0], []⟩ 8 (by kernel_rfl) (by kernel_rfl) (by kernel_rfl) (by kernel_rfl)) ?_
  intro W base args ds gs before hval0 hW hcnd _
  have hval : ∀ (j : Nat) t v, Try.f6.params[j]? = some t → args[j]? = some v → Value.okWide Try.prog W .any base t v := hval0
  have hW' := hW
  obtain ⟨p, q, hA0, hV, rfl, hfz, hnd⟩ := hW
  have hA : DataW.TrodAll enc Try.prog W 0 (fun _ => true) true Try.f6.params.toList args.toList ds p := hA0
  rw [Try.params6] at hA hval
  obtain ⟨v0, vs0, d0, ds0, p0, q0, hargs, rfl, rfl, h0, r0⟩ := trodAll_cons hA
  obtain ⟨v1, vs1, d1, ds1, p1, q1, rfl, rfl, rfl, h1, r1⟩ := trodAll_cons r0
  obtain ⟨v2, vs2, d2, ds2, p2, q2, rfl, rfl, rfl, h2, r2⟩ := trodAll_cons r1
  obtain ⟨rfl, rfl, rfl⟩ := trodAll_nil r2
  obtain rfl : args = #[v0, v1, v2] := by cases args; simp_all
  obtain ⟨rfl, rfl⟩ := trodVars_none hV
  obtain ⟨a0, rfl, rfl, rfl, w0⟩ := open_int Try.underlying3 (hval 0 3 v0 rfl rfl) h0
  obtain ⟨a1, rfl, rfl, rfl, w1⟩ := open_int Try.underlying3 (hval 1 3 v1 rfl rfl) h1
  obtain ⟨a2, rfl, rfl, rfl, w2⟩ := open_int Try.underlying3 (hval 2 3 v2 rfl rfl) h2
  clear hA0 hval0
  refine (walk a0 a1 a2 W).mono fun e W' ⟨he, bel⟩ => ?_
  subst he
  exact ⟨_, rfl, _, _, _, [], _, [], hW', trodAll_mk1 (shut_bool Try.underlying4 _), (trodAll_cons_mk (shut_int Try.underlying3 w0) (trodAll_cons_mk (shut_int Try.underlying3 w1) (trodAll_cons_mk (shut_int Try.underlying3 w2) trodAll_mk0))), rfl, bel.frame _, fun h => by cases h⟩

theorem over : Rows.bitsOrderRow.holds Try.pinned (OpenSpec.ofChange Rows.bitsOrderSpec) :=
  OpenClaim.holds_of_wide 6 Try.f6 rfl rfl rfl rfl rfl rfl rfl ⟨rfl, rfl, rfl, rfl, rfl⟩ rfl rfl rfl rfl rfl (by kernel_rfl) Try.func6 (by kernel_rfl)
    (of_decide_eq_true (by kernel_rfl)) (by unfold Func.isWrapper; first | (rw [if_pos (by decide +kernel)]; kernel_rfl) | (rw [if_neg (by decide +kernel)]; exact ⟨rfl, rfl⟩))
    (fun os started H enc _ => lifted os started H enc)

end Go.Proofs.Ytfmnnhpadpjegaa.LawOrder

namespace Go.Proofs.Ytfmnnhpadpjegaa
theorem bitsOrder_holds : Rows.BitsOrderSaid := LawOrder.over
#print axioms bitsOrder_holds
end Go.Proofs.Ytfmnnhpadpjegaa

