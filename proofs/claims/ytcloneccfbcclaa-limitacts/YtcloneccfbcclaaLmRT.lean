/- The document's own table of layer 14, in memory; find. -/
import Derived.Test.YtcloneccfbcclaaLmRP
import Derived.Test.YtcloneccfbcclaaLmVal
import Derived.Test.YtcloneccfbcclaaApRow
import Derived.Test.YtcloneccfbcclaaOwnG
namespace Go.Proofs.Ytcloneccfbcclaa
open Go.RowKit
open Bt

abbrev Iv (n : Int) : Value := .int .i64 n

/-- A limit, the values that came, the slice that holds them. -/
structure Rz where
  lm : Lm
  vs : List Int
  v : Value

def kpR (z : Rz) : Kp := ⟨z.lm, outN z.lm z.vs⟩

def kpsR (zs : List Rz) : List Kp := zs.map kpR

theorem kps_len (zs : List Rz) : (kpsR zs).length = zs.length := by simp [kpsR]

structure RT (S : Nat → Prop) (w : World) (b : Nat) (vL vV : Value) (zs : List Rz) (m : Nat) : Prop where
  head : w.heap[b]? = some (.cells #[vL, vV] 39 (0, 0))
  ol : w.ownsRow 0 30 5 vL zs.length (lcells (zs.map Rz.lm))
  ov : w.ownsRow 0 46 1 vV zs.length (zs.map Rz.v)
  iv : ∀ z ∈ zs, w.ownsRow 0 3 1 z.v z.vs.length (z.vs.map Iv) ∧ ∀ k, z.v.ownBlock = some k → S k
  inB : S b
  inL : ∀ k, vL.ownBlock = some k → S k
  inV : ∀ k, vV.ownBlock = some k → S k
  lt : ∀ k, S k → k < w.heap.size
  ok : OkT (kpsR zs) m
  few : ∀ z ∈ zs, z.vs.length ≤ m

/-- The document's table, as something that owns its blocks. -/
def RB (b : Nat) (L : List Kp) (m : Nat) : (Nat → Prop) → World → Prop := fun S w => ∃ vL vV zs, kpsR zs = L ∧ RT S w b vL vV zs m

variable {S T : Nat → Prop} {w w' : World} {b : Nat} {vL vV : Value} {zs : List Rz} {m : Nat} {L : List Kp}

theorem RT.kept (h : RT S w b vL vV zs m) (hc : Chg T w w') (hT : ∀ k, S k → ¬ T k) : RT S w' b vL vV zs m :=
  ⟨(hc.block b (h.lt b h.inB) (hT b h.inB)).trans h.head, ownsRow_keep h.ol fun k hk => hc.block k (World.ownsRow.lt h.ol k hk).2 (hT k (h.inL k hk)), ownsRow_keep h.ov fun k hk => hc.block k (World.ownsRow.lt h.ov k hk).2 (hT k (h.inV k hk)),
    fun z hz => ⟨ownsRow_keep (h.iv z hz).1 fun k hk => hc.block k (World.ownsRow.lt (h.iv z hz).1 k hk).2 (hT k ((h.iv z hz).2 k hk)), (h.iv z hz).2⟩, h.inB, h.inL, h.inV, fun k hk => Nat.lt_of_lt_of_le (h.lt k hk) hc.size, h.ok, h.few⟩

theorem RT.below (h : RT S w b vL vV zs m) (hb : Below w.heap.size w w') : RT S w' b vL vV zs m := h.kept (below_chg hb) (fun _ _ => id)

theorem rb_owned (b : Nat) (L : List Kp) (m : Nat) : Owned (RB b L m) :=
  ⟨fun ⟨vL, vV, zs, e, h⟩ hc hT => ⟨vL, vV, zs, e, h.kept hc hT⟩, fun ⟨_, _, _, _, h⟩ => h.lt⟩

theorem RT.more (h : RT S w b vL vV zs m) {k : Nat} (hk : m ≤ k) : RT S w b vL vV zs k :=
  ⟨h.head, h.ol, h.ov, h.iv, h.inB, h.inL, h.inV, h.lt, h.ok.more hk, fun z hz => Nat.le_trans (h.few z hz) hk⟩

theorem RT.same (h : RT S w b vL vV zs m) (hb : Below w.heap.size w w') : LeftG (RB b (kpsR zs) m) S w w' :=
  ⟨S, ⟨vL, vV, zs, rfl, h.below hb⟩, (below_chg hb).mono (fun _ f _ => f.elim), fun _ hk => .inl hk⟩

theorem RT.cells (h : RT S w b vL vV zs m) : w.cell? ⟨b, 0, none⟩ = some vL ∧ w.cell? ⟨b, 1, none⟩ = some vV ∧ ∀ j, w.frozen? ⟨b, j, none⟩ = false :=
  ⟨by rw [cell_of_row w _ 0 _ _ _ h.head]; rfl, by rw [cell_of_row w _ 1 _ _ _ h.head]; rfl, fun j => frozen_of_row w b j _ _ h.head⟩

theorem RT.lims (h : RT S w b vL vV zs m) : LmsAt S w vL (zs.map Rz.lm) := by
  have := h.ol
  rw [show zs.length = (zs.map Rz.lm).length by simp] at this
  exact lms_of_owns this h.inL

theorem RT.limAt {ao : Option Addr} {n c : Nat} (h : RT S w b (.slice ao n c) vV zs m) {t : Nat} (ht : t < zs.length) {g : Nat} (e : ao = some ⟨g, 0, none⟩) : LmAt w g (t * 5) zs[t].lm := by
  obtain ⟨ao', c', e2, _, hp⟩ := h.lims
  simp only [Value.slice.injEq] at e2
  obtain ⟨rfl, _, rfl⟩ := e2
  obtain ⟨pb, off, e3, _, hq⟩ := hp (by simp; omega)
  rw [e3] at e
  simp only [Option.some.injEq, Addr.mk.injEq, and_true] at e
  obtain ⟨rfl, rfl⟩ := e
  have := hq t (by simpa using ht)
  rw [List.getElem_map, Nat.zero_add] at this
  exact this

theorem RT.valAt {ao : Option Addr} {n c : Nat} (h : RT S w b vL (.slice ao n c) zs m) {t : Nat} (ht : t < zs.length) {g : Nat} (e : ao = some ⟨g, 0, none⟩) : w.cell? ⟨g, t, none⟩ = some zs[t].v := by
  subst e
  have o := h.ov
  obtain ⟨_, _, e, _⟩ := ownsRow_form o
  simp only [Value.slice.injEq] at e
  obtain ⟨_, rfl, _⟩ := e
  rw [o.cellAt t (by omega)]
  simp [ht]

set_option maxRecDepth 100000 in
set_option maxHeartbeats 1000000 in
theorem refFind14_any (b : Nat) (bed kind : Int) (S : Nat → Prop) (vL vV : Value) (zs : List Rz) (m : Nat) (w : World) (h : RT S w b vL vV zs m) :
    Calls Try.prog 32 #[.pointer (some ⟨b, 0, none⟩), .int .i64 bed, .int .i64 kind] w fun e w' => e = .returned (.int .i64 (posK (kpsR zs) bed kind)) ∧ w = w' := by
  have hf := h.ok.few
  rw [kps_len] at hf
  have c0 := h.cells.1
  obtain ⟨ao, c, rfl, hz⟩ := ownsRow_form h.ol
  have HA := Hid.intro (fun t (ht : t < zs.length) (g : Nat) (e : ao = some ⟨g, 0, none⟩) => h.limAt ht e)
  have HZ := Hid.intro hz
  obtain ⟨P, hP⟩ : ∃ P, P = posK (kpsR zs) bed kind := ⟨_, rfl⟩
  have HP := Hid.intro hP
  rw [← hP]
  have HK := Hid.intro (fun (j : Nat) (hj : j < zs.length) => show ∃ hj' : j < (kpsR zs).length, (kpsR zs)[j] = kpR zs[j] from ⟨by rw [kps_len]; exact hj, by simp [kpsR]⟩)
  have HKL := Hid.intro (kps_len zs)
  obtain ⟨n, hn⟩ : ∃ n, n = zs.length := ⟨_, rfl⟩
  have HN := Hid.intro hn
  rw [← hn] at c0 hf
  clear h hz hP hn
  go_enter Try.func32, Try.ntmps32
  go_wp2_with fail
  go_loop [7] (fun iv => ∃ t : Nat, t ≤ n ∧ iv = .int .i64 t ∧ ∀ j, (hj : j < (kpsR zs).length) → j < t → isK bed kind (kpsR zs)[j] = false) (fun iv => n - (intOf iv).toNat)
  case atStart => exact ⟨0, by omega, rfl, fun j _ hj => absurd hj (Nat.not_lt_zero _)⟩
  case round =>
    obtain ⟨t, ht, rfl, hno⟩ := hrel
    have HNO := Hid.intro hno
    clear hno
    by_cases hlt : t < n
    · have hlt' : t < zs.length := by rw [← HN.out]; exact hlt
      obtain ⟨g, rfl⟩ := HZ.out.resolve_left (by have := HN.out; omega)
      obtain ⟨d0, d1, _, _, _⟩ := HA.out t hlt' g rfl
      obtain ⟨hj', ek⟩ := HK.out t hlt'
      have t0 : (0 : Int) ≤ (t : Int) := by omega
      have t1 : (t : Int) < (n : Int) := by omega
      by_cases e : zs[t].lm.bed = bed ∧ zs[t].lm.kind = kind
      · obtain ⟨e1, e2⟩ := e
        have HIT : Hid (P = (t : Int)) := by
          rw [Hid, HP.out]
          exact (posK_hit hj' (by rw [ek]; exact isK_iff.2 ⟨e1, e2⟩) (fun j hj q => HNO.out j hj q)).1
        rw [e1] at d0
        rw [e2] at d1
        clear e1 e2 ek
        go_wp2
        go_ret
        exact ⟨by rw [HIT.out]; rfl, rfl⟩
      · have NX : Hid (∀ j, (hj : j < (kpsR zs).length) → j < t + 1 → isK bed kind (kpsR zs)[j] = false) := fun j hj h => by
          by_cases q : j < t
          · exact HNO.out j hj q
          · obtain rfl : j = t := by omega
            rw [ek]
            cases r : isK bed kind (kpR zs[j]) with
            | false => rfl
            | true => exact absurd (isK_iff.1 r) e
        by_cases e1 : zs[t].lm.bed = bed
        · have e2 : (zs[t].lm.kind == kind) = false := by rw [beq_eq_false_iff_ne]; exact fun q => e ⟨e1, q⟩
          rw [e1] at d0
          clear e ek e1
          generalize zs[t].lm.kind = kk at *
          go_wp2
          go_round
          case rel => exact ⟨t + 1, by omega, by go_num, NX.out⟩
          case measure => simp [intOf]; omega
        · have e2 : (zs[t].lm.bed == bed) = false := by rw [beq_eq_false_iff_ne]; exact e1
          clear e ek e1
          generalize zs[t].lm.bed = kk at *
          go_wp2
          go_round
          case rel => exact ⟨t + 1, by omega, by go_num, NX.out⟩
          case measure => simp [intOf]; omega
    · obtain rfl : t = n := by omega
      have t1 : ¬ (t : Int) < (t : Int) := by omega
      have MI : Hid (P = -1) := by
        rw [Hid, HP.out]
        exact (posK_miss (fun j hj => HNO.out j hj (by have := HN.out; have := HKL.out; omega))).1
      go_wp2
      go_ret
      exact ⟨by rw [MI.out]; rfl, rfl⟩

end Go.Proofs.Ytcloneccfbcclaa
