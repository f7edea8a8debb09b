/- Plain: the equations of a polynomial that is at bytes what is told: they have one answer, and elimination finds it. No program is named here. -/
import Derived.Test.YthbfdfkkacmbhabDoorRsElim
namespace Go.Proofs.YthbfdfkkacmbhabDoor.Bt

theorem fs_psum {x : Nat} (hx : x < 256) (F : Nat → Nat) (hF : ∀ k, F k < 256) (n i : Nat) :
    fs n (fun k => gmul (gpow x (i + k)) (F k)) = psum i ((List.range n).map F) x := by
  have step : ∀ (n i : Nat) (G : Nat → Nat), fs (n + 1) G = G 0 ^^^ fs n (fun k => G (k + 1)) := by
    intro n i G
    induction n with
    | zero => show 0 ^^^ G 0 = G 0 ^^^ 0; rw [Nat.zero_xor, Nat.xor_zero]
    | succ n ih => rw [fs, ih, fs, Nat.xor_assoc]
  induction n generalizing i F with
  | zero => rfl
  | succ n ih =>
    rw [step n i, List.range_succ_eq_map, List.map_cons, psum, List.map_map]
    rw [← ih (F ∘ Nat.succ) (fun k => hF (k + 1)) (i + 1)]
    congr 1
    · exact gmul_comm (gpow_lt hx _) (hF 0)
    · refine fs_congr (fun k _ => ?_)
      show gmul (gpow x (i + (k + 1))) (F (k + 1)) = gmul (gpow x (i + 1 + k)) (F (k + 1))
      rw [show i + (k + 1) = i + 1 + k from by omega]

/-- The value at x of the polynomial with factors F. -/
theorem fs_pev {x : Nat} (hx : x < 256) (F : Nat → Nat) (hF : ∀ k, F k < 256) (n : Nat) :
    fs n (fun k => gmul (gpow x k) (F k)) = pev ((List.range n).map F) x := by
  have h := fs_psum hx F hF n 0
  rw [psum_pev hx _ (fun c hc => by obtain ⟨k, _, rfl⟩ := List.mem_map.1 hc; exact hF k)] at h
  rw [← h]
  exact fs_congr (fun k _ => by rw [Nat.zero_add])

/-- The equations, as they are laid. -/
def vand (at_ vals : List Nat) : Nat → Nat → Nat := fun r k => if k < at_.length then gpow (at_.getD r 0) k else vals.getD r 0

theorem getD_byt {l : List Nat} (h : Byt l) (r : Nat) : l.getD r 0 < 256 := by
  by_cases hr : r < l.length
  · rw [← List.getElem_eq_getD (h := hr) 0]; exact h _ (List.getElem_mem hr)
  · have : l.getD r 0 = 0 := by simp [List.getD, List.getElem?_eq_none (Nat.le_of_not_lt hr)]
    rw [this]; decide

theorem vand_bm {at_ vals : List Nat} (ha : Byt at_) (hv : Byt vals) : Bm (vand at_ vals) := fun r k => by
  unfold vand; split
  · exact gpow_lt (getD_byt ha r) k
  · exact getD_byt hv r

theorem vand_dot {at_ vals : List Nat} (ha : Byt at_) (r : Nat) {f : Nat → Nat} (hf : ∀ k, f k < 256) :
    dot at_.length (vand at_ vals) r f = pev ((List.range at_.length).map f) (at_.getD r 0) ^^^ gmul (vals.getD r 0) (f at_.length) := by
  unfold dot
  rw [fs, ← fs_pev (getD_byt ha r) f hf]
  congr 1
  · refine fs_congr (fun k hk => ?_)
    show gmul (vand at_ vals r k) (f k) = _
    unfold vand; rw [if_pos hk]
  · show gmul (vand at_ vals r at_.length) (f at_.length) = _
    unfold vand; rw [if_neg (by omega)]

theorem mem_getD {l : List Nat} {x : Nat} (h : x ∈ l) : ∃ r, r < l.length ∧ l.getD r 0 = x := by
  obtain ⟨r, hr, e⟩ := List.mem_iff_getElem.1 h
  exact ⟨r, hr, by rw [← List.getElem_eq_getD (h := hr) 0]; exact e⟩

/-- Nought alone answers to nought. -/
theorem vand_only {at_ vals : List Nat} (ha : Byt at_) (hd : at_.Nodup) {f : Nat → Nat} (hf : ∀ k, f k < 256) (h0 : f at_.length = 0) (hk : Ker at_.length (vand at_ vals) f)
    (k : Nat) (hkn : k < at_.length) : f k = 0 := by
  have hz := roots at_ ha hd ((List.range at_.length).map f) (fun c hc => by obtain ⟨k, _, rfl⟩ := List.mem_map.1 hc; exact hf k) (by simp) (fun x hx => by
    obtain ⟨r, hr, e⟩ := mem_getD hx
    have := hk r hr
    rw [vand_dot ha r hf, h0] at this
    rw [e] at this
    have hv : gmul (vals.getD r 0) 0 = 0 := by
      have := gmul_xor (vals.getD r 0) 0 0
      rw [Nat.xor_self, Nat.xor_self] at this
      exact this
    rw [hv, Nat.xor_zero] at this
    exact this)
  exact hz _ (List.mem_map.2 ⟨k, List.mem_range.2 hkn, rfl⟩)

/-- The polynomial that is at bytes what is told. -/
def poly (at_ vals : List Nat) : List Nat := lpol at_ (at_.zip vals)

theorem poly_spec {at_ vals : List Nat} (ha : Byt at_) (hd : at_.Nodup) (hv : Byt vals) (hl : vals.length = at_.length) :
    Byt (poly at_ vals) ∧ (poly at_ vals).length = at_.length ∧ ∀ r, r < at_.length → pev (poly at_ vals) (at_.getD r 0) = vals.getD r 0 := by
  by_cases h0 : at_ = []
  · subst h0; exact ⟨Byt.nil, rfl, fun r hr => absurd hr (by simp)⟩
  have hz : at_.zip vals ≠ [] := fun e => h0 (by
    have := congrArg List.length e
    rw [List.length_zip, hl, Nat.min_self] at this
    exact List.eq_nil_of_length_eq_zero this)
  have hm1 : ∀ p ∈ at_.zip vals, p.1 ∈ at_ := fun p hp => (List.of_mem_zip (a := p.1) (b := p.2) hp).1
  have hm2 : ∀ p ∈ at_.zip vals, p.2 < 256 := fun p hp => hv _ (List.of_mem_zip (a := p.1) (b := p.2) hp).2
  refine ⟨lpol_byt _ _ hm2, lpol_length hd _ hm1 hz, fun r hr => ?_⟩
  have hrv : r < vals.length := by omega
  unfold poly
  rw [pev_lpol ha (getD_byt ha r) _ hm2, ← List.getElem_eq_getD (h := hr) 0, ← List.getElem_eq_getD (h := hrv) 0]
  refine lsum_at ha hm1 hm2 ?_ ?_
  · rw [List.map_fst_zip (by omega)]; exact hd
  · refine List.mem_iff_getElem.2 ⟨r, by rw [List.length_zip]; omega, ?_⟩
    rw [List.getElem_zip]

theorem poly_only {at_ vals q : List Nat} (ha : Byt at_) (hd : at_.Nodup) (hv : Byt vals) (hl : vals.length = at_.length)
    (hq : Byt q) (hn : q.length = at_.length) (h : ∀ r, r < at_.length → pev q (at_.getD r 0) = vals.getD r 0) : q = poly at_ vals := by
  obtain ⟨h1, h2, h3⟩ := poly_spec ha hd hv hl
  refine pev_only at_ ha hd q _ hq h1 (by omega) (by omega) (fun x hx => ?_)
  obtain ⟨r, hr, rfl⟩ := mem_getD hx
  rw [h r hr, h3 r hr]

/-- How far elimination is: c columns done, and no answer turned. -/
structure Elim (at_ vals : List Nat) (M : Nat → Nat → Nat) (c : Nat) : Prop where
  byt : Bm M
  uc : Uc at_.length M c
  ker : ∀ f, Ker at_.length M f ↔ Ker at_.length (vand at_ vals) f

theorem Elim.start {at_ vals : List Nat} (ha : Byt at_) (hv : Byt vals) : Elim at_ vals (vand at_ vals) 0 :=
  ⟨vand_bm ha hv, fun j hj => absurd hj (by omega), fun _ => Iff.rfl⟩

/-- A row with something in column c is there. -/
theorem Elim.pivot {at_ vals : List Nat} (ha : Byt at_) (hd : at_.Nodup) {M : Nat → Nat → Nat} {c : Nat} (h : Elim at_ vals M c) (hc : c < at_.length) : ∃ p, c ≤ p ∧ p < at_.length ∧ M p c ≠ 0 := by
  refine Classical.byContradiction fun hn => ?_
  have h0 : ∀ p, c ≤ p → p < at_.length → M p c = 0 := fun p h1 h2 => Classical.byContradiction fun h3 => hn ⟨p, h1, h2, h3⟩
  have hk := (h.ker _).1 (no_pivot hc h.byt h.uc h0)
  have := vand_only ha hd (fun k => by
    show (if k = c then 1 else if k < c then M k c else 0) < 256
    split
    · decide
    · split
      · exact h.byt _ _
      · decide) (by show (if at_.length = c then 1 else if at_.length < c then M at_.length c else 0) = 0; rw [if_neg (by omega), if_neg (by omega)]) hk c hc
  rw [if_pos rfl] at this
  exact absurd this (by decide)

theorem Elim.step {at_ vals : List Nat} {M : Nat → Nat → Nat} {c p : Nat} (h : Elim at_ vals M c) (hcp : c ≤ p) (hp : p < at_.length) (h0 : M p c ≠ 0) : Elim at_ vals (stepM c p M) (c + 1) :=
  ⟨h.byt.step c p, uc_step (by omega) hcp hp h.byt h0 h.uc, fun f => (ker_step (by omega) hp h.byt h0 f).trans (h.ker f)⟩

/-- In the end the last column is the polynomial. -/
theorem Elim.done {at_ vals : List Nat} (ha : Byt at_) (hd : at_.Nodup) (hv : Byt vals) (hl : vals.length = at_.length) {M : Nat → Nat → Nat} (h : Elim at_ vals M at_.length) :
    (List.range at_.length).map (fun r => M r at_.length) = poly at_ vals := by
  obtain ⟨q1, q2, q3⟩ := poly_spec ha hd hv hl
  generalize hq : poly at_ vals = q at q1 q2 q3 ⊢
  let f : Nat → Nat := fun k => if k = at_.length then 1 else q.getD k 0
  have hf : ∀ k, f k < 256 := fun k => by
    show (if k = at_.length then 1 else q.getD k 0) < 256
    split
    · decide
    · exact getD_byt q1 k
  have hn : f at_.length = 1 := if_pos rfl
  have hm : (List.range at_.length).map f = q := by
    apply List.ext_getElem
    · simp [q2]
    · intro k h1 h2
      rw [List.getElem_map, List.getElem_range]
      show (if k = at_.length then 1 else q.getD k 0) = _
      rw [if_neg (by omega), ← List.getElem_eq_getD (h := h2) 0]
  have hk : Ker at_.length (vand at_ vals) f := fun r hr => by
    rw [vand_dot ha r hf, hm, hn, q3 r hr, gmul_one (getD_byt hv r), Nat.xor_self]
  rw [← hm]
  refine List.map_congr_left (fun r hr => ?_)
  exact (all_done h.byt h.uc hf hn ((h.ker f).2 hk) r (List.mem_range.1 hr)).symm

end Go.Proofs.YthbfdfkkacmbhabDoor.Bt
