/- Plain: polynomials over GF(256), by their factors, the lowest first; that one is told by its values; factors of values. No program is named here. -/
import Derived.Test.YthbfdfkkacmbhabDoorFieldPure
namespace Go.Proofs.YthbfdfkkacmbhabDoor.Bt

def Byt (f : List Nat) : Prop := ∀ c ∈ f, c < 256

theorem Byt.nil : Byt [] := fun _ h => by cases h
theorem Byt.head {c : Nat} {f : List Nat} (h : Byt (c :: f)) : c < 256 := h c (by simp)
theorem Byt.tail {c : Nat} {f : List Nat} (h : Byt (c :: f)) : Byt f := fun x hx => h x (by simp [hx])
theorem Byt.cons {c : Nat} {f : List Nat} (hc : c < 256) (h : Byt f) : Byt (c :: f) := fun x hx => by
  rcases List.mem_cons.1 hx with rfl | hx
  · exact hc
  · exact h x hx

/-- A polynomial's value. -/
def pev : List Nat → Nat → Nat
  | [], _ => 0
  | c :: f, x => c ^^^ gmul x (pev f x)

theorem pev_lt {f : List Nat} (hf : Byt f) {x : Nat} (hx : x < 256) : pev f x < 256 := by
  induction f with
  | nil => show 0 < 256; decide
  | cons c f ih => exact xor_lt8 hf.head (gmul_lt hx _)

theorem xor_self_zero {a b : Nat} (h : a ^^^ b = 0) : a = b := by
  have : a ^^^ (a ^^^ b) = a := by rw [h, Nat.xor_zero]
  rw [← Nat.xor_assoc, Nat.xor_self, Nat.zero_xor] at this
  exact this.symm

theorem gmul_xor_left {a c : Nat} (ha : a < 256) (hc : c < 256) (b : Nat) : gmul (a ^^^ c) b = gmul a b ^^^ gmul c b := gm_xor_left ha hc 8 b

/-- Divided by (X - r). -/
def qt (r : Nat) : List Nat → List Nat
  | [] => []
  | [_] => []
  | _ :: d :: f => pev (d :: f) r :: qt r (d :: f)

theorem qt_length (r : Nat) (f : List Nat) : (qt r f).length = f.length - 1 := by
  match f with
  | [] => rfl
  | [_] => rfl
  | c :: d :: f => rw [qt, List.length_cons, qt_length r (d :: f)]; simp

theorem qt_byt {r : Nat} (hr : r < 256) {f : List Nat} (hf : Byt f) : Byt (qt r f) := by
  match f, hf with
  | [], _ => exact Byt.nil
  | [_], _ => exact Byt.nil
  | c :: d :: f, hf => exact Byt.cons (pev_lt hf.tail hr) (qt_byt hr hf.tail)

theorem qt_spec {r x : Nat} (hr : r < 256) (hx : x < 256) (f : List Nat) (hf : Byt f) : pev f x ^^^ pev f r = gmul (x ^^^ r) (pev (qt r f) x) := by
  match f, hf with
  | [], _ => show 0 ^^^ 0 = gmul (x ^^^ r) 0; rw [gmul_zero (xor_lt8 hx hr)]; rfl
  | [c], _ =>
    show (c ^^^ gmul x 0) ^^^ (c ^^^ gmul r 0) = gmul (x ^^^ r) 0
    rw [gmul_zero (xor_lt8 hx hr), gmul_zero hx, gmul_zero hr, Nat.xor_zero, Nat.xor_self]
  | c :: d :: f, hf =>
    have ih := qt_spec hr hx (d :: f) hf.tail
    have hg := pev_lt hf.tail hx
    have hh := pev_lt hf.tail hr
    have hq := pev_lt (qt_byt hr hf.tail) hx
    rw [qt]
    show (c ^^^ gmul x (pev (d :: f) x)) ^^^ (c ^^^ gmul r (pev (d :: f) r)) = gmul (x ^^^ r) (pev (d :: f) r ^^^ gmul x (pev (qt r (d :: f)) x))
    generalize pev (d :: f) x = G at ih hg ⊢
    generalize pev (d :: f) r = H at ih hh ⊢
    generalize pev (qt r (d :: f)) x = Q at ih hq ⊢
    rw [xor4, Nat.xor_self, Nat.zero_xor, gmul_xor]
    have e1 : gmul (x ^^^ r) (gmul x Q) = gmul x (G ^^^ H) := by
      rw [← gmul_assoc (xor_lt8 hx hr) hx, gmul_comm (xor_lt8 hx hr) hx, gmul_assoc hx (xor_lt8 hx hr), ← ih]
    rw [e1, gmul_xor, gmul_xor_left hx hr]
    generalize gmul x G = A
    generalize gmul r H = B
    generalize gmul x H = C
    rw [Nat.xor_comm A C, ← Nat.xor_assoc, Nat.xor_comm C B, Nat.xor_assoc B C C, Nat.xor_self, Nat.xor_zero, Nat.xor_comm]

def Zer (f : List Nat) : Prop := ∀ c ∈ f, c = 0

theorem zer_of_qt {r : Nat} (hr : r < 256) (f : List Nat) (hf : Byt f) (h0 : pev f r = 0) (hq : Zer (qt r f)) : Zer f := by
  match f, hf, h0, hq with
  | [], _, _, _ => exact fun _ h => by cases h
  | [c], _, h0, _ =>
    have : c ^^^ gmul r 0 = 0 := h0
    rw [gmul_zero hr, Nat.xor_zero] at this
    intro x hx
    simp at hx
    rw [hx, this]
  | c :: d :: f, hf, h0, hq =>
    have h1 : pev (d :: f) r = 0 := hq _ (by rw [qt]; simp)
    have ih := zer_of_qt hr (d :: f) hf.tail h1 (fun x hx => hq x (by rw [qt]; simp [hx]))
    have hc : c = 0 := by
      have : c ^^^ gmul r (pev (d :: f) r) = 0 := h0
      rw [h1, gmul_zero hr, Nat.xor_zero] at this
      exact this
    intro x hx
    rcases List.mem_cons.1 hx with rfl | hx
    · exact hc
    · exact ih x hx

/-- A polynomial of degree below n that is nought at n unlike bytes is nought. -/
theorem roots (xs : List Nat) (hx : Byt xs) (hd : xs.Nodup) (f : List Nat) (hf : Byt f) (hl : f.length ≤ xs.length) (h : ∀ x ∈ xs, pev f x = 0) : Zer f := by
  induction xs generalizing f with
  | nil =>
    have : f = [] := List.eq_nil_of_length_eq_zero (by simpa using hl)
    subst this
    exact fun _ h => by cases h
  | cons r ys ih =>
    have hr := hx.head
    have h0 := h r (by simp)
    refine zer_of_qt hr f hf h0 (ih hx.tail (List.nodup_cons.1 hd).2 (qt r f) (qt_byt hr hf) (by rw [qt_length]; simp at hl; omega) (fun y hy => ?_))
    have hyl := hx y (by simp [hy])
    have hne : y ≠ r := fun e => (List.nodup_cons.1 hd).1 (e ▸ hy)
    have e := qt_spec hr hyl f hf
    rw [h y (by simp [hy]), h0, Nat.xor_self] at e
    have hq := pev_lt (qt_byt hr hf) hyl
    exact Classical.byContradiction fun hn => gmul_ne (xor_lt8 hyl hr) hq (fun e2 => hne (xor_self_zero e2)) hn e.symm

/-- Sums. -/
def padd : List Nat → List Nat → List Nat
  | [], g => g
  | f, [] => f
  | a :: f, b :: g => (a ^^^ b) :: padd f g

theorem padd_byt {f g : List Nat} (hf : Byt f) (hg : Byt g) : Byt (padd f g) := by
  match f, g, hf, hg with
  | [], g, _, hg => exact hg
  | a :: f, [], hf, _ => exact hf
  | a :: f, b :: g, hf, hg => exact Byt.cons (xor_lt8 hf.head hg.head) (padd_byt hf.tail hg.tail)

theorem padd_length (f g : List Nat) : (padd f g).length = max f.length g.length := by
  match f, g with
  | [], g => simp [padd]
  | a :: f, [] => simp [padd]
  | a :: f, b :: g => rw [padd, List.length_cons, padd_length f g]; simp only [List.length_cons]; omega

theorem pev_padd {x : Nat} (f g : List Nat) : pev (padd f g) x = pev f x ^^^ pev g x := by
  match f, g with
  | [], g => rw [padd]; show pev g x = 0 ^^^ pev g x; rw [Nat.zero_xor]
  | a :: f, [] => show pev (a :: f) x = pev (a :: f) x ^^^ 0; rw [Nat.xor_zero]
  | a :: f, b :: g =>
    rw [padd, pev, pev_padd f g, gmul_xor, xor4]; rfl

def pscale (k : Nat) (f : List Nat) : List Nat := f.map (gmul k)

theorem pscale_byt {k : Nat} (hk : k < 256) (f : List Nat) : Byt (pscale k f) := fun c hc => by
  obtain ⟨d, _, rfl⟩ := List.mem_map.1 hc
  exact gmul_lt hk d

theorem pev_pscale {k x : Nat} (hk : k < 256) (hx : x < 256) (f : List Nat) (hf : Byt f) : pev (pscale k f) x = gmul k (pev f x) := by
  induction f with
  | nil => show 0 = gmul k 0; rw [gmul_zero hk]
  | cons c f ih =>
    show gmul k c ^^^ gmul x (pev (pscale k f) x) = gmul k (c ^^^ gmul x (pev f x))
    rw [ih hf.tail, gmul_xor, ← gmul_assoc hx hk, gmul_comm hx hk, gmul_assoc hk hx]

/-- Times (X - r). -/
def mlin (r : Nat) (f : List Nat) : List Nat := padd (0 :: f) (pscale r f)

theorem mlin_byt {r : Nat} (hr : r < 256) {f : List Nat} (hf : Byt f) : Byt (mlin r f) := padd_byt (Byt.cons (by decide) hf) (pscale_byt hr f)

theorem mlin_length (r : Nat) (f : List Nat) : (mlin r f).length = f.length + 1 := by
  rw [mlin, padd_length]; simp [pscale]

theorem pev_mlin {r x : Nat} (hr : r < 256) (hx : x < 256) (f : List Nat) (hf : Byt f) : pev (mlin r f) x = gmul (x ^^^ r) (pev f x) := by
  rw [mlin, pev_padd, pev_pscale hr hx f hf, gmul_xor_left hx hr]
  show (0 ^^^ gmul x (pev f x)) ^^^ _ = _
  rw [Nat.zero_xor]

/-- The product, over bytes y, of (x - y) / (s - y). -/
def wt (x s : Nat) : List Nat → Nat
  | [] => 1
  | y :: ys => gmul (gmul (x ^^^ y) (ginv (s ^^^ y))) (wt x s ys)

theorem wt_lt {x s : Nat} (hx : x < 256) (ys : List Nat) (hy : Byt ys) : wt x s ys < 256 := by
  cases ys with
  | nil => show 1 < 256; decide
  | cons y ys => exact gmul_lt (gmul_lt (xor_lt8 hx hy.head) _) _

def wpol (s : Nat) : List Nat → List Nat
  | [] => [1]
  | y :: ys => pscale (ginv (s ^^^ y)) (mlin y (wpol s ys))

theorem wpol_byt {s : Nat} (ys : List Nat) (hy : Byt ys) : Byt (wpol s ys) := by
  cases ys with
  | nil => exact Byt.cons (by decide) Byt.nil
  | cons y ys => exact pscale_byt (ginv_lt _) _

theorem wpol_length (s : Nat) (ys : List Nat) : (wpol s ys).length = ys.length + 1 := by
  induction ys with
  | nil => rfl
  | cons y ys ih => rw [wpol, pscale, List.length_map, mlin_length, ih]; rfl

theorem pev_wpol {x s : Nat} (hx : x < 256) (ys : List Nat) (hy : Byt ys) : pev (wpol s ys) x = wt x s ys := by
  induction ys with
  | nil => show 1 ^^^ gmul x 0 = 1; rw [gmul_zero hx]; rfl
  | cons y ys ih =>
    have h1 := wpol_byt (s := s) ys hy.tail
    rw [wpol, pev_pscale (ginv_lt _) hx _ (mlin_byt hy.head h1), pev_mlin hy.head hx _ h1, ih hy.tail, wt,
      ← gmul_assoc (ginv_lt _) (xor_lt8 hx hy.head), gmul_comm (ginv_lt _) (xor_lt8 hx hy.head)]

theorem wt_one {s : Nat} (hs : s < 256) (ys : List Nat) (hy : Byt ys) (h : s ∉ ys) : wt s s ys = 1 := by
  induction ys with
  | nil => rfl
  | cons y ys ih =>
    have hne : s ^^^ y ≠ 0 := fun e => h (by rw [xor_self_zero e]; simp)
    rw [wt, ginv_mul (xor_lt8 hs hy.head) hne, ih hy.tail (fun hm => h (by simp [hm])), gmul_one_left (by decide)]

theorem wt_zero {x s : Nat} (hx : x < 256) (ys : List Nat) (hy : Byt ys) (h : x ∈ ys) : wt x s ys = 0 := by
  induction ys with
  | nil => cases h
  | cons y ys ih =>
    rw [wt]
    rcases List.mem_cons.1 h with rfl | h
    · rw [Nat.xor_self, gmul_zero_left, gmul_zero_left]
    · rw [ih hy.tail h, gmul_zero (gmul_lt (xor_lt8 hx hy.head) _)]

/-- All others. -/
def oth (s : Nat) (all : List Nat) : List Nat := all.filter (fun y => decide (y ≠ s))

theorem oth_byt {s : Nat} {all : List Nat} (h : Byt all) : Byt (oth s all) := fun x hx => h x (List.mem_filter.1 hx).1

theorem oth_not (s : Nat) (all : List Nat) : s ∉ oth s all := fun h => by
  have := (List.mem_filter.1 h).2
  simp at this

theorem oth_mem {x s : Nat} {all : List Nat} (h : x ∈ all) (hne : x ≠ s) : x ∈ oth s all := List.mem_filter.2 ⟨h, by simpa using hne⟩

theorem oth_length {s : Nat} {all : List Nat} (hd : all.Nodup) (h : s ∈ all) : (oth s all).length + 1 = all.length := by
  induction all with
  | nil => cases h
  | cons y ys ih =>
    obtain ⟨h1, h2⟩ := List.nodup_cons.1 hd
    unfold oth
    rw [List.filter_cons]
    by_cases e : y = s
    · subst e
      simp only [ne_eq, not_true_eq_false, decide_false, Bool.false_eq_true, if_false]
      rw [List.filter_eq_self.2 (fun z hz => by
        have : z ≠ y := fun e => h1 (e ▸ hz)
        simpa using this)]
      rfl
    · have hs : s ∈ ys := by
        rcases List.mem_cons.1 h with h | h
        · exact absurd h.symm e
        · exact h
      have := ih h2 hs
      unfold oth at this
      simp [e]
      simpa using this

/-- The value at x of the polynomial that is at bytes what is told. -/
def lsum (all : List Nat) (x : Nat) : List (Nat × Nat) → Nat
  | [] => 0
  | (s, v) :: r => gmul (wt x s (oth s all)) v ^^^ lsum all x r

/-- Its factors. -/
def lpol (all : List Nat) : List (Nat × Nat) → List Nat
  | [] => []
  | (s, v) :: r => padd (pscale v (wpol s (oth s all))) (lpol all r)

theorem lpol_byt (all : List Nat) (ps : List (Nat × Nat)) (hv : ∀ p ∈ ps, p.2 < 256) : Byt (lpol all ps) := by
  induction ps with
  | nil => exact Byt.nil
  | cons p r ih => exact padd_byt (pscale_byt (hv p (by simp)) _) (ih (fun q hq => hv q (by simp [hq])))

theorem lpol_length {all : List Nat} (hd : all.Nodup) (ps : List (Nat × Nat)) (hs : ∀ p ∈ ps, p.1 ∈ all) (h0 : ps ≠ []) : (lpol all ps).length = all.length := by
  induction ps with
  | nil => exact absurd rfl h0
  | cons p r ih =>
    have h1 := oth_length hd (hs p (by simp))
    rw [lpol, padd_length, pscale, List.length_map, wpol_length, h1]
    cases r with
    | nil => simp [lpol]
    | cons q r => rw [ih (fun t ht => hs t (by simp [ht])) (by simp), Nat.max_self]

theorem pev_lpol {all : List Nat} (ha : Byt all) {x : Nat} (hx : x < 256) (ps : List (Nat × Nat)) (hv : ∀ p ∈ ps, p.2 < 256) : pev (lpol all ps) x = lsum all x ps := by
  induction ps with
  | nil => rfl
  | cons p r ih =>
    have hw := wpol_byt (s := p.1) (oth p.1 all) (oth_byt ha)
    rw [lpol, pev_padd, pev_pscale (hv p (by simp)) hx _ hw, ih (fun q hq => hv q (by simp [hq])), pev_wpol hx _ (oth_byt ha), lsum,
      gmul_comm (hv p (by simp)) (wt_lt hx _ (oth_byt ha))]

theorem lsum_off {all : List Nat} (ha : Byt all) {x : Nat} (hx : x < 256) (hm : x ∈ all) (ps : List (Nat × Nat)) (h : ∀ p ∈ ps, p.1 ≠ x) : lsum all x ps = 0 := by
  induction ps with
  | nil => rfl
  | cons p r ih =>
    rw [lsum, wt_zero hx _ (oth_byt ha) (oth_mem hm (fun e => h p (by simp) e.symm)), gmul_zero_left, ih (fun q hq => h q (by simp [hq]))]
    rfl

/-- At a byte that is told, it is what is told. -/
theorem lsum_at {all : List Nat} (ha : Byt all) {ps : List (Nat × Nat)} (hs : ∀ p ∈ ps, p.1 ∈ all) (hv : ∀ p ∈ ps, p.2 < 256) (hd : (ps.map (·.1)).Nodup) {s v : Nat} (h : (s, v) ∈ ps) : lsum all s ps = v := by
  have hm := hs _ h
  have hsl := ha s hm
  induction ps with
  | nil => cases h
  | cons p r ih =>
    obtain ⟨h1, h2⟩ := List.nodup_cons.1 hd
    rcases List.mem_cons.1 h with rfl | h
    · rw [lsum, wt_one hsl _ (oth_byt ha) (oth_not _ _), gmul_one_left (hv (s, v) (by simp)), lsum_off ha hsl hm r (fun q hq e => h1 (List.mem_map.2 ⟨q, hq, e⟩)), Nat.xor_zero]
    · have hne : s ≠ p.1 := fun e => h1 (List.mem_map.2 ⟨(s, v), h, e⟩)
      rw [lsum, wt_zero hsl _ (oth_byt ha) (oth_mem hm hne), gmul_zero_left, Nat.zero_xor]
      exact ih (fun q hq => hs q (by simp [hq])) (fun q hq => hv q (by simp [hq])) h2 h

/-- Two that agree at as many bytes as they have factors are the same. -/
theorem pev_only (xs : List Nat) (hx : Byt xs) (hd : xs.Nodup) (f g : List Nat) (hf : Byt f) (hg : Byt g) (hl : f.length ≤ xs.length) (hk : g.length = f.length) (h : ∀ x ∈ xs, pev f x = pev g x) : f = g := by
  have z := roots xs hx hd (padd f g) (padd_byt hf hg) (by rw [padd_length]; omega) (fun x hm => by rw [pev_padd, h x hm, Nat.xor_self])
  clear hx hd hl h hf hg
  induction f generalizing g with
  | nil => exact (List.eq_nil_of_length_eq_zero hk).symm
  | cons a f ih =>
    cases g with
    | nil => cases hk
    | cons b g =>
      have e := xor_self_zero (z (a ^^^ b) (by simp [padd]))
      rw [e, ih g (by simpa using hk) (fun c hc => z c (by rw [padd]; simp [hc]))]

/-- The value as the document reckons it: a sum of powers. -/
def psum : Nat → List Nat → Nat → Nat
  | _, [], _ => 0
  | i, c :: f, x => gmul c (gpow x i) ^^^ psum (i + 1) f x

theorem psum_shift {x : Nat} (hx : x < 256) (f : List Nat) (hf : Byt f) (i : Nat) : psum (i + 1) f x = gmul x (psum i f x) := by
  induction f generalizing i with
  | nil => show 0 = gmul x 0; rw [gmul_zero hx]
  | cons c f ih =>
    rw [psum, psum, ih hf.tail (i + 1), ih hf.tail i, gmul_xor]
    congr 1
    show gmul c (gmul (gpow x i) x) = gmul x (gmul c (gpow x i))
    rw [← gmul_assoc hf.head (gpow_lt hx i), gmul_comm (gmul_lt hf.head _) hx]

theorem psum_pev {x : Nat} (hx : x < 256) (f : List Nat) (hf : Byt f) : psum 0 f x = pev f x := by
  induction f with
  | nil => rfl
  | cons c f ih =>
    rw [psum, psum_shift hx f hf.tail 0, ih hf.tail]
    show gmul c 1 ^^^ _ = _
    rw [gmul_one hf.head]; rfl

end Go.Proofs.YthbfdfkkacmbhabDoor.Bt
