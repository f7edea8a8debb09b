/- Two collectors side by side, the program's and the document's: neither touches the other's blocks. -/
import Derived.Test.YtceekoifljeddaaMCo
import Derived.Test.YtceekoifljeddaaMRefB
import Derived.Test.YtceekoifljeddaaRefSevK
namespace Go.Proofs.Ytceekoifljeddaa
open Go.RowKit
open Bt

/-- Both lie outside F, what is held; the document's below H. -/
def Two (F : Nat → Prop) (H : Nat) (w : World) (b r : Nat) (x y : Col) : Prop :=
  ∃ S T, Coll S w b x ∧ RefC T w r y ∧ (∀ k, S k → ¬ T k) ∧ (∀ k, S k → ¬ F k) ∧ (∀ k, T k → ¬ F k ∧ k < H) ∧ (∀ k, F k → k < w.heap.size)

variable {F : Nat → Prop} {H : Nat} {w w' : World} {b r : Nat} {x y : Col}

theorem RefC.lt {T : Nat → Prop} (h : RefC T w r y) : ∀ k, T k → k < w.heap.size := by
  obtain ⟨_, _, _, _, _, _, h⟩ := h
  exact h.lt

theorem Two.ok (h : Two F H w b r x y) : x.Ok ∧ y.Ok := by
  obtain ⟨S, T, h1, ⟨_, _, _, _, _, _, h2⟩, _⟩ := h
  exact ⟨h1.ok, h2.ok⟩

theorem Two.here (h : Two F H w b r x y) : Two F w.heap.size w b r x y := by
  obtain ⟨S, T, h1, h2, h3, h4, h5, h6⟩ := h
  exact ⟨S, T, h1, h2, h3, h4, fun k hk => ⟨(h5 k hk).1, h2.lt k hk⟩, h6⟩

theorem Two.below (h : Two F H w b r x y) (hb : Below w.heap.size w w') : Two F H w' b r x y := by
  obtain ⟨S, T, h1, h2, h3, h4, h5, h6⟩ := h
  exact ⟨S, T, h1.kept (below_chg hb) (fun _ _ => id), h2.below hb, h3, h4, h5, fun k hk => Nat.lt_of_lt_of_le (h6 k hk) hb.size⟩

theorem Two.less {G : Nat → Prop} (h : Two F H w b r x y) (hG : ∀ k, G k → F k) : Two G H w b r x y := by
  obtain ⟨S, T, h1, h2, h3, h4, h5, h6⟩ := h
  exact ⟨S, T, h1, h2, h3, fun k hk q => h4 k hk (hG k q), fun k hk => ⟨fun q => (h5 k hk).1 (hG k q), (h5 k hk).2⟩, fun k hk => h6 k (hG k hk)⟩

/-- Behind more memory, that is held, too. -/
theorem Two.grow (h : Two F H w b r x y) (hb : Below w.heap.size w w') : Two (fun k => F k ∨ (w.heap.size ≤ k ∧ k < w'.heap.size)) w.heap.size w' b r x y := by
  obtain ⟨S, T, h1, h2, h3, h4, h5, h6⟩ := h
  refine ⟨S, T, h1.kept (below_chg hb) (fun _ _ => id), h2.below hb, h3, fun k hk q => ?_, fun k hk => ⟨fun q => ?_, h2.lt k hk⟩, fun k q => ?_⟩
  · rcases q with q | ⟨q, _⟩
    · exact h4 k hk q
    · have := h1.lt k hk; omega
  · rcases q with q | ⟨q, _⟩
    · exact (h5 k hk).1 q
    · have := h2.lt k hk; omega
  · rcases q with q | ⟨_, q⟩
    · exact Nat.lt_of_lt_of_le (h6 k q) hb.size
    · exact q

/-- The document's base, as it lies. -/
theorem Two.base (h : Two F H w b r x y) : w.cell? ⟨r, 3, none⟩ = some (.int .i64 (y.base : Int)) := by
  obtain ⟨S, T, _, ⟨_, _, _, _, _, _, h2⟩, _⟩ := h
  exact h2.cells.2.2.2.1

theorem chg_cell (h : Chg (fun k => ¬ F k) w w') {a : Addr} {v : Value} (hc : w.cell? a = some v) (hF : F a.block) : w'.cell? a = some v := cell_chg h hc (fun q => q hF)

theorem chg_below (h : Chg (fun k => ¬ F k) w w') {B : Nat} (hB : B ≤ w.heap.size) (hF : ∀ k, k < B → F k) : Below B w w' :=
  h.below hB (fun k hk => by
    rcases Nat.lt_or_ge k B with q | q
    · exact absurd (hF k q) hk
    · exact q)

theorem Two.left {S T : Nat → Prop} {z : Col} (h2 : RefC T w r y) (h3 : ∀ k, S k → ¬ T k) (h4 : ∀ k, S k → ¬ F k) (h5 : ∀ k, T k → ¬ F k ∧ k < H) (h6 : ∀ k, F k → k < w.heap.size) (hl : Left S w w' b z) : Two F H w' b r z y ∧ Chg (fun k => ¬ F k) w w' := by
  obtain ⟨S', q1, q2, q3⟩ := hl
  refine ⟨⟨S', T, q1, h2.kept q2 (fun k hk q => h3 k q hk), fun k hk ht => ?_, fun k hk hf => ?_, h5, fun k hk => Nat.lt_of_lt_of_le (h6 k hk) q2.size⟩, q2.mono (fun k hk _ => h4 k hk)⟩
  · rcases q3 k hk with q | q
    · exact h3 k q ht
    · have := h2.lt k ht; omega
  · rcases q3 k hk with q | q
    · exact h4 k q hf
    · have := h6 k hf; omega

theorem Two.leftR {S T : Nat → Prop} {z : Col} (h1 : Coll S w b x) (h3 : ∀ k, S k → ¬ T k) (h4 : ∀ k, S k → ¬ F k) (h5 : ∀ k, T k → ¬ F k ∧ k < H) (h6 : ∀ k, F k → k < w.heap.size) (hl : RefLeft T w w' r z) : Two F w'.heap.size w' b r x z ∧ Chg (fun k => ¬ F k) w w' := by
  obtain ⟨T', q1, q2, q3⟩ := hl
  refine ⟨⟨S, T', h1.kept q2 (fun k hk q => h3 k hk q), q1, fun k hk ht => ?_, h4, fun k hk => ⟨fun hf => ?_, q1.lt k hk⟩, fun k hk => Nat.lt_of_lt_of_le (h6 k hk) q2.size⟩, q2.mono (fun k hk _ => (h5 k hk).1)⟩
  · rcases q3 k ht with q | q
    · exact h3 k hk q
    · have := h1.lt k hk; omega
  · rcases q3 k hk with q | q
    · exact (h5 k q).1 hf
    · have := h6 k hf; omega

theorem two_shard (g p : Int) (ao : Option Addr) (cap : Nat) (bs : List Nat) (hY : Byt bs) (hroom : Room ao cap bs.length) (h : Two F H w b r x y) (hr : Reads w ao bs) (hF : 0 < bs.length → ∀ ad, ao = some ad → F ad.block) :
    Calls Try.prog 13 #[.pointer (some ⟨b, 0, none⟩), .int .i64 g, .int .i64 p, .slice ao bs.length cap] w fun e w' => e = .returned (.int .i64 (shardE x g p bs.length)) ∧ Two F H w' b r (shardC x g p bs) y ∧ Chg (fun k => ¬ F k) w w' := by
  obtain ⟨S, T, h1, h2, h3, h4, h5, h6⟩ := h
  refine (cshard_any b g p ao cap bs hY hroom S x w h1 hr (fun h0 ad ha q => h4 _ q (hF h0 ad ha))).mono ?_
  rintro e w' ⟨rfl, hl⟩
  exact ⟨rfl, Two.left h2 h3 h4 h5 h6 hl⟩

theorem two_skip (g : Int) (h : Two F H w b r x y) :
    Calls Try.prog 14 #[.pointer (some ⟨b, 0, none⟩), .int .i64 g] w fun e w' => e = .returned (.int .i64 (skipE x g)) ∧ Two F H w' b r (skipC x g) y ∧ Chg (fun k => ¬ F k) w w' := by
  obtain ⟨S, T, h1, h2, h3, h4, h5, h6⟩ := h
  refine (cskip_any b g S x w h1).mono ?_
  rintro e w' ⟨rfl, hl⟩
  exact ⟨rfl, Two.left h2 h3 h4 h5 h6 hl⟩

theorem two_due (h : Two F H w b r x y) :
    Calls Try.prog 15 #[.pointer (some ⟨b, 0, none⟩)] w fun e w' => ∃ v, e = .returned v ∧ PartsAt w.heap.size w' v (dueP x) ∧ Two F w.heap.size w' b r (dueC x) y ∧ Chg (fun k => ¬ F k) w w' := by
  obtain ⟨S, T, h1, h2, h3, h4, h5, h6⟩ := h
  refine (cdue_any b S x w h1).mono ?_
  rintro e w' ⟨v, rfl, hp, hl⟩
  exact ⟨v, rfl, hp, Two.left h2 h3 h4 (fun k hk => ⟨(h5 k hk).1, h2.lt k hk⟩) h6 hl⟩

theorem two_base (h : Two F H w b r x y) :
    Calls Try.prog 16 #[.pointer (some ⟨b, 0, none⟩)] w fun e w' => e = .returned (.int .i64 (x.base : Int)) ∧ Below w.heap.size w w' := by
  obtain ⟨S, T, h1, _⟩ := h
  exact cbase_any b S x w h1

theorem two_ready (h : Two F H w b r x y) :
    Calls Try.prog 17 #[.pointer (some ⟨b, 0, none⟩)] w fun e w' => e = .returned (.int .i64 (readyN x : Int)) ∧ Below w.heap.size w w' := by
  obtain ⟨S, T, h1, _⟩ := h
  exact cready_any b S x w h1

theorem two_have (g : Int) (hg : isI g) (h : Two F H w b r x y) :
    Calls Try.prog 18 #[.pointer (some ⟨b, 0, none⟩), .int .i64 g] w fun e w' => e = .returned (.int .i64 (haveN x g : Int)) ∧ Below w.heap.size w w' := by
  obtain ⟨S, T, h1, _⟩ := h
  exact chave_any b g hg S x w h1

theorem two_rshard (g p : Int) (hp : -9223372036854775808 ≤ p ∧ p ≤ 9223372036854775807) (ao : Option Addr) (cap : Nat) (bs : List Nat) (hY : Byt bs) (hroom : Room ao cap bs.length) (h : Two F H w b r x y) (hr : Reads w ao bs) :
    Calls Try.prog 20 #[.pointer (some ⟨r, 0, none⟩), .int .i64 g, .int .i64 p, .slice ao bs.length cap] w fun e w' => e = .returned (.int .i64 (shardE y g p bs.length)) ∧ Two F w'.heap.size w' b r x (shardC y g p bs) ∧ Chg (fun k => ¬ F k) w w' := by
  obtain ⟨S, T, h1, h2, h3, h4, h5, h6⟩ := h
  refine (refShard_any g p hp ao cap bs hY w hr hroom.1 h2).mono ?_
  rintro e w' ⟨rfl, hl⟩
  exact ⟨rfl, Two.leftR h1 h3 h4 h5 h6 hl⟩

theorem two_rskip (g : Int) (h : Two F H w b r x y) :
    Calls Try.prog 21 #[.pointer (some ⟨r, 0, none⟩), .int .i64 g] w fun e w' => e = .returned (.int .i64 (skipE y g)) ∧ Two F w'.heap.size w' b r x (skipC y g) ∧ Chg (fun k => ¬ F k) w w' := by
  obtain ⟨S, T, h1, h2, h3, h4, h5, h6⟩ := h
  refine (refSkip_left g w h2).mono ?_
  rintro e w' ⟨rfl, hl⟩
  exact ⟨rfl, Two.leftR h1 h3 h4 h5 h6 hl⟩

theorem two_rdue (h : Two F H w b r x y) :
    Calls Try.prog 23 #[.pointer (some ⟨r, 0, none⟩)] w fun e w' => ∃ v, e = .returned v ∧ PartsAt w.heap.size w' v (dueP y) ∧ Two F w'.heap.size w' b r x (dueC y) ∧ Chg (fun k => ¬ F k) w w' ∧ ∀ va ps, PartsAt H w va ps → PartsAt H w' va ps := by
  obtain ⟨S, T, h1, h2, h3, h4, h5, h6⟩ := h
  refine (refDue_any w h2).mono ?_
  rintro e w' ⟨v, rfl, hp, hl⟩
  have hq := Two.leftR h1 h3 h4 h5 h6 hl
  obtain ⟨T', _, q2, _⟩ := hl
  exact ⟨v, rfl, hp, hq.1, hq.2, fun va ps ha => ha.kept q2 (fun k hk ht => by have := (h5 k ht).2; omega)⟩

theorem two_rready (h : Two F H w b r x y) :
    Calls Try.prog 24 #[.pointer (some ⟨r, 0, none⟩)] w fun e w' => e = .returned (.int .i64 (readyN y : Int)) ∧ Below w.heap.size w w' := by
  obtain ⟨S, T, _, ⟨_, _, _, _, _, _, h2⟩, _⟩ := h
  exact refReady_any w h2

theorem two_rhave (g : Int) (h : Two F H w b r x y) :
    Calls Try.prog 25 #[.pointer (some ⟨r, 0, none⟩), .int .i64 g] w fun e w' => e = .returned (.int .i64 (haveN y g : Int)) ∧ Below w.heap.size w w' := by
  obtain ⟨S, T, _, ⟨_, _, _, _, _, _, h2⟩, _⟩ := h
  exact refHave_any g w h2

/-- Both new: behind the program's New the document's. -/
theorem two_new {S : Nat → Prop} {B K N Z g : Nat} (hc : Coll S w b x) (hS : ∀ k, S k → B ≤ k) (hs : B ≤ w.heap.size) (hok : mayC K N Z = true) (hg : g < 256) :
    Calls Try.prog 19 #[Cd K N Z, .int .i64 (g : Int)] w fun e w' => ∃ r, e = .returned (.pointer (some ⟨r, 0, none⟩)) ∧ Two (fun k => k < B) w'.heap.size w' b r x (col0 K N Z g) ∧ Below w.heap.size w w' := by
  refine (refNew_any K N Z g hok hg w).mono ?_
  rintro e w' ⟨r, T, rfl, q1, q2, q3⟩
  have q4 := q3.size
  exact ⟨r, rfl, ⟨S, T, hc.kept (below_chg q3) (fun _ _ => id), q1, fun k hk ht => by have := hc.lt k hk; have := q2 k ht; omega, fun k hk q => by have := hS k hk; omega, fun k hk => ⟨fun q => by have := q2 k hk; omega, q1.lt k hk⟩, fun k hk => by omega⟩, q3⟩

end Go.Proofs.Ytceekoifljeddaa
