/- Plain: a table of layer 9: its state, what its calls answer, and what becomes of it; no program is named here. -/
import Derived.Test.YtohedeeajcdjcaaDoorFramePure
namespace Go.Proofs.YtohedeeajcdjcaaDoor.Bt

/-- One that is followed. -/
structure Sen where
  tx : Int
  ant : Int
  rssi : Int
  last : Int
  deriving DecidableEq

/-- A table. -/
structure Tab where
  room : Nat
  age : Nat
  margin : Nat
  l : List Sen

/-- May a config be? -/
def mayR (r a m : Int) : Bool := decide (1 ≤ r) && (decide (r ≤ 8) && (decide (1 ≤ a) && (decide (a ≤ 1000) && (decide (0 ≤ m) && decide (m ≤ 127)))))

theorem mayR_true {r a m : Int} (h : mayR r a m = true) : 1 ≤ r ∧ r ≤ 8 ∧ 1 ≤ a ∧ a ≤ 1000 ∧ 0 ≤ m ∧ m ≤ 127 := by
  simpa [mayR] using h

/-- May there be a frame of these? -/
def isRx (tx ant rssi : Int) : Bool := isFrm tx 0 ant rssi 0 0

theorem isRx_true {tx ant rssi : Int} (h : isRx tx ant rssi = true) : (0 ≤ tx ∧ tx < 256) ∧ (0 ≤ ant ∧ ant < 8) ∧ (0 ≤ rssi ∧ rssi < 128) := by
  have := isFrm_iff.1 h
  exact ⟨this.1, this.2.2.1, this.2.2.2.1⟩

theorem isRx_mk {tx ant rssi : Int} (h1 : 0 ≤ tx ∧ tx < 256) (h2 : 0 ≤ ant ∧ ant < 8) (h3 : 0 ≤ rssi ∧ rssi < 128) : isRx tx ant rssi = true :=
  isFrm_iff.2 ⟨h1, by omega, h2, h3, by omega, by omega⟩

/-- What comes of one that is followed. -/
def hearOut (margin : Nat) (s : Sen) (ant rssi : Int) : Int := if s.ant ≠ ant ∧ (margin : Int) ≤ rssi - s.rssi then 2 else 0

/-- It, heard. -/
def hearS (margin : Nat) (s : Sen) (ant rssi now : Int) : Sen :=
  if hearOut margin s ant rssi = 2 ∨ s.ant = ant then ⟨s.tx, ant, rssi, now⟩ else ⟨s.tx, s.ant, s.rssi, now⟩

/-- Its place. -/
def findT (l : List Sen) (tx : Int) : Option Nat := l.findIdx? (fun s => decide (s.tx = tx))

/-- What comes of it. -/
def hearT (x : Tab) (tx ant rssi : Int) : Int :=
  if isRx tx ant rssi = true then
    match findT x.l tx with
    | some i => hearOut x.margin (x.l.getD i ⟨0, 0, 0, 0⟩) ant rssi
    | none => if x.l.length < x.room then 1 else 3
  else 3

/-- The table, behind. -/
def hearX (x : Tab) (tx ant rssi now : Int) : Tab :=
  if isRx tx ant rssi = true then
    match findT x.l tx with
    | some i => { x with l := x.l.set i (hearS x.margin (x.l.getD i ⟨0, 0, 0, 0⟩) ant rssi now) }
    | none => if x.l.length < x.room then { x with l := x.l ++ [⟨tx, ant, rssi, now⟩] } else x
  else x

/-- Is one forgotten? -/
def oldS (x : Tab) (now : Int) (s : Sen) : Bool := decide (s.last + x.age < now)

def goneX (x : Tab) (now : Int) : List Int := (x.l.filter (oldS x now)).map (fun s => s.tx)

def forgetX (x : Tab) (now : Int) : Tab := { x with l := x.l.filter (fun s => !oldS x now s) }

/-- A home. -/
def homeA (x : Tab) (tx : Int) : Int := match findT x.l tx with
  | some i => (x.l.getD i ⟨0, 0, 0, 0⟩).ant
  | none => 0

def homeB (x : Tab) (tx : Int) : Bool := (findT x.l tx).isSome

/-- What may be. -/
structure Tab.Ok (x : Tab) : Prop where
  may : mayR x.room x.age x.margin = true
  few : x.l.length ≤ x.room
  each : ∀ s ∈ x.l, isRx s.tx s.ant s.rssi = true ∧ 0 ≤ s.last ∧ s.last ≤ 2 ^ 40
  once : (x.l.map (fun s => s.tx)).Nodup

def tab0 (r a m : Nat) : Tab := ⟨r, a, m, []⟩

theorem tab0_ok {r a m : Nat} (h : mayR r a m = true) : (tab0 r a m).Ok := ⟨h, Nat.zero_le _, (fun s hs => by cases hs), List.nodup_nil⟩

theorem findT_some {l : List Sen} {tx : Int} {i : Nat} (h : findT l tx = some i) : ∃ hi : i < l.length, l[i].tx = tx ∧ ∀ j, (hj : j < i) → (l[j]'(Nat.lt_trans hj hi)).tx ≠ tx := by
  unfold findT at h
  rw [List.findIdx?_eq_some_iff_getElem] at h
  obtain ⟨hi, h1, h2⟩ := h
  exact ⟨hi, by simpa using h1, fun j hj => by simpa using h2 j hj⟩

theorem findT_none {l : List Sen} {tx : Int} (h : findT l tx = none) : ∀ s ∈ l, s.tx ≠ tx := by
  unfold findT at h
  rw [List.findIdx?_eq_none_iff] at h
  intro s hs
  simpa using h s hs

theorem hearS_tx (m : Nat) (s : Sen) (ant rssi now : Int) : (hearS m s ant rssi now).tx = s.tx ∧ (hearS m s ant rssi now).last = now := by
  unfold hearS; split <;> exact ⟨rfl, rfl⟩

theorem set_tx (l : List Sen) (i : Nat) (s : Sen) (h : ∀ hi : i < l.length, s.tx = l[i].tx) : (l.set i s).map (fun s => s.tx) = l.map (fun s => s.tx) := by
  apply List.ext_getElem
  · simp
  · intro j h1 h2
    simp only [List.getElem_map, List.getElem_set]
    split
    · rename_i e
      subst e
      exact h (by simpa using h2)
    · rfl

theorem hearX_ok {x : Tab} (h : x.Ok) (tx ant rssi now : Int) (hn : 0 ≤ now ∧ now ≤ 2 ^ 40) : (hearX x tx ant rssi now).Ok := by
  unfold hearX
  split
  · rename_i hr
    have hr' := isRx_true hr
    split
    · rename_i i hf
      obtain ⟨hi, ht, _⟩ := findT_some hf
      have hg : x.l.getD i ⟨0, 0, 0, 0⟩ = x.l[i] := by simp [hi]
      rw [hg]
      refine ⟨h.may, by simpa using h.few, fun s hs => ?_, ?_⟩
      · rcases List.mem_or_eq_of_mem_set hs with q | q
        · exact h.each s q
        · subst q
          have he := h.each x.l[i] (List.getElem_mem hi)
          have he' := isRx_true he.1
          unfold hearS
          split
          · exact ⟨isRx_mk he'.1 hr'.2.1 hr'.2.2, hn⟩
          · exact ⟨he.1, hn⟩
      · show ((x.l.set i _).map (fun s => s.tx)).Nodup
        rw [set_tx _ _ _ (fun _ => (hearS_tx _ _ _ _ _).1)]
        exact h.once
    · rename_i hf
      split
      · refine ⟨h.may, by simp; omega, fun s hs => ?_, ?_⟩
        · rcases List.mem_append.1 hs with q | q
          · exact h.each s q
          · obtain rfl := List.mem_singleton.1 q
            exact ⟨hr, hn⟩
        · show ((x.l ++ [(⟨tx, ant, rssi, now⟩ : Sen)]).map (fun s => s.tx)).Nodup
          rw [List.map_append, List.nodup_append]
          refine ⟨h.once, by simp, fun a ha b hb => ?_⟩
          obtain ⟨s, hs, rfl⟩ := List.mem_map.1 ha
          have : b = tx := by simpa using hb
          rw [this]
          exact findT_none hf s hs
      · exact h
  · exact h

theorem forgetX_ok {x : Tab} (h : x.Ok) (now : Int) : (forgetX x now).Ok := by
  refine ⟨h.may, Nat.le_trans (List.length_filter_le _ _) h.few, fun s hs => h.each s (List.mem_filter.1 hs).1, ?_⟩
  exact h.once.sublist ((List.filter_sublist).map _)

end Go.Proofs.YtohedeeajcdjcaaDoor.Bt
