/- Plain: groups that go round: what layer 6 answers; no program is named here. -/
import Derived.Test.YtonlhddcdipgjaaPure
namespace Go.Proofs.Ytonlhddcdipgjaa.Bt

/-- Is a number a group? -/
def isG (g : Int) : Bool := decide (0 ≤ g) && decide (g ≤ 255)

theorem isG_true {g : Int} (h : isG g = true) : 0 ≤ g ∧ g ≤ 255 := by simpa [isG] using h

theorem isG_false {g : Int} (h : isG g = false) : g < 0 ∨ 255 < g := by
  simp [isG] at h; omega

theorem isG_of {g : Int} (h : 0 ≤ g ∧ g ≤ 255) : isG g = true := by simp [isG, h]

/-- How far. -/
def farA (b g : Int) : Int := if isG b = true ∧ isG g = true then (g - b) % 256 else -1

/-- The group some steps behind. -/
def nextA (g n : Int) : Int := if isG g = true then (g + n) % 256 else -1

def openA (b g : Int) : Bool := decide (0 ≤ farA b g) && decide (farA b g ≤ 3)

def behindA (b g : Int) : Bool := decide (128 ≤ farA b g)

/-- Are they a group and a place? -/
def isM (g p : Int) : Bool := isG g && (decide (0 ≤ p) && decide (p ≤ 15))

def makeA (g p : Int) : Int := if isM g p = true then g * 16 + p else 0

def isS (n : Int) : Bool := decide (0 ≤ n) && decide (n ≤ 4095)

def splitG (n : Int) : Int := if isS n = true then n / 16 else 0

def splitP (n : Int) : Int := if isS n = true then n % 16 else 0

theorem farA_in {b g : Int} (hb : 0 ≤ b ∧ b ≤ 255) (hg : 0 ≤ g ∧ g ≤ 255) : farA b g = (g - b) % 256 := by
  unfold farA; rw [if_pos ⟨isG_of hb, isG_of hg⟩]

theorem nextA_in {g : Int} (n : Int) (hg : 0 ≤ g ∧ g ≤ 255) : nextA g n = (g + n) % 256 := by
  unfold nextA; rw [if_pos (isG_of hg)]

end Go.Proofs.Ytonlhddcdipgjaa.Bt
