/- DERIVED of nothing: what a tree of bits does, looked at in every case. Own work. -/
import Derived.Test.YtcackmmfnojpfaaDoorPlB
namespace Go.Proofs.YtcackmmfnojpfaaDoor
open Go.RowKit Go.Extern.Stop Go.Stop Go.Extern

def isW (ways : Int) : Prop := ways = 1 ∨ ways = 2 ∨ ways = 4 ∨ ways = 8

theorem seen1 : ∀ b, b < 256 → ∀ y, y < 1 → victimI (touchI b 1 (y : Nat)) 1 = 0 := by decide +kernel
theorem seen2 : ∀ b, b < 256 → ∀ y, y < 2 → 0 ≤ victimI (touchI b 2 (y : Nat)) 2 ∧ victimI (touchI b 2 (y : Nat)) 2 < 2 ∧ victimI (touchI b 2 (y : Nat)) 2 ≠ y := by decide +kernel
theorem seen4 : ∀ b, b < 256 → ∀ y, y < 4 → 0 ≤ victimI (touchI b 4 (y : Nat)) 4 ∧ victimI (touchI b 4 (y : Nat)) 4 < 4 ∧ victimI (touchI b 4 (y : Nat)) 4 ≠ y := by decide +kernel
theorem seen8 : ∀ b, b < 256 → ∀ y, y < 8 → 0 ≤ victimI (touchI b 8 (y : Nat)) 8 ∧ victimI (touchI b 8 (y : Nat)) 8 < 8 ∧ victimI (touchI b 8 (y : Nat)) 8 ≠ y := by decide +kernel

/-- The victim is a way, and not what was touched last. -/
theorem turned {b : Nat} {ways y : Int} (h : isW ways) (hb : b < 256) (h0 : 0 ≤ y) (h1 : y < ways) : 0 ≤ victimI (touchI b ways y) ways ∧ victimI (touchI b ways y) ways < ways ∧ (1 < ways → victimI (touchI b ways y) ways ≠ y) := by
  obtain ⟨n, rfl⟩ : ∃ n : Nat, y = (n : Int) := ⟨y.toNat, by omega⟩
  rcases h with rfl | rfl | rfl | rfl
  · have := seen1 b hb n (by omega); omega
  · have := seen2 b hb n (by omega); omega
  · have := seen4 b hb n (by omega); omega
  · have := seen8 b hb n (by omega); omega

/-- The victims in turn, each touched: the bits behind i of them, and which ways were seen. -/
def turnS (ways : Int) : Nat → Nat → Nat × List Bool
  | 0, b => (b, [false, false, false, false, false, false, false, false])
  | i + 1, b => (touchI (turnS ways i b).1 ways (victimI (turnS ways i b).1 ways), (turnS ways i b).2.set (victimI (turnS ways i b).1 ways).toNat true)

def okT (ways : Int) (p : Nat × List Bool) : Bool := decide (p.1 < 256) && decide (0 ≤ victimI p.1 ways) && decide (victimI p.1 ways < ways) && decide (p.2.length = 8) && decide (p.2[(victimI p.1 ways).toNat]? = some false)
theorem turns1 : ∀ b, b < 256 → ∀ i, i < 1 → okT 1 (turnS 1 i b) = true := by decide +kernel
theorem turns2 : ∀ b, b < 256 → ∀ i, i < 2 → okT 2 (turnS 2 i b) = true := by decide +kernel
theorem turns4 : ∀ b, b < 256 → ∀ i, i < 4 → okT 4 (turnS 4 i b) = true := by decide +kernel
theorem turns8 : ∀ b, b < 256 → ∀ i, i < 8 → okT 8 (turnS 8 i b) = true := by decide +kernel

/-- All ways touched in a row, up or down. -/
def rowS (ways : Int) (down : Bool) (b : Nat) : Nat → Nat
  | 0 => b
  | i + 1 => touchI (rowS ways down b i) ways (if down then ways - 1 - i else i)
theorem rowS_lt (ways : Int) (down : Bool) (b : Nat) (hb : b < 256) : ∀ i, rowS ways down b i < 256
  | 0 => hb
  | i + 1 => touchI_lt (rowS_lt ways down b hb i) _ _
theorem row1 : ∀ b, b < 256 → ∀ d : Bool, victimI (rowS 1 d b 1) 1 = if d then 1 - 1 else 0 := by decide +kernel
theorem row2 : ∀ b, b < 256 → ∀ d : Bool, victimI (rowS 2 d b 2) 2 = if d then 2 - 1 else 0 := by decide +kernel
theorem row4 : ∀ b, b < 256 → ∀ d : Bool, victimI (rowS 4 d b 4) 4 = if d then 4 - 1 else 0 := by decide +kernel
theorem row8 : ∀ b, b < 256 → ∀ d : Bool, victimI (rowS 8 d b 8) 8 = if d then 8 - 1 else 0 := by decide +kernel
theorem rowed {ways : Int} (h : isW ways) {b : Nat} (hb : b < 256) (d : Bool) : victimI (rowS ways d b ways.toNat) ways = if d then ways - 1 else 0 := by
  rcases h with rfl | rfl | rfl | rfl
  · exact row1 b hb d
  · exact row2 b hb d
  · exact row4 b hb d
  · exact row8 b hb d

theorem turnok {ways : Int} (h : isW ways) {b : Nat} (hb : b < 256) {i : Nat} (hi : (i : Int) < ways) : okT ways (turnS ways i b) = true := by
  rcases h with rfl | rfl | rfl | rfl
  · exact turns1 b hb i (by omega)
  · exact turns2 b hb i (by omega)
  · exact turns4 b hb i (by omega)
  · exact turns8 b hb i (by omega)

/-- Two ways touched. -/
def okP (ways : Int) (hi : Nat) (b : Nat) (y v : Int) : Bool :=
  decide (touchI (touchI b ways y) ways y = touchI b ways y) && decide (touchI b ways y &&& hi = b &&& hi) &&
  (decide (ways < 4) || (decide (victimI (touchI (touchI b ways y) ways v) ways ≠ y) && decide (victimI (touchI (touchI b ways y) ways v) ways ≠ v)) || decide (y = v)) &&
  (decide (ways = 1) || decide (victimI (touchI (touchI b ways y) ways v) ways ≠ v))
theorem path1 : ∀ b, b < 256 → ∀ y, y < 1 → ∀ v, v < 1 → okP 1 255 b (y : Nat) (v : Nat) = true := by decide +kernel
theorem path2 : ∀ b, b < 256 → ∀ y, y < 2 → ∀ v, v < 2 → okP 2 254 b (y : Nat) (v : Nat) = true := by decide +kernel
theorem path4 : ∀ b, b < 256 → ∀ y, y < 4 → ∀ v, v < 4 → okP 4 248 b (y : Nat) (v : Nat) = true := by decide +kernel
theorem path8 : ∀ b, b < 256 → ∀ y, y < 8 → ∀ v, v < 8 → okP 8 128 b (y : Nat) (v : Nat) = true := by decide +kernel

theorem vic : ∀ b, b < 256 → victimI b 1 = 0 ∧ (0 ≤ victimI b 2 ∧ victimI b 2 < 2) ∧ (0 ≤ victimI b 4 ∧ victimI b 4 < 4) ∧ (0 ≤ victimI b 8 ∧ victimI b 8 < 8) := by decide +kernel
theorem viced {ways : Int} (h : isW ways) {b : Nat} (hb : b < 256) : 0 ≤ victimI b ways ∧ victimI b ways < ways := by
  have := vic b hb
  rcases h with rfl | rfl | rfl | rfl <;> omega
theorem touch_one : ∀ b, b < 256 → touchI b 1 0 = b := by decide +kernel

end Go.Proofs.YtcackmmfnojpfaaDoor
