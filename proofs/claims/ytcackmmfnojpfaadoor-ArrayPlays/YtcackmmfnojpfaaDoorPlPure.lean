/- DERIVED of nothing: a tree of bits over 1, 2, 4 or 8 ways. Own work. -/
import Derived.Laws.BitsAllLaws
namespace Go.Proofs.YtcackmmfnojpfaaDoor

/-- Is n a power of two, 8 at most? -/
def pB (n : Int) : Bool := decide (n = 1 ∨ n = 2 ∨ n = 4 ∨ n = 8)
/-- How deep the tree is. -/
def lev (n : Int) : Nat := if n = 8 then 3 else if n = 4 then 2 else if n = 2 then 1 else 0
/-- A node's bit. -/
def bitN (n : Nat) : Nat := 2 ^ (n - 1)
def setB (b n : Nat) : Nat := b ||| bitN n
def clrB (b n : Nat) : Nat := b &&& (255 - bitN n)
/-- From node n, over 2^k ways, on down to way. -/
def tgo : Nat → Nat → Nat → Nat → Nat
  | 0, b, _, _ => b
  | k + 1, b, way, n => if way / 2 ^ k % 2 = 0 then tgo k (setB b n) way (2 * n) else tgo k (clrB b n) way (2 * n + 1)
/-- The node to which one comes from node n, over 2^k ways. -/
def vgo : Nat → Nat → Nat → Nat
  | 0, _, n => n
  | k + 1, b, n => if b / bitN n % 2 = 0 then vgo k b (2 * n) else vgo k b (2 * n + 1)
def touchI (b : Nat) (ways way : Int) : Nat := if pB ways = true ∧ 0 ≤ way ∧ way < ways then tgo (lev ways) b way.toNat 1 else b
def victimI (b : Nat) (ways : Int) : Int := if pB ways = true then (vgo (lev ways) b 1 : Int) - ways else -1

theorem pB_of {n : Int} (h : pB n = true) : n = 1 ∨ n = 2 ∨ n = 4 ∨ n = 8 := by simpa [pB] using h
theorem touch_out {b : Nat} {ways way : Int} (h : ¬ (pB ways = true ∧ 0 ≤ way ∧ way < ways)) : touchI b ways way = b := if_neg h
theorem touch_in {b : Nat} {ways way : Int} (h : pB ways = true ∧ 0 ≤ way ∧ way < ways) : touchI b ways way = tgo (lev ways) b way.toNat 1 := if_pos h
theorem victim_out {b : Nat} {ways : Int} (h : pB ways = false) : victimI b ways = -1 := if_neg (by simp [h])
theorem victim_in {b : Nat} {ways : Int} (h : pB ways = true) : victimI b ways = (vgo (lev ways) b 1 : Int) - ways := if_pos h

theorem bitN_lt {n : Nat} (h : n ≤ 8) : bitN n < 256 := by
  have : (2 : Nat) ^ (n - 1) ≤ 2 ^ 7 := Nat.pow_le_pow_right (by decide) (by omega)
  unfold bitN; omega
theorem bitN_pos (n : Nat) : 0 < bitN n := Nat.pow_pos (by decide)
theorem setB_lt {b n : Nat} (hb : b < 256) (h : n ≤ 8) : setB b n < 256 := by
  have := Nat.or_lt_two_pow (n := 8) (x := b) (y := bitN n) (by simpa using hb) (by simpa using bitN_lt h)
  simpa [setB] using this
theorem clrB_lt {b n : Nat} (hb : b < 256) : clrB b n < 256 := Nat.lt_of_le_of_lt Nat.and_le_left hb
theorem bitN_and (b n : Nat) : b &&& bitN n = b / bitN n % 2 * bitN n := by
  unfold bitN; rw [nat_bit]
theorem tgo_lt (k : Nat) : ∀ (b way n : Nat), b < 256 → (n + 1) * 2 ^ k ≤ 16 → tgo k b way n < 256 := by
  induction k with
  | zero => exact fun b way n h _ => h
  | succ k ih =>
    intro b way n h hn
    have hp : 0 < 2 ^ k := Nat.pow_pos (by decide)
    rw [Nat.pow_succ, Nat.mul_comm (2 ^ k) 2, ← Nat.mul_assoc] at hn
    have hn8 : n ≤ 8 := by
      have : (n + 1) * 2 * 1 ≤ (n + 1) * 2 * 2 ^ k := Nat.mul_le_mul_left _ hp
      omega
    show (if way / 2 ^ k % 2 = 0 then tgo k (setB b n) way (2 * n) else tgo k (clrB b n) way (2 * n + 1)) < 256
    split
    · refine ih _ _ _ (setB_lt h hn8) (Nat.le_trans (Nat.mul_le_mul_right _ ?_) hn); omega
    · refine ih _ _ _ (clrB_lt h) (Nat.le_trans (Nat.mul_le_mul_right _ ?_) hn); omega
theorem touchI_lt {b : Nat} (hb : b < 256) (ways way : Int) : touchI b ways way < 256 := by
  by_cases h : pB ways = true ∧ 0 ≤ way ∧ way < ways
  · rw [touch_in h]
    refine tgo_lt _ _ _ _ hb ?_
    rcases pB_of h.1 with rfl | rfl | rfl | rfl <;> decide
  · rw [touch_out h]; exact hb

end Go.Proofs.YtcackmmfnojpfaaDoor
