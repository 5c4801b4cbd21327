/- DERIVED of the program: the document's own Right by its contract. Own work. -/
import Derived.Test.YtakomlmbdienpaaDoorSgFour
import Derived.Deep.CutBlock
import Derived.Test.YtakomlmbdienpaaDoorSgH
namespace Go.Proofs.YtakomlmbdienpaaDoor
open Go.RowKit Go.Extern.Stop Go.Stop Go.Extern

theorem SM2.set {w W : World} {mc nc : Array Value} (h : SM2 w mc nc W) (i : Nat) (v : Value) : SM2 w mc (nc.setIfInBounds i v) (W.setCell ⟨w.heap.size + 1, i, none⟩ v) :=
  ⟨(Below.heap_setCell _ _ _ _ (by show w.heap.size ≠ w.heap.size + 1; omega)).trans h.bA, blk_set v h.bB, h.be.setCell (p := ⟨w.heap.size + 1, i, none⟩) (by show w.heap.size ≤ w.heap.size + 1; omega) v⟩
theorem eq_line' (a b c e a' b' c' e' : Int) (w : World) : (Op.equalIn 10000 30 (.agg #[.int .u32 a, .int .u32 b, .int .u32 c, .int .u32 e]) (.agg #[.int .u32 a', .int .u32 b', .int .u32 c', .int .u32 e'])).run Tryd.prog w = .ok (decide (a = a') && (decide (b = b') && (decide (c = c') && decide (e = e')))) w := eq_line 9998 a b c e a' b' c' e' w

/-- What a message names, by its kind. -/
def maskM : M13 → M13
  | (k, c, l, t, o, e, w_, v, d0, d1, d2, d3, h) =>
    if k = 13 then (k, c, l, t, o, e, 0, 0, d0, d1, d2, d3, h) else if k = 11 then (k, c, l, t, 0, 0, 0, 0, d0, d1, d2, d3, h) else if k = 9 then (k, c, l, 0, o, e, 0, 0, 0, 0, 0, 0, false) else if k = 5 then (k, c, l, 0, o, 0, 0, 0, 0, 0, 0, 0, false) else if k = 3 ∨ k = 8 ∨ k = 14 then (k, c, l, 0, 0, 0, w_, v, 0, 0, 0, 0, false) else (k, c, l, 0, 0, 0, 0, 0, 0, 0, 0, 0, false)
theorem mask_eq (m : M13) (hr : rtP m) : maskM m = m := by
  obtain ⟨k, c, l, t, o, e, w_, v, d0, d1, d2, d3, h⟩ := m
  obtain ⟨_, _, _, hr⟩ := hr
  rcases hr with ⟨rfl | rfl | rfl, hr⟩ | ⟨rfl, hr⟩ | ⟨rfl, hr⟩ | ⟨rfl, hr⟩ | ⟨rfl, hr⟩ | ⟨rfl | rfl | rfl | rfl | rfl | rfl | rfl | rfl, hr⟩
  all_goals
    simp [maskM]
    try grind

theorem rt_of_mask (k c l t o e w v d0 d1 d2 d3 : Int) (h : Bool) (hm : maskM (k, c, l, t, o, e, w, v, d0, d1, d2, d3, h) = (k, c, l, t, o, e, w, v, d0, d1, d2, d3, h)) (bk : 1 ≤ k ∧ k ≤ 15) (bc : 0 ≤ c ∧ c ≤ 63) (bl : 0 ≤ l ∧ l ≤ 31) (bw : 0 ≤ w ∧ w ≤ 3) (bo : 0 ≤ o ∧ o ≤ 3) (be : 0 ≤ e ∧ e ≤ 255) (bt : 0 ≤ t ∧ t ≤ 4)
    (hoff : k = 13 ∨ k = 11 → h = false → d0 = 0 ∧ d1 = 0 ∧ d2 = 0 ∧ d3 = 0) (ht : k = 13 → ¬ t = 0 ∧ ¬ t = 3) : rtP (k, c, l, t, o, e, w, v, d0, d1, d2, d3, h) := by
  refine ⟨bk, bc, bl, ?_⟩
  have hk : k = 3 ∨ k = 8 ∨ k = 14 ∨ k = 5 ∨ k = 9 ∨ k = 13 ∨ k = 11 ∨ (k = 1 ∨ k = 2 ∨ k = 4 ∨ k = 6 ∨ k = 7 ∨ k = 10 ∨ k = 12 ∨ k = 15) := by omega
  rcases hk with rfl | rfl | rfl | rfl | rfl | rfl | rfl | hk
  · simp [maskM] at hm; exact .inl (by grind)
  · simp [maskM] at hm; exact .inl (by grind)
  · simp [maskM] at hm; exact .inl (by grind)
  · simp [maskM] at hm; exact .inr (.inr (.inl (by grind)))
  · simp [maskM] at hm; exact .inr (.inl (by grind))
  · simp [maskM] at hm
    have h1 := ht rfl
    refine .inr (.inr (.inr (.inl ⟨rfl, bo, be, by omega, by grind, by grind, ?_⟩)))
    cases h
    · exact .inr (hoff (.inl rfl) rfl)
    · exact .inl rfl
  · simp [maskM] at hm
    refine .inr (.inr (.inr (.inr (.inl ⟨rfl, bt, by grind, by grind, by grind, by grind, ?_⟩))))
    cases h
    · exact .inr (hoff (.inr rfl) rfl)
    · exact .inl rfl
  · refine .inr (.inr (.inr (.inr (.inr ⟨hk, ?_⟩))))
    rcases hk with rfl | rfl | rfl | rfl | rfl | rfl | rfl | rfl <;> simp [maskM] at hm <;> grind

end Go.Proofs.YtakomlmbdienpaaDoor

namespace Go.Proofs.YtakomlmbdienpaaDoor
open Go.RowKit Go.Extern.Stop Go.Stop Go.Extern

theorem pool_in (k : Int) (h1 : 1 ≤ k) (h2 : k ≤ 15) : 0 ≤ poolS k ∧ poolS k ≤ 3 := by
  unfold poolS
  split
  · omega
  · split
    · omega
    · split
      · omega
      · split
        · omega
        · omega
theorem pool_out (k : Int) (h : ¬ (1 ≤ k ∧ k ≤ 15)) : poolS k = -1 := by
  unfold poolS
  rw [if_neg (by omega), if_neg (by omega), if_neg (by omega), if_neg (by omega)]

end Go.Proofs.YtakomlmbdienpaaDoor
