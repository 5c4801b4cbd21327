/- DERIVED of the program: messages as tuples: what is right, read back, cut off, followed by more. Own work. -/
import Derived.Test.YtakomlmbdienpaaDoorSgPure
namespace Go.Proofs.YtakomlmbdienpaaDoor

/-- Each way that a message's asks can go. -/
theorem walkP_split {σ : Type} (st : σ → Int → Int → Int → σ × Int) (s : σ) (k c l t o e w v d0 d1 d2 d3 : Int) (h : Bool) (M : σ × M13 → Prop)
    (hU : ∀ (s1 s2 s3 s4 s5 : σ) (k' c' l' w' v' : Int), st s k 1 15 = (s1, k') → st s1 c 0 63 = (s2, c') → st s2 l 0 31 = (s3, l') → st s3 w 0 3 = (s4, w') → st s4 v 0 4294967295 = (s5, v') → (k' = 3 ∨ k' = 8 ∨ k' = 14) → M (s5, (k', c', l', 0, 0, 0, w', v', 0, 0, 0, 0, false)))
    (hC : ∀ (s1 s2 s3 s4 s5 : σ) (k' c' l' e' o' : Int), st s k 1 15 = (s1, k') → st s1 c 0 63 = (s2, c') → st s2 l 0 31 = (s3, l') → st s3 e 0 255 = (s4, e') → st s4 o 0 3 = (s5, o') → (k' = 9) → M (s5, (k', c', l', 0, o', e', 0, 0, 0, 0, 0, 0, false)))
    (hS : ∀ (s1 s2 s3 s4 : σ) (k' c' l' o' : Int), st s k 1 15 = (s1, k') → st s1 c 0 63 = (s2, c') → st s2 l 0 31 = (s3, l') → st s3 o 0 3 = (s4, o') → (k' = 5) → M (s4, (k', c', l', 0, o', 0, 0, 0, 0, 0, 0, 0, false)))
    (hD0 : ∀ (s1 s2 s3 s4 s5 s6 s7 : σ) (k' c' l' o' e' t' h' : Int), st s k 1 15 = (s1, k') → st s1 c 0 63 = (s2, c') → st s2 l 0 31 = (s3, l') → st s3 o 0 3 = (s4, o') → st s4 e 0 255 = (s5, e') → st s5 t 0 4 = (s6, t') → st s6 (if h then 1 else 0) 0 1 = (s7, h') → (k' = 13) → ¬ h' = 1 → M (s7, (k', c', l', t', o', e', 0, 0, 0, 0, 0, 0, false)))
    (hD1 : ∀ (s1 s2 s3 s4 s5 s6 s7 s8 s9 s10 s11 : σ) (k' c' l' o' e' t' d0' d1' d2' d3' : Int), st s k 1 15 = (s1, k') → st s1 c 0 63 = (s2, c') → st s2 l 0 31 = (s3, l') → st s3 o 0 3 = (s4, o') → st s4 e 0 255 = (s5, e') → st s5 t 0 4 = (s6, t') → st s6 (if h then 1 else 0) 0 1 = (s7, 1) → st s7 d0 0 4294967295 = (s8, d0') → st s8 d1 0 4294967295 = (s9, d1') → st s9 d2 0 4294967295 = (s10, d2') → st s10 d3 0 4294967295 = (s11, d3') → (k' = 13) → M (s11, (k', c', l', t', o', e', 0, 0, d0', d1', d2', d3', true)))
    (hA0 : ∀ (s1 s2 s3 s4 s5 : σ) (k' c' l' t' h' : Int), st s k 1 15 = (s1, k') → st s1 c 0 63 = (s2, c') → st s2 l 0 31 = (s3, l') → st s3 t 0 4 = (s4, t') → st s4 (if h then 1 else 0) 0 1 = (s5, h') → (k' = 11) → ¬ h' = 1 → M (s5, (k', c', l', t', 0, 0, 0, 0, 0, 0, 0, 0, false)))
    (hA1 : ∀ (s1 s2 s3 s4 s5 s6 s7 s8 s9 : σ) (k' c' l' t' d0' d1' d2' d3' : Int), st s k 1 15 = (s1, k') → st s1 c 0 63 = (s2, c') → st s2 l 0 31 = (s3, l') → st s3 t 0 4 = (s4, t') → st s4 (if h then 1 else 0) 0 1 = (s5, 1) → st s5 d0 0 4294967295 = (s6, d0') → st s6 d1 0 4294967295 = (s7, d1') → st s7 d2 0 4294967295 = (s8, d2') → st s8 d3 0 4294967295 = (s9, d3') → (k' = 11) → M (s9, (k', c', l', t', 0, 0, 0, 0, d0', d1', d2', d3', true)))
    (hB : ∀ (s1 s2 s3 : σ) (k' c' l' : Int), st s k 1 15 = (s1, k') → st s1 c 0 63 = (s2, c') → st s2 l 0 31 = (s3, l') → (¬ (k' = 3 ∨ k' = 8 ∨ k' = 14) ∧ ¬ k' = 9 ∧ ¬ k' = 5 ∧ ¬ k' = 13 ∧ ¬ k' = 11) → M (s3, (k', c', l', 0, 0, 0, 0, 0, 0, 0, 0, 0, false)))
    : M (walkP st s (k, c, l, t, o, e, w, v, d0, d1, d2, d3, h)) := by
  rcases e1 : st s k 1 15 with ⟨s1, k'⟩
  rcases e2 : st s1 c 0 63 with ⟨s2, c'⟩
  rcases e3 : st s2 l 0 31 with ⟨s3, l'⟩
  by_cases g1 : k' = 3 ∨ k' = 8 ∨ k' = 14
  · skip
    rcases e4 : st s3 w 0 3 with ⟨s4, w'⟩
    rcases e5 : st s4 v 0 4294967295 with ⟨s5, v'⟩
    rw [walkP_U e1 e2 e3 e4 e5 g1]; exact hU _ _ _ _ _ _ _ _ _ _ e1 e2 e3 e4 e5 g1
  by_cases g2 : k' = 9
  · skip
    rcases e4 : st s3 e 0 255 with ⟨s4, e'⟩
    rcases e5 : st s4 o 0 3 with ⟨s5, o'⟩
    rw [walkP_C e1 e2 e3 e4 e5 g2]; exact hC _ _ _ _ _ _ _ _ _ _ e1 e2 e3 e4 e5 g2
  by_cases g3 : k' = 5
  · skip
    rcases e4 : st s3 o 0 3 with ⟨s4, o'⟩
    rw [walkP_S e1 e2 e3 e4 g3]; exact hS _ _ _ _ _ _ _ _ e1 e2 e3 e4 g3
  by_cases g4 : k' = 13
  · skip
    rcases e4 : st s3 o 0 3 with ⟨s4, o'⟩
    rcases e5 : st s4 e 0 255 with ⟨s5, e'⟩
    rcases e6 : st s5 t 0 4 with ⟨s6, t'⟩
    rcases e7 : st s6 (if h then 1 else 0) 0 1 with ⟨s7, h'⟩
    by_cases hh : h' = 1
    · subst hh
      rcases e8 : st s7 d0 0 4294967295 with ⟨s8, d0'⟩
      rcases e9 : st s8 d1 0 4294967295 with ⟨s9, d1'⟩
      rcases e10 : st s9 d2 0 4294967295 with ⟨s10, d2'⟩
      rcases e11 : st s10 d3 0 4294967295 with ⟨s11, d3'⟩
      rw [walkP_D1 e1 e2 e3 e4 e5 e6 e7 e8 e9 e10 e11 g4]; exact hD1 _ _ _ _ _ _ _ _ _ _ _ _ _ _ _ _ _ _ _ _ _ e1 e2 e3 e4 e5 e6 e7 e8 e9 e10 e11 g4
    · skip
      rw [walkP_D0 e1 e2 e3 e4 e5 e6 e7 g4 hh]; exact hD0 _ _ _ _ _ _ _ _ _ _ _ _ _ _ e1 e2 e3 e4 e5 e6 e7 g4 hh
  by_cases g5 : k' = 11
  · skip
    rcases e4 : st s3 t 0 4 with ⟨s4, t'⟩
    rcases e5 : st s4 (if h then 1 else 0) 0 1 with ⟨s5, h'⟩
    by_cases hh : h' = 1
    · subst hh
      rcases e6 : st s5 d0 0 4294967295 with ⟨s6, d0'⟩
      rcases e7 : st s6 d1 0 4294967295 with ⟨s7, d1'⟩
      rcases e8 : st s7 d2 0 4294967295 with ⟨s8, d2'⟩
      rcases e9 : st s8 d3 0 4294967295 with ⟨s9, d3'⟩
      rw [walkP_A1 e1 e2 e3 e4 e5 e6 e7 e8 e9 g5]; exact hA1 _ _ _ _ _ _ _ _ _ _ _ _ _ _ _ _ _ e1 e2 e3 e4 e5 e6 e7 e8 e9 g5
    · skip
      rw [walkP_A0 e1 e2 e3 e4 e5 g5 hh]; exact hA0 _ _ _ _ _ _ _ _ _ _ e1 e2 e3 e4 e5 g5 hh
  have g : ¬ (k' = 3 ∨ k' = 8 ∨ k' = 14) ∧ ¬ k' = 9 ∧ ¬ k' = 5 ∧ ¬ k' = 13 ∧ ¬ k' = 11 := ⟨g1, g2, g3, g4, g5⟩
  rw [walkP_B e1 e2 e3 g]; exact hB _ _ _ _ _ _ e1 e2 e3 g

/-- Are two messages the same? -/
def eqB : M13 → M13 → Bool
  | (k, c, l, t, o, e, w, v, d0, d1, d2, d3, h), (k', c', l', t', o', e', w', v', d0', d1', d2', d3', h') => decide (k = k') && decide (c = c') && decide (l = l') && decide (t = t') && decide (o = o') && decide (e = e') && decide (w = w') && decide (v = v') && decide (d0 = d0') && decide (d1 = d1') && decide (d2 = d2') && decide (d3 = d3') && decide (h = h')
theorem eqB_iff (m n : M13) : eqB m n = true ↔ m = n := by
  obtain ⟨k, c, l, t, o, e, w, v, d0, d1, d2, d3, h⟩ := m
  obtain ⟨k', c', l', t', o', e', w', v', d0', d1', d2', d3', h'⟩ := n
  simp only [eqB, Bool.and_eq_true, decide_eq_true_eq, Prod.mk.injEq, and_assoc]

set_option linter.unusedSimpArgs false in
/-- What Right makes of the asks is what the document says. -/
theorem right_pure (m : M13) (hm : M32 m) : ((walkP rst true m).1 && eqB (walkP rst true m).2 m && !ungr m) = rtB m := by
  obtain ⟨k, c, l, t, o, e, w, v, d0, d1, d2, d3, h⟩ := m
  symm
  apply rtB_eq
  simp only [M32] at hm
  obtain ⟨_, _, _, _, _⟩ := hm
  refine walkP_split rst true k c l t o e w v d0 d1 d2 d3 h (fun r => (r.1 && eqB r.2 (k, c, l, t, o, e, w, v, d0, d1, d2, d3, h) && !ungr (k, c, l, t, o, e, w, v, d0, d1, d2, d3, h)) = true ↔ rtP (k, c, l, t, o, e, w, v, d0, d1, d2, d3, h)) ?_ ?_ ?_ ?_ ?_ ?_ ?_ ?_
  · intro s1 s2 s3 s4 s5 k' c' l' w' v' e1 e2 e3 e4 e5 hk
    simp only [rst, Prod.mk.injEq] at e1 e2 e3 e4 e5
    obtain ⟨rfl, rfl⟩ := e1
    obtain ⟨rfl, rfl⟩ := e2
    obtain ⟨rfl, rfl⟩ := e3
    obtain ⟨rfl, rfl⟩ := e4
    obtain ⟨rfl, rfl⟩ := e5
    rcases hk with rfl | rfl | rfl
    all_goals cases h
    all_goals simp only [rtP, ungr, eqB, Bool.and_eq_true, decide_eq_true_eq, Bool.not_eq_true', Bool.and_eq_false_iff, decide_eq_false_iff_not, Bool.or_eq_false_iff, reduceCtorEq, Bool.true_and, and_true, true_and, or_true, false_and, and_false, or_false, false_or, true_or, Int.reduceEq, Int.reduceLE, not_false_eq_true, not_true_eq_false]
    all_goals (constructor <;> intro hx <;> (repeat' apply And.intro) <;> first | exact hx.elim | omega)
  · intro s1 s2 s3 s4 s5 k' c' l' e' o' e1 e2 e3 e4 e5 hk
    simp only [rst, Prod.mk.injEq] at e1 e2 e3 e4 e5
    obtain ⟨rfl, rfl⟩ := e1
    obtain ⟨rfl, rfl⟩ := e2
    obtain ⟨rfl, rfl⟩ := e3
    obtain ⟨rfl, rfl⟩ := e4
    obtain ⟨rfl, rfl⟩ := e5
    subst hk
    cases h
    all_goals simp only [rtP, ungr, eqB, Bool.and_eq_true, decide_eq_true_eq, Bool.not_eq_true', Bool.and_eq_false_iff, decide_eq_false_iff_not, Bool.or_eq_false_iff, reduceCtorEq, Bool.true_and, and_true, true_and, or_true, false_and, and_false, or_false, false_or, true_or, Int.reduceEq, Int.reduceLE, not_false_eq_true, not_true_eq_false]
    all_goals (constructor <;> intro hx <;> (repeat' apply And.intro) <;> first | exact hx.elim | omega)
  · intro s1 s2 s3 s4 k' c' l' o' e1 e2 e3 e4 hk
    simp only [rst, Prod.mk.injEq] at e1 e2 e3 e4
    obtain ⟨rfl, rfl⟩ := e1
    obtain ⟨rfl, rfl⟩ := e2
    obtain ⟨rfl, rfl⟩ := e3
    obtain ⟨rfl, rfl⟩ := e4
    subst hk
    cases h
    all_goals simp only [rtP, ungr, eqB, Bool.and_eq_true, decide_eq_true_eq, Bool.not_eq_true', Bool.and_eq_false_iff, decide_eq_false_iff_not, Bool.or_eq_false_iff, reduceCtorEq, Bool.true_and, and_true, true_and, or_true, false_and, and_false, or_false, false_or, true_or, Int.reduceEq, Int.reduceLE, not_false_eq_true, not_true_eq_false]
    all_goals (constructor <;> intro hx <;> (repeat' apply And.intro) <;> first | exact hx.elim | omega)
  · intro s1 s2 s3 s4 s5 s6 s7 k' c' l' o' e' t' h' e1 e2 e3 e4 e5 e6 e7 hk hh
    simp only [rst, Prod.mk.injEq] at e1 e2 e3 e4 e5 e6 e7
    obtain ⟨rfl, rfl⟩ := e1
    obtain ⟨rfl, rfl⟩ := e2
    obtain ⟨rfl, rfl⟩ := e3
    obtain ⟨rfl, rfl⟩ := e4
    obtain ⟨rfl, rfl⟩ := e5
    obtain ⟨rfl, rfl⟩ := e6
    obtain ⟨rfl, hz⟩ := e7
    cases h <;> simp at hz <;> try omega
    try subst hz
    subst hk
    all_goals simp only [rtP, ungr, eqB, Bool.and_eq_true, decide_eq_true_eq, Bool.not_eq_true', Bool.and_eq_false_iff, decide_eq_false_iff_not, Bool.or_eq_false_iff, reduceCtorEq, Bool.true_and, and_true, true_and, or_true, false_and, and_false, or_false, false_or, true_or, Int.reduceEq, Int.reduceLE, not_false_eq_true, not_true_eq_false]
    all_goals (constructor <;> intro hx <;> (repeat' apply And.intro) <;> first | exact hx.elim | omega)
  · intro s1 s2 s3 s4 s5 s6 s7 s8 s9 s10 s11 k' c' l' o' e' t' d0' d1' d2' d3' e1 e2 e3 e4 e5 e6 e7 e8 e9 e10 e11 hk
    simp only [rst, Prod.mk.injEq] at e1 e2 e3 e4 e5 e6 e7 e8 e9 e10 e11
    obtain ⟨rfl, rfl⟩ := e1
    obtain ⟨rfl, rfl⟩ := e2
    obtain ⟨rfl, rfl⟩ := e3
    obtain ⟨rfl, rfl⟩ := e4
    obtain ⟨rfl, rfl⟩ := e5
    obtain ⟨rfl, rfl⟩ := e6
    obtain ⟨rfl, hz⟩ := e7
    obtain ⟨rfl, rfl⟩ := e8
    obtain ⟨rfl, rfl⟩ := e9
    obtain ⟨rfl, rfl⟩ := e10
    obtain ⟨rfl, rfl⟩ := e11
    cases h <;> simp at hz
    subst hk
    all_goals simp only [rtP, ungr, eqB, Bool.and_eq_true, decide_eq_true_eq, Bool.not_eq_true', Bool.and_eq_false_iff, decide_eq_false_iff_not, Bool.or_eq_false_iff, reduceCtorEq, Bool.true_and, and_true, true_and, or_true, false_and, and_false, or_false, false_or, true_or, Int.reduceEq, Int.reduceLE, not_false_eq_true, not_true_eq_false]
    all_goals (constructor <;> intro hx <;> (repeat' apply And.intro) <;> first | exact hx.elim | omega)
  · intro s1 s2 s3 s4 s5 k' c' l' t' h' e1 e2 e3 e4 e5 hk hh
    simp only [rst, Prod.mk.injEq] at e1 e2 e3 e4 e5
    obtain ⟨rfl, rfl⟩ := e1
    obtain ⟨rfl, rfl⟩ := e2
    obtain ⟨rfl, rfl⟩ := e3
    obtain ⟨rfl, rfl⟩ := e4
    obtain ⟨rfl, hz⟩ := e5
    cases h <;> simp at hz <;> try omega
    try subst hz
    subst hk
    all_goals simp only [rtP, ungr, eqB, Bool.and_eq_true, decide_eq_true_eq, Bool.not_eq_true', Bool.and_eq_false_iff, decide_eq_false_iff_not, Bool.or_eq_false_iff, reduceCtorEq, Bool.true_and, and_true, true_and, or_true, false_and, and_false, or_false, false_or, true_or, Int.reduceEq, Int.reduceLE, not_false_eq_true, not_true_eq_false]
    all_goals (constructor <;> intro hx <;> (repeat' apply And.intro) <;> first | exact hx.elim | omega)
  · intro s1 s2 s3 s4 s5 s6 s7 s8 s9 k' c' l' t' d0' d1' d2' d3' e1 e2 e3 e4 e5 e6 e7 e8 e9 hk
    simp only [rst, Prod.mk.injEq] at e1 e2 e3 e4 e5 e6 e7 e8 e9
    obtain ⟨rfl, rfl⟩ := e1
    obtain ⟨rfl, rfl⟩ := e2
    obtain ⟨rfl, rfl⟩ := e3
    obtain ⟨rfl, rfl⟩ := e4
    obtain ⟨rfl, hz⟩ := e5
    obtain ⟨rfl, rfl⟩ := e6
    obtain ⟨rfl, rfl⟩ := e7
    obtain ⟨rfl, rfl⟩ := e8
    obtain ⟨rfl, rfl⟩ := e9
    cases h <;> simp at hz
    subst hk
    all_goals simp only [rtP, ungr, eqB, Bool.and_eq_true, decide_eq_true_eq, Bool.not_eq_true', Bool.and_eq_false_iff, decide_eq_false_iff_not, Bool.or_eq_false_iff, reduceCtorEq, Bool.true_and, and_true, true_and, or_true, false_and, and_false, or_false, false_or, true_or, Int.reduceEq, Int.reduceLE, not_false_eq_true, not_true_eq_false]
    all_goals (constructor <;> intro hx <;> (repeat' apply And.intro) <;> first | exact hx.elim | omega)
  · intro s1 s2 s3 k' c' l' e1 e2 e3 hk
    simp only [rst, Prod.mk.injEq] at e1 e2 e3
    obtain ⟨rfl, rfl⟩ := e1
    obtain ⟨rfl, rfl⟩ := e2
    obtain ⟨rfl, rfl⟩ := e3
    obtain ⟨g1, g2, g3, g4, g5⟩ := hk
    have g6 : ¬ k = 3 := fun e => g1 (.inl e)
    have g7 : ¬ k = 8 := fun e => g1 (.inr (.inl e))
    have g8 : ¬ k = 14 := fun e => g1 (.inr (.inr e))
    cases h
    all_goals simp only [rtP, ungr, eqB, Bool.and_eq_true, decide_eq_true_eq, Bool.not_eq_true', Bool.and_eq_false_iff, decide_eq_false_iff_not, Bool.or_eq_false_iff, reduceCtorEq, Bool.true_and, and_true, true_and, or_true, false_and, and_false, or_false, false_or, true_or, Int.reduceEq, Int.reduceLE, not_false_eq_true, not_true_eq_false, g2, g3, g4, g5, g6, g7, g8]
    all_goals (constructor <;> intro hx <;> (repeat' apply And.intro) <;> first | exact hx.elim | omega)

/-- What was written is read, whatever follows. -/
theorem getM_enc (m : M13) (hm : M32 m) (hr : rtP m) (r : List Nat) : getM (encM m ++ r) = ((0, (encM m).length), m) := by
  obtain ⟨k, c, l, t, o, e, w, v, d0, d1, d2, d3, h⟩ := m
  simp only [M32] at hm
  obtain ⟨_, _, _, _, _⟩ := hm
  obtain ⟨_, _, _, hr⟩ := hr
  rcases hr with g | g | g | g | g | g
  · obtain ⟨hk, _, rfl, rfl, rfl, rfl, rfl, rfl, rfl, rfl⟩ := g
    exact getM_enc_U hk (by omega) (by omega) (by omega) (by omega) (by omega) r
  · obtain ⟨hk, _, _, rfl, rfl, rfl, rfl, rfl, rfl, rfl, rfl⟩ := g
    exact getM_enc_C hk (by omega) (by omega) (by omega) (by omega) (by omega) r
  · obtain ⟨hk, _, rfl, rfl, rfl, rfl, rfl, rfl, rfl, rfl, rfl⟩ := g
    exact getM_enc_S hk (by omega) (by omega) (by omega) (by omega) r
  · obtain ⟨hk, _, _, ht, rfl, rfl, hd⟩ := g
    cases h
    · obtain ⟨rfl, rfl, rfl, rfl⟩ : d0 = 0 ∧ d1 = 0 ∧ d2 = 0 ∧ d3 = 0 := by simpa using hd
      exact getM_enc_D0 hk (by omega) (by omega) (by omega) (by omega) (by omega) (by omega) r
    · exact getM_enc_D1 hk (by omega) (by omega) (by omega) (by omega) (by omega) (by omega) (by omega) (by omega) (by omega) (by omega) r
  · obtain ⟨hk, _, rfl, rfl, rfl, rfl, hd⟩ := g
    cases h
    · obtain ⟨rfl, rfl, rfl, rfl⟩ : d0 = 0 ∧ d1 = 0 ∧ d2 = 0 ∧ d3 = 0 := by simpa using hd
      exact getM_enc_A0 hk (by omega) (by omega) (by omega) (by omega) r
    · exact getM_enc_A1 hk (by omega) (by omega) (by omega) (by omega) (by omega) (by omega) (by omega) (by omega) r
  · obtain ⟨hk, rfl, rfl, rfl, rfl, rfl, rfl, rfl, rfl, rfl, rfl⟩ := g
    exact getM_enc_B (by omega) (by omega) (by omega) (by omega) r

/-- Whatever the bytes: the message that Get makes of them is of numbers of 32 and 64 bits. -/
theorem getM_num (bs : List Nat) : M32 (getM bs).2 ∧ M64 (getM bs).2 := by
  refine walkP_split (gst bs) (0, 0) 0 0 0 0 0 0 0 0 0 0 0 0 false (fun r => M32 r.2 ∧ M64 r.2) ?_ ?_ ?_ ?_ ?_ ?_ ?_ ?_
  · intro s1 s2 s3 s4 s5 k' c' l' w' v' e1 e2 e3 e4 e5 hk
    have n1 := gst_num e1
    have n2 := gst_num e2
    have n3 := gst_num e3
    have n4 := gst_num e4
    have n5 := gst_num e5
    simp only [M32, M64]
    refine ⟨⟨?_, ?_, ?_, ?_, ?_⟩, ?_, ?_, ?_, ?_, ?_, ?_, ?_⟩ <;> omega
  · intro s1 s2 s3 s4 s5 k' c' l' e' o' e1 e2 e3 e4 e5 hk
    have n1 := gst_num e1
    have n2 := gst_num e2
    have n3 := gst_num e3
    have n4 := gst_num e4
    have n5 := gst_num e5
    simp only [M32, M64]
    refine ⟨⟨?_, ?_, ?_, ?_, ?_⟩, ?_, ?_, ?_, ?_, ?_, ?_, ?_⟩ <;> omega
  · intro s1 s2 s3 s4 k' c' l' o' e1 e2 e3 e4 hk
    have n1 := gst_num e1
    have n2 := gst_num e2
    have n3 := gst_num e3
    have n4 := gst_num e4
    simp only [M32, M64]
    refine ⟨⟨?_, ?_, ?_, ?_, ?_⟩, ?_, ?_, ?_, ?_, ?_, ?_, ?_⟩ <;> omega
  · intro s1 s2 s3 s4 s5 s6 s7 k' c' l' o' e' t' h' e1 e2 e3 e4 e5 e6 e7 hk hh
    have n1 := gst_num e1
    have n2 := gst_num e2
    have n3 := gst_num e3
    have n4 := gst_num e4
    have n5 := gst_num e5
    have n6 := gst_num e6
    simp only [M32, M64]
    refine ⟨⟨?_, ?_, ?_, ?_, ?_⟩, ?_, ?_, ?_, ?_, ?_, ?_, ?_⟩ <;> omega
  · intro s1 s2 s3 s4 s5 s6 s7 s8 s9 s10 s11 k' c' l' o' e' t' d0' d1' d2' d3' e1 e2 e3 e4 e5 e6 e7 e8 e9 e10 e11 hk
    have n1 := gst_num e1
    have n2 := gst_num e2
    have n3 := gst_num e3
    have n4 := gst_num e4
    have n5 := gst_num e5
    have n6 := gst_num e6
    have n8 := gst_num e8
    have n9 := gst_num e9
    have n10 := gst_num e10
    have n11 := gst_num e11
    simp only [M32, M64]
    refine ⟨⟨?_, ?_, ?_, ?_, ?_⟩, ?_, ?_, ?_, ?_, ?_, ?_, ?_⟩ <;> omega
  · intro s1 s2 s3 s4 s5 k' c' l' t' h' e1 e2 e3 e4 e5 hk hh
    have n1 := gst_num e1
    have n2 := gst_num e2
    have n3 := gst_num e3
    have n4 := gst_num e4
    simp only [M32, M64]
    refine ⟨⟨?_, ?_, ?_, ?_, ?_⟩, ?_, ?_, ?_, ?_, ?_, ?_, ?_⟩ <;> omega
  · intro s1 s2 s3 s4 s5 s6 s7 s8 s9 k' c' l' t' d0' d1' d2' d3' e1 e2 e3 e4 e5 e6 e7 e8 e9 hk
    have n1 := gst_num e1
    have n2 := gst_num e2
    have n3 := gst_num e3
    have n4 := gst_num e4
    have n6 := gst_num e6
    have n7 := gst_num e7
    have n8 := gst_num e8
    have n9 := gst_num e9
    simp only [M32, M64]
    refine ⟨⟨?_, ?_, ?_, ?_, ?_⟩, ?_, ?_, ?_, ?_, ?_, ?_, ?_⟩ <;> omega
  · intro s1 s2 s3 k' c' l' e1 e2 e3 hk
    have n1 := gst_num e1
    have n2 := gst_num e2
    have n3 := gst_num e3
    simp only [M32, M64]
    refine ⟨⟨?_, ?_, ?_, ?_, ?_⟩, ?_, ?_, ?_, ?_, ?_, ?_, ?_⟩ <;> omega

/-- What is taken whole was written so. -/
theorem getM_take (bs : List Nat) (hby : ∀ x ∈ bs, x < 256) (h : (getM bs).1.1 = 0) : (getM bs).1.2 ≤ bs.length ∧ bs.take (getM bs).1.2 = encM (getM bs).2 := by
  revert h
  refine walkP_split (gst bs) (0, 0) 0 0 0 0 0 0 0 0 0 0 0 0 false (fun r => r.1.1 = 0 → r.1.2 ≤ bs.length ∧ bs.take r.1.2 = encM r.2) ?_ ?_ ?_ ?_ ?_ ?_ ?_ ?_
  · intro s1 s2 s3 s4 s5 k' c' l' w' v' e1 e2 e3 e4 e5 hk h0
    exact take_U hby e1 e2 e3 e4 e5 hk h0
  · intro s1 s2 s3 s4 s5 k' c' l' e' o' e1 e2 e3 e4 e5 hk h0
    exact take_C hby e1 e2 e3 e4 e5 hk h0
  · intro s1 s2 s3 s4 k' c' l' o' e1 e2 e3 e4 hk h0
    exact take_S hby e1 e2 e3 e4 hk h0
  · intro s1 s2 s3 s4 s5 s6 s7 k' c' l' o' e' t' h' e1 e2 e3 e4 e5 e6 e7 hk hh h0
    exact take_D0 hby e1 e2 e3 e4 e5 e6 e7 hk hh h0
  · intro s1 s2 s3 s4 s5 s6 s7 s8 s9 s10 s11 k' c' l' o' e' t' d0' d1' d2' d3' e1 e2 e3 e4 e5 e6 e7 e8 e9 e10 e11 hk h0
    exact take_D1 hby e1 e2 e3 e4 e5 e6 e7 e8 e9 e10 e11 hk h0
  · intro s1 s2 s3 s4 s5 k' c' l' t' h' e1 e2 e3 e4 e5 hk hh h0
    exact take_A0 hby e1 e2 e3 e4 e5 hk hh h0
  · intro s1 s2 s3 s4 s5 s6 s7 s8 s9 k' c' l' t' d0' d1' d2' d3' e1 e2 e3 e4 e5 e6 e7 e8 e9 hk h0
    exact take_A1 hby e1 e2 e3 e4 e5 e6 e7 e8 e9 hk h0
  · intro s1 s2 s3 k' c' l' e1 e2 e3 hk h0
    exact take_B hby e1 e2 e3 hk h0

theorem pst_byte {s s1 : List Nat × Nat} {n lo hi z : Int} (e : pst s n lo hi = (s1, z)) (h : ∀ y ∈ s.1, y < 256) : ∀ y ∈ s1.1, y < 256 := by
  simp only [pst, Prod.mk.injEq] at e
  obtain ⟨rfl, _⟩ := e
  intro y hy
  rcases List.mem_append.1 hy with hy | hy
  · exact h y hy
  · exact enc_byte _ y hy
theorem pst_len {s s1 : List Nat × Nat} {n lo hi z : Int} (e : pst s n lo hi = (s1, z)) (h0 : -9223372036854775808 ≤ n) (h1 : n ≤ 9223372036854775807) : s1.1.length ≤ s.1.length + 10 ∧ s.1.length + 1 ≤ s1.1.length := by
  simp only [pst, Prod.mk.injEq] at e
  obtain ⟨rfl, _⟩ := e
  have := num_len n h0 h1
  have := enc_pos (zz n)
  simp only [List.length_append]
  omega


theorem encM_byte (m : M13) : ∀ y ∈ encM m, y < 256 := by
  obtain ⟨k, c, l, t, o, e, w, v, d0, d1, d2, d3, h⟩ := m
  refine walkP_split pst ([], 20) k c l t o e w v d0 d1 d2 d3 h (fun r => ∀ y ∈ r.1.1, y < 256) ?_ ?_ ?_ ?_ ?_ ?_ ?_ ?_
  · intro s1 s2 s3 s4 s5 k' c' l' w' v' e1 e2 e3 e4 e5 _
    exact (pst_byte e5 (pst_byte e4 (pst_byte e3 (pst_byte e2 (pst_byte e1 (fun y hy => absurd hy List.not_mem_nil))))))
  · intro s1 s2 s3 s4 s5 k' c' l' e' o' e1 e2 e3 e4 e5 _
    exact (pst_byte e5 (pst_byte e4 (pst_byte e3 (pst_byte e2 (pst_byte e1 (fun y hy => absurd hy List.not_mem_nil))))))
  · intro s1 s2 s3 s4 k' c' l' o' e1 e2 e3 e4 _
    exact (pst_byte e4 (pst_byte e3 (pst_byte e2 (pst_byte e1 (fun y hy => absurd hy List.not_mem_nil)))))
  · intro s1 s2 s3 s4 s5 s6 s7 k' c' l' o' e' t' h' e1 e2 e3 e4 e5 e6 e7 _ _
    exact (pst_byte e7 (pst_byte e6 (pst_byte e5 (pst_byte e4 (pst_byte e3 (pst_byte e2 (pst_byte e1 (fun y hy => absurd hy List.not_mem_nil))))))))
  · intro s1 s2 s3 s4 s5 s6 s7 s8 s9 s10 s11 k' c' l' o' e' t' d0' d1' d2' d3' e1 e2 e3 e4 e5 e6 e7 e8 e9 e10 e11 _
    exact (pst_byte e11 (pst_byte e10 (pst_byte e9 (pst_byte e8 (pst_byte e7 (pst_byte e6 (pst_byte e5 (pst_byte e4 (pst_byte e3 (pst_byte e2 (pst_byte e1 (fun y hy => absurd hy List.not_mem_nil))))))))))))
  · intro s1 s2 s3 s4 s5 k' c' l' t' h' e1 e2 e3 e4 e5 _ _
    exact (pst_byte e5 (pst_byte e4 (pst_byte e3 (pst_byte e2 (pst_byte e1 (fun y hy => absurd hy List.not_mem_nil))))))
  · intro s1 s2 s3 s4 s5 s6 s7 s8 s9 k' c' l' t' d0' d1' d2' d3' e1 e2 e3 e4 e5 e6 e7 e8 e9 _
    exact (pst_byte e9 (pst_byte e8 (pst_byte e7 (pst_byte e6 (pst_byte e5 (pst_byte e4 (pst_byte e3 (pst_byte e2 (pst_byte e1 (fun y hy => absurd hy List.not_mem_nil))))))))))
  · intro s1 s2 s3 k' c' l' e1 e2 e3 _
    exact (pst_byte e3 (pst_byte e2 (pst_byte e1 (fun y hy => absurd hy List.not_mem_nil))))

set_option linter.unusedVariables false in
theorem encM_len (m : M13) (h32 : M32 m) (h64 : M64 m) : (encM m).length ≤ 110 ∧ 1 ≤ (encM m).length := by
  obtain ⟨k, c, l, t, o, e, w, v, d0, d1, d2, d3, h⟩ := m
  simp only [M32, M64] at h32 h64
  obtain ⟨_, _, _, _, _⟩ := h32
  obtain ⟨_, _, _, _, _, _, _⟩ := h64
  have hz : -9223372036854775808 ≤ (if h then (1 : Int) else 0) ∧ (if h then (1 : Int) else 0) ≤ 9223372036854775807 := by cases h <;> simp
  refine walkP_split pst ([], 20) k c l t o e w v d0 d1 d2 d3 h (fun r => r.1.1.length ≤ 110 ∧ 1 ≤ r.1.1.length) ?_ ?_ ?_ ?_ ?_ ?_ ?_ ?_
  · intro s1 s2 s3 s4 s5 k' c' l' w' v' e1 e2 e3 e4 e5 _
    have n1 := pst_len e1 (by omega) (by omega)
    have n2 := pst_len e2 (by omega) (by omega)
    have n3 := pst_len e3 (by omega) (by omega)
    have n4 := pst_len e4 (by omega) (by omega)
    have n5 := pst_len e5 (by omega) (by omega)
    simp only [List.length_nil] at n1
    dsimp only
    omega
  · intro s1 s2 s3 s4 s5 k' c' l' e' o' e1 e2 e3 e4 e5 _
    have n1 := pst_len e1 (by omega) (by omega)
    have n2 := pst_len e2 (by omega) (by omega)
    have n3 := pst_len e3 (by omega) (by omega)
    have n4 := pst_len e4 (by omega) (by omega)
    have n5 := pst_len e5 (by omega) (by omega)
    simp only [List.length_nil] at n1
    dsimp only
    omega
  · intro s1 s2 s3 s4 k' c' l' o' e1 e2 e3 e4 _
    have n1 := pst_len e1 (by omega) (by omega)
    have n2 := pst_len e2 (by omega) (by omega)
    have n3 := pst_len e3 (by omega) (by omega)
    have n4 := pst_len e4 (by omega) (by omega)
    simp only [List.length_nil] at n1
    dsimp only
    omega
  · intro s1 s2 s3 s4 s5 s6 s7 k' c' l' o' e' t' h' e1 e2 e3 e4 e5 e6 e7 _ _
    have n1 := pst_len e1 (by omega) (by omega)
    have n2 := pst_len e2 (by omega) (by omega)
    have n3 := pst_len e3 (by omega) (by omega)
    have n4 := pst_len e4 (by omega) (by omega)
    have n5 := pst_len e5 (by omega) (by omega)
    have n6 := pst_len e6 (by omega) (by omega)
    have n7 := pst_len e7 (by omega) (by omega)
    simp only [List.length_nil] at n1
    dsimp only
    omega
  · intro s1 s2 s3 s4 s5 s6 s7 s8 s9 s10 s11 k' c' l' o' e' t' d0' d1' d2' d3' e1 e2 e3 e4 e5 e6 e7 e8 e9 e10 e11 _
    have n1 := pst_len e1 (by omega) (by omega)
    have n2 := pst_len e2 (by omega) (by omega)
    have n3 := pst_len e3 (by omega) (by omega)
    have n4 := pst_len e4 (by omega) (by omega)
    have n5 := pst_len e5 (by omega) (by omega)
    have n6 := pst_len e6 (by omega) (by omega)
    have n7 := pst_len e7 (by omega) (by omega)
    have n8 := pst_len e8 (by omega) (by omega)
    have n9 := pst_len e9 (by omega) (by omega)
    have n10 := pst_len e10 (by omega) (by omega)
    have n11 := pst_len e11 (by omega) (by omega)
    simp only [List.length_nil] at n1
    dsimp only
    omega
  · intro s1 s2 s3 s4 s5 k' c' l' t' h' e1 e2 e3 e4 e5 _ _
    have n1 := pst_len e1 (by omega) (by omega)
    have n2 := pst_len e2 (by omega) (by omega)
    have n3 := pst_len e3 (by omega) (by omega)
    have n4 := pst_len e4 (by omega) (by omega)
    have n5 := pst_len e5 (by omega) (by omega)
    simp only [List.length_nil] at n1
    dsimp only
    omega
  · intro s1 s2 s3 s4 s5 s6 s7 s8 s9 k' c' l' t' d0' d1' d2' d3' e1 e2 e3 e4 e5 e6 e7 e8 e9 _
    have n1 := pst_len e1 (by omega) (by omega)
    have n2 := pst_len e2 (by omega) (by omega)
    have n3 := pst_len e3 (by omega) (by omega)
    have n4 := pst_len e4 (by omega) (by omega)
    have n5 := pst_len e5 (by omega) (by omega)
    have n6 := pst_len e6 (by omega) (by omega)
    have n7 := pst_len e7 (by omega) (by omega)
    have n8 := pst_len e8 (by omega) (by omega)
    have n9 := pst_len e9 (by omega) (by omega)
    simp only [List.length_nil] at n1
    dsimp only
    omega
  · intro s1 s2 s3 k' c' l' e1 e2 e3 _
    have n1 := pst_len e1 (by omega) (by omega)
    have n2 := pst_len e2 (by omega) (by omega)
    have n3 := pst_len e3 (by omega) (by omega)
    simp only [List.length_nil] at n1
    dsimp only
    omega

theorem gotM_ok {bs : List Nat} {x : M13} (h : gotM bs = (0, x)) (hby : ∀ y ∈ bs, y < 256) : rtP x ∧ M32 x ∧ M64 x ∧ bs = encM x := by
  unfold gotM at h
  by_cases h1 : endS bs (getM bs).1.2 (getM bs).1.1 ≠ 0
  · rw [if_pos h1] at h
    simp only [Prod.mk.injEq] at h
    exact absurd h.1 h1
  · rw [if_neg h1] at h
    by_cases h2 : rtB (getM bs).2 = true
    · rw [if_pos h2] at h
      simp only [Prod.mk.injEq, true_and] at h
      subst h
      have h3 : endS bs (getM bs).1.2 (getM bs).1.1 = 0 := Decidable.not_not.1 h1
      unfold endS at h3
      by_cases hc : (getM bs).1.1 = 0
      · rw [if_neg (by simpa using hc)] at h3
        obtain ⟨t1, t2⟩ := getM_take bs hby hc
        have hl : ¬ (getM bs).1.2 < bs.length := by
          intro hlt
          rw [if_pos hlt] at h3
          omega
        rw [List.take_of_length_le (by omega)] at t2
        exact ⟨(rtB_iff _).1 h2, (getM_num bs).1, (getM_num bs).2, t2⟩
      · rw [if_pos hc] at h3
        exact absurd h3 hc
    · rw [if_neg h2] at h
      simp at h
/-- A right message's bytes are taken as it. -/
theorem gotM_enc (m : M13) (hm : M32 m) (hr : rtP m) : gotM (encM m) = (0, m) := by
  have h := getM_enc m hm hr []
  rw [List.append_nil] at h
  unfold gotM
  rw [h]
  rw [if_neg (by simp [endS]), if_pos ((rtB_iff _).2 hr)]
/-- With bytes behind them they are refused: Tail. -/
theorem gotM_tail (m : M13) (hm : M32 m) (hr : rtP m) (r : List Nat) (h0 : 1 ≤ r.length) : gotM (encM m ++ r) = (5, zero13) := by
  have h := getM_enc m hm hr r
  unfold gotM
  rw [h]
  have : endS (encM m ++ r) (encM m).length 0 = 5 := by
    unfold endS
    rw [if_neg (by simp), if_pos (by rw [List.length_append]; omega)]
  rw [this, if_pos (by decide)]
/-- Cut off they are refused. -/
theorem gotM_cut (m : M13) (hm : M32 m) (hr : rtP m) (k : Nat) (hk : k < (encM m).length) : (gotM ((encM m).take k)).1 ≠ 0 := by
  intro h0
  obtain ⟨h1, h2, h3, h4⟩ := gotM_ok (bs := (encM m).take k) (x := (gotM ((encM m).take k)).2) (by rw [← h0]) (fun y hy => encM_byte m y (List.mem_of_mem_take hy))
  have e1 := getM_enc _ h2 h1 ((encM m).drop k)
  rw [← h4, List.take_append_drop] at e1
  have e2 := getM_enc m hm hr []
  rw [List.append_nil, e1] at e2
  simp only [Prod.mk.injEq, true_and] at e2
  have := e2.1
  rw [List.length_take] at this
  omega
/-- A right message's bytes are no other's beginning. -/
theorem encM_inj (m n : M13) (hm : M32 m) (hr : rtP m) (hn : M32 n) (hs : rtP n) (r : List Nat) (h : encM n = encM m ++ r) : m = n := by
  have e1 := getM_enc m hm hr r
  have e2 := getM_enc n hn hs []
  rw [List.append_nil, h, e1] at e2
  simp only [Prod.mk.injEq, true_and] at e2
  exact e2.2
/-- A right message's numbers are of 64 bits. -/
theorem rtP_64 (m : M13) (h : rtP m) : M64 m := by
  obtain ⟨k, c, l, t, o, e, w, v, d0, d1, d2, d3, h⟩ := m
  simp only [rtP, M64] at h ⊢
  refine ⟨?_, ?_, ?_, ?_, ?_, ?_, ?_⟩ <;> omega

end Go.Proofs.YtakomlmbdienpaaDoor
