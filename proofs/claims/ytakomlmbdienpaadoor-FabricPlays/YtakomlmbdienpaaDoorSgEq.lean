/- DERIVED of the program: '==' of two messages. Own work. -/
import Derived.Test.YtakomlmbdienpaaDoorSgE
import Derived.Laws.StructEq
import Derived.ChangeKeysEq
namespace Go.Proofs.YtakomlmbdienpaaDoor
open Go.RowKit Go.Extern.Stop Go.Stop Go.Extern

theorem Tryd.cellsU32' : Tryd.prog.cellsOf 28 = 1 := by kernel_rfl
theorem Tryd.infoU32 : ∃ i, Tryd.prog.info? 28 = some i := by
  have h : (Tryd.prog.info? 28).isSome = true := by kernel_rfl
  exact Option.isSome_iff_exists.1 h

theorem eq_line (d : Nat) (a b c e a' b' c' e' : Int) (w : World) : (Op.equalIn (d + 2) 30 (.agg #[.int .u32 a, .int .u32 b, .int .u32 c, .int .u32 e]) (.agg #[.int .u32 a', .int .u32 b', .int .u32 c', .int .u32 e'])).run Tryd.prog w = .ok (decide (a = a') && (decide (b = b') && (decide (c = c') && decide (e = e')))) w := by
  obtain ⟨i, hi⟩ := Tryd.infoU32
  rw [run_equalIn_array w (d + 1) _ _ Tryd.underlying30 hi, Tryd.cellsU32']
  by_cases h1 : a = a' <;> by_cases h2 : b = b' <;> by_cases h3 : c = c' <;> by_cases h4 : e = e' <;> simp [List.range_succ, Op.eqItems, go_sem, h1, h2, h3, h4]

set_option maxHeartbeats 1600000 in
set_option maxRecDepth 100000 in
theorem eq_msgIn (d : Nat) (k c l t o e w_ v d0 d1 d2 d3 : Int) (h : Bool) (k' c' l' t' o' e' w_' v' d0' d1' d2' d3' : Int) (h' : Bool) (w : World) : (Op.equalIn (d + 3) 32 (.agg (mv (k, c, l, t, o, e, w_, v, d0, d1, d2, d3, h))) (.agg (mv (k', c', l', t', o', e', w_', v', d0', d1', d2', d3', h')))).run Tryd.prog w = .ok (eqB (k, c, l, t, o, e, w_, v, d0, d1, d2, d3, h) (k', c', l', t', o', e', w_', v', d0', d1', d2', d3', h')) w := by
  have hl := eq_line d d0 d1 d2 d3 d0' d1' d2' d3' w
  rw [run_equalIn_struct w (d + 2) 32 _ _ Tryd.underlying32 (by kernel_rfl)]
  simp only [mv, eqB]
  by_cases g0 : k = k'
  · subst g0
    by_cases g1 : c = c'
    · subst g1
      by_cases g2 : l = l'
      · subst g2
        by_cases g3 : t = t'
        · subst g3
          by_cases g4 : o = o'
          · subst g4
            by_cases g5 : e = e'
            · subst g5
              by_cases g6 : w_ = w_'
              · subst g6
                by_cases g7 : v = v'
                · subst g7
                  by_cases gd : d0 = d0' ∧ d1 = d1' ∧ d2 = d2' ∧ d3 = d3'
                  · obtain ⟨rfl, rfl, rfl, rfl⟩ := gd
                    cases h <;> cases h' <;> simp [Op.eqFields, go_sem, hl]
                  · have gz : (decide (d0 = d0') && (decide (d1 = d1') && (decide (d2 = d2') && decide (d3 = d3')))) = false := by
                      rw [Bool.eq_false_iff]
                      intro hz
                      simp only [Bool.and_eq_true, decide_eq_true_eq] at hz
                      exact gd hz
                    have gy : (decide (d0 = d0') && decide (d1 = d1') && decide (d2 = d2') && decide (d3 = d3')) = false := by
                      simpa only [Bool.and_assoc] using gz
                    rw [gz] at hl
                    simp [Op.eqFields, go_sem, hl]
                    intro q0 q1 q2 q3
                    exact absurd ⟨q0, q1, q2, q3⟩ gd
                · simp [Op.eqFields, go_sem, g7]
              · simp [Op.eqFields, go_sem, g6]
            · simp [Op.eqFields, go_sem, g5]
          · simp [Op.eqFields, go_sem, g4]
        · simp [Op.eqFields, go_sem, g3]
      · simp [Op.eqFields, go_sem, g2]
    · simp [Op.eqFields, go_sem, g1]
  · simp [Op.eqFields, go_sem, g0]

theorem eq_msg (m n : M13) (w : World) : (binOp .eql 32 (.agg (mv m)) (.agg (mv n))).run Tryd.prog w = .ok (.bool (eqB m n)) w := by
  obtain ⟨k, c, l, t, o, e, w_, v, d0, d1, d2, d3, h⟩ := m
  obtain ⟨k', c', l', t', o', e', w_', v', d0', d1', d2', d3', h'⟩ := n
  have h := eq_msgIn 9997 k c l t o e w_ v d0 d1 d2 d3 h k' c' l' t' o' e' w_' v' d0' d1' d2' d3' h' w
  rw [run_eql_struct, h]
  rfl
theorem ne_msg (m n : M13) (w : World) : (binOp .neq 32 (.agg (mv m)) (.agg (mv n))).run Tryd.prog w = .ok (.bool (!eqB m n)) w := by
  obtain ⟨k, c, l, t, o, e, w_, v, d0, d1, d2, d3, h⟩ := m
  obtain ⟨k', c', l', t', o', e', w_', v', d0', d1', d2', d3', h'⟩ := n
  have h := eq_msgIn 9997 k c l t o e w_ v d0 d1 d2 d3 h k' c' l' t' o' e' w_' v' d0' d1' d2' d3' h' w
  rw [run_neq_struct, h]
  rfl

end Go.Proofs.YtakomlmbdienpaaDoor
