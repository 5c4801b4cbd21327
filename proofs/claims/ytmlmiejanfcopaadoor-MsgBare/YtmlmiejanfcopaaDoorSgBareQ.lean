/- DERIVED of the program: what a right message is, a number of it turned. Own work. -/
import Derived.Test.YtmlmiejanfcopaaDoorSgPureB
import Derived.Laws.BitsLemmas
namespace Go.Proofs.YtmlmiejanfcopaaDoor
open Go.RowKit Go.Extern.Stop Go.Stop Go.Extern

theorem rem_small (o r m : Int) (h0 : 0 ≤ o ∧ o ≤ 255) (h1 : 0 ≤ r ∧ r ≤ 255) : (IntKind.i64.wrap (o + r)).tmod m = (o + r) % m := by
  have e : IntKind.i64.wrap (o + r) = o + r := by rw [IntKind.wrap_i64]; omega
  rw [e, Int.tmod_eq_emod_of_nonneg (by omega)]
set_option linter.unusedSimpArgs false in
theorem bare_pure (k c l t o e w v d0 d1 d2 d3 : Int) (h : Bool) (hr : rtP (k, c, l, t, o, e, w, v, d0, d1, d2, d3, h)) (hm : M32 (k, c, l, t, o, e, w, v, d0, d1, d2, d3, h)) (v2 : Int) (hv : 0 ≤ v2 ∧ v2 ≤ 4294967295) (hz : ¬ v2 = 0) (va ob ec r7 r8 : Int) (ha : va = (v + v2) % 4294967296) (hb : ob = (o + r7) % 4) (hc : ec = (e + r8) % 256) (b7 : 1 ≤ r7 ∧ r7 ≤ 3) (b8 : 1 ≤ r8 ∧ r8 ≤ 255) :
    rtB (k, c, l, t, o, e, w, va, d0, d1, d2, d3, h) = decide (k = 3 ∨ k = 8 ∨ k = 14) ∧ rtB (k, c, l, t, ob, e, w, v, d0, d1, d2, d3, h) = decide (k = 5 ∨ k = 9 ∨ k = 13) ∧ rtB (k, c, l, t, o, ec, w, v, d0, d1, d2, d3, h) = decide (k = 9 ∨ k = 13) ∧ rtB (k, c, l, t, o, e, w, v, 0, 0, 0, 0, !h) = decide (k = 11 ∨ k = 13) := by
  simp only [M32] at hm
  obtain ⟨_, _, _, _, _⟩ := hm
  obtain ⟨_, _, _, hr⟩ := hr
  refine ⟨rtB_eq _ _ ?_, rtB_eq _ _ ?_, rtB_eq _ _ ?_, rtB_eq _ _ ?_⟩
  all_goals
    rcases hr with ⟨rfl | rfl | rfl, hr⟩ | ⟨rfl, hr⟩ | ⟨rfl, hr⟩ | ⟨rfl, hr⟩ | ⟨rfl, hr⟩ | ⟨rfl | rfl | rfl | rfl | rfl | rfl | rfl | rfl, hr⟩
    all_goals
      cases h
      all_goals
        simp only [rtP, decide_eq_true_eq, Int.reduceEq, Int.reduceLE, reduceCtorEq, Bool.not_true, Bool.not_false, and_true, true_and, or_true, true_or, false_and, and_false, or_false, false_or, not_true_eq_false, not_false_eq_true] at hr ⊢
        all_goals (constructor <;> intro hx <;> (repeat' apply And.intro) <;> first | trivial | exact hx.elim | exact hr.elim | omega)


end Go.Proofs.YtmlmiejanfcopaaDoor
