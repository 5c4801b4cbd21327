/- DERIVED of the program: the contracts of package state, the answer given ahead. Own work. -/
import Derived.Test.YtkdkbaplfgjkmaaStB
namespace Go.Proofs.Ytkdkbaplfgjkmaa
open Go.RowKit Go.Extern.Stop Go.Stop Go.Extern

theorem stReads_e (s : Int) (c : Bool) (h : rdS s = c) (w : World) : Calls Try.prog 14 #[.int .i64 s] w fun r w' => r = .returned (.bool c) ∧ w' = w := h ▸ stReads_c s w

theorem stWrites_e (s : Int) (c : Bool) (h : wrS s = c) (w : World) : Calls Try.prog 16 #[.int .i64 s] w fun r w' => r = .returned (.bool c) ∧ w' = w := h ▸ stWrites_c s w

theorem stDirty_e (s : Int) (c : Bool) (h : dtS s = c) (w : World) : Calls Try.prog 18 #[.int .i64 s] w fun r w' => r = .returned (.bool c) ∧ w' = w := h ▸ stDirty_c s w

theorem stLegal_e (a b : Int) (c : Bool) (h : lgS a b = c) (w : World) : Calls Try.prog 10 #[.int .i64 a, .int .i64 b] w fun r w' => r = .returned (.bool c) ∧ w' = w := h ▸ stLegal_c a b w
theorem stGrant_e (k : Int) (a : Bool) (x : Int) (h : grS k a = x) (w : World) : Calls Try.prog 11 #[.int .i64 k, .bool a] w fun r w' => r = .returned (.int .i64 x) ∧ w' = w := h ▸ stGrant_c k a w

theorem lgS_symm (a b : Int) : lgS a b = lgS b a := by
  unfold lgS
  rw [Bool.or_assoc, Bool.or_assoc, Bool.or_comm (bsS a b) (bsS b a)]
  congr 1
  exact decide_eq_decide.2 ⟨fun h => h.symm, fun h => h.symm⟩
theorem lgS_alone (a b : Int) (h1 : a = 2 ∨ a = 4) (h2 : rdS b = true) : lgS a b = false := by
  simp only [rdS, decide_eq_true_eq] at h2
  rcases h1 with rfl | rfl <;> simp [lgS, bsS] <;> omega
theorem wI_nat0 (n hi : Int) (h : 0 ≤ hi) : ∃ A : Nat, wI n 0 hi = (A : Int) ∧ (A : Int) ≤ hi := by
  have h1 := wI_le n 0 hi h
  exact ⟨(wI n 0 hi).toNat, by omega, by omega⟩

end Go.Proofs.Ytkdkbaplfgjkmaa
