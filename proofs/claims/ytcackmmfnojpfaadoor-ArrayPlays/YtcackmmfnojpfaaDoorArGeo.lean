/- DERIVED of the program: geom.Set by its contract, over a tree's own powers of two. Own work. -/
import Derived.Test.YtcackmmfnojpfaaDoorBaseKeep
import Derived.Test.YtcackmmfnojpfaaDoorPlC
import Derived.Test.YtcackmmfnojpfaaDoorArPure
namespace Go.Proofs.YtcackmmfnojpfaaDoor
open Go.RowKit Go.Extern.Stop Go.Stop Go.Extern

/-- Is n from a to b? -/
def wB (n a b : Int) : Bool := decide (a ≤ n ∧ n ≤ b)
theorem wB_yes {n a b : Int} (h : a ≤ n ∧ n ≤ b) : wB n a b = true := by simp [wB, h]
theorem wB_no {n a b : Int} (h : ¬ (a ≤ n ∧ n ≤ b)) : wB n a b = false := by simp only [wB, decide_eq_false_iff_not]; exact h
theorem wB_of {n a b : Int} (h : wB n a b = true) : a ≤ n ∧ n ≤ b := by simpa [wB] using h
theorem wB_not {n a b : Int} (h : wB n a b = false) : ¬ (a ≤ n ∧ n ≤ b) := by simpa only [wB, decide_eq_false_iff_not] using h

theorem gwithin_any (n a b : Int) (w : World) : Calls Tryd.prog 57 #[.int .i64 n, .int .i64 a, .int .i64 b] w fun r w' => r = .returned (.bool (wB n a b)) ∧ w' = w := by
  by_cases h1 : a ≤ n
  · by_cases h2 : n ≤ b
    · have HE := Hid.in (wB_yes ⟨h1, h2⟩)
      go_enter Tryd.func57, Tryd.ntmps57
      go_wp2
      go_ret
      exact ⟨ret_bool HE.out.symm, rfl⟩
    · have HE := Hid.in (wB_no (n := n) (a := a) (b := b) (fun h => h2 h.2))
      go_enter Tryd.func57, Tryd.ntmps57
      go_wp2
      go_ret
      exact ⟨ret_bool HE.out.symm, rfl⟩
  · have HE := Hid.in (wB_no (n := n) (a := a) (b := b) (fun h => h1 h.1))
    go_enter Tryd.func57, Tryd.ntmps57
    go_wp2
    go_ret
    exact ⟨ret_bool HE.out.symm, rfl⟩
theorem gwithin_c (n a b : Int) (c : Bool) (h : wB n a b = c) (w : World) : Calls Tryd.prog 57 #[.int .i64 n, .int .i64 a, .int .i64 b] w fun r w' => r = .returned (.bool c) ∧ w' = w := by
  rw [← h]; exact gwithin_any n a b w

theorem power_any (n : Int) (w : World) : Calls Tryd.prog 46 #[.int .i64 n, .int .i64 8] w fun r w' => r = .returned (.bool (pB n)) ∧ w' = w := by
  by_cases h : 1 ≤ n ∧ n ≤ 8
  · have h8 : n = 1 ∨ n = 2 ∨ n = 3 ∨ n = 4 ∨ n = 5 ∨ n = 6 ∨ n = 7 ∨ n = 8 := by omega
    clear h
    rcases h8 with rfl | rfl | rfl | rfl | rfl | rfl | rfl | rfl
    all_goals
      go_enter Tryd.func46, Tryd.ntmps46
      go_wp2_with fail
      refine (gwithin_c _ _ _ true (by decide) _).mono ?_
      rintro r w' ⟨rfl, rfl⟩
      go_wp2
      go_ret
      exact ⟨rfl, rfl⟩
  · have HE : Hid (pB n = false) := Hid.in (by simp only [pB, decide_eq_false_iff_not]; omega)
    have HW := Hid.in (wB_no h)
    clear h
    go_enter Tryd.func46, Tryd.ntmps46
    go_wp2_with fail
    refine (gwithin_c _ _ _ false HW.out _).mono ?_
    rintro r w' ⟨rfl, rfl⟩
    go_wp2
    go_ret
    exact ⟨ret_bool HE.out.symm, rfl⟩
theorem power_c (n : Int) (c : Bool) (h : pB n = c) (w : World) : Calls Tryd.prog 46 #[.int .i64 n, .int .i64 8] w fun r w' => r = .returned (.bool c) ∧ w' = w := by
  rw [← h]; exact power_any n w

theorem isLine_c (n : Int) (c : Bool) (h : wB n 0 31 = c) (w : World) : Calls Tryd.prog 45 #[.int .i64 n] w fun r w' => r = .returned (.bool c) ∧ w' = w := by
  have H := Hid.in h
  clear h
  go_enter Tryd.func45, Tryd.ntmps45
  go_wp2_with fail
  refine (gwithin_c _ _ _ c H.out _).mono ?_
  rintro r w' ⟨rfl, rfl⟩
  go_wp2
  go_ret
  exact ⟨rfl, rfl⟩

/-- What the call answers. -/
def setF (l s : Int) : Int := if (0 ≤ l ∧ l ≤ 31) ∧ (s = 1 ∨ s = 2 ∨ s = 4 ∨ s = 8) then l % s else -1
theorem set_any (l s : Int) (w : World) : Calls Tryd.prog 29 #[.int .i64 l, .int .i64 s] w fun r w' => r = .returned (.int .i64 (setF l s)) ∧ w' = w := by
  by_cases h : 0 ≤ l ∧ l ≤ 31
  · have HW := Hid.in (wB_yes h)
    by_cases h' : s = 1 ∨ s = 2 ∨ s = 4 ∨ s = 8
    · have HE : Hid (setF l s = l % s) := Hid.in (by rw [setF, if_pos ⟨h, h'⟩])
      have HX : Hid (pB s = true) := Hid.in (by simp only [pB, decide_eq_true_eq]; exact h')
      have hs : 1 ≤ s ∧ s ≤ 8 := by omega
      obtain ⟨h1, h2⟩ := h
      obtain ⟨h3, h4⟩ := hs
      clear h'
      have hz : ¬ s = 0 := by omega
      go_enter Tryd.func29, Tryd.ntmps29
      go_wp2_with fail
      refine (isLine_c _ true HW.out _).mono ?_
      rintro r w' ⟨rfl, rfl⟩
      go_wp2_with fail
      refine (power_c _ true HX.out _).mono ?_
      rintro r w' ⟨rfl, rfl⟩
      go_wp2
      go_ret
      exact ⟨ret_int HE.out.symm, rfl⟩
    · have HE : Hid (setF l s = -1) := Hid.in (by rw [setF, if_neg (fun k => h' k.2)])
      have HX : Hid (pB s = false) := Hid.in (by simp only [pB, decide_eq_false_iff_not]; exact h')
      clear h h'
      go_enter Tryd.func29, Tryd.ntmps29
      go_wp2_with fail
      refine (isLine_c _ true HW.out _).mono ?_
      rintro r w' ⟨rfl, rfl⟩
      go_wp2_with fail
      refine (power_c _ false HX.out _).mono ?_
      rintro r w' ⟨rfl, rfl⟩
      go_wp2
      go_ret
      exact ⟨ret_int HE.out.symm, rfl⟩
  · have HW := Hid.in (wB_no h)
    have HE : Hid (setF l s = -1) := Hid.in (by rw [setF, if_neg (fun k => h k.1)])
    clear h
    go_enter Tryd.func29, Tryd.ntmps29
    go_wp2_with fail
    refine (isLine_c _ false HW.out _).mono ?_
    rintro r w' ⟨rfl, rfl⟩
    go_wp2
    go_ret
    exact ⟨ret_int HE.out.symm, rfl⟩
end Go.Proofs.YtcackmmfnojpfaaDoor
