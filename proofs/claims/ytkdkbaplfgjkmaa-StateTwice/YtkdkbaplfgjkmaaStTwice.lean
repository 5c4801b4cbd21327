/- DERIVED of the program: StateTwice returns true. Own work. -/
import Derived.Test.YtkdkbaplfgjkmaaStC
namespace Go.Proofs.Ytkdkbaplfgjkmaa
open Go.RowKit Go.Extern.Stop Go.Stop Go.Extern

/-- What StateTwice says, of numbers. -/
def twS (a k m : Int) : Bool :=
  let p := nxS a k m
  let q := nxS p.1 k m
  if p.1 = 0 then decide (q.1 = 0) && !q.2 && (!p.2 || dtS a) else decide (q.1 = p.1) && (q.2 == (decide (k = 5) && decide (p.1 = 3))) && (!q.2 || p.2)
theorem twS_all : ∀ A : Fin 5, ∀ K : Fin 6, ∀ M : Fin 4, twS (A.val : Int) (5 + (K.val : Int)) (M.val : Int) = true := by decide +kernel

set_option maxHeartbeats 3200000 in
set_option maxRecDepth 20000 in
theorem stateTwice_any (w : World) (n0 n1 n2 : Int) : Calls Try.prog 7 #[.int .i64 n0, .int .i64 n1, .int .i64 n2] w fun r w' => r = .returned (.bool true) ∧ Below w.heap.size w w' := by
  obtain ⟨A, hA, hA4⟩ := wI_nat0 n0 4 (by decide)
  obtain ⟨K, hK, hK5⟩ := wI_nat0 n1 5 (by decide)
  obtain ⟨M, hM, hM3⟩ := wI_nat0 n2 3 (by decide)
  have ht := twS_all ⟨A, by omega⟩ ⟨K, by omega⟩ ⟨M, by omega⟩
  simp only at ht
  obtain ⟨x, b, hx⟩ : ∃ x b, nxS (A : Int) (5 + (K : Int)) (M : Int) = (x, b) := ⟨_, _, rfl⟩
  obtain ⟨y, c, hy⟩ : ∃ y c, nxS x (5 + (K : Int)) (M : Int) = (y, c) := ⟨_, _, rfl⟩
  unfold twS at ht
  simp only [hx, hy] at ht
  have HX := Hid.in hx
  have HY := Hid.in hy
  have hw : IntKind.i64.wrap (5 + (K : Int)) = 5 + (K : Int) := by rw [IntKind.wrap_i64]; omega
  have HA : Hid (∀ y, Calls Try.prog 20 #[.int .i64 n0, .int .i64 0, .int .i64 4] y fun r w' => r = .returned (.int .i64 (A : Int)) ∧ w' = y) := Hid.in (fun y => hA ▸ within_i n0 0 4 y (by decide) (by decide) (by decide))
  have HK : Hid (∀ y, Calls Try.prog 20 #[.int .i64 n1, .int .i64 0, .int .i64 5] y fun r w' => r = .returned (.int .i64 (K : Int)) ∧ w' = y) := Hid.in (fun y => hK ▸ within_i n1 0 5 y (by decide) (by decide) (by decide))
  have HM : Hid (∀ y, Calls Try.prog 20 #[.int .i64 n2, .int .i64 0, .int .i64 3] y fun r w' => r = .returned (.int .i64 (M : Int)) ∧ w' = y) := Hid.in (fun y => hM ▸ within_i n2 0 3 y (by decide) (by decide) (by decide))
  clear hx hy hA hA4 hK hK5 hM hM3
  obtain ⟨k, hk⟩ : ∃ k, 5 + (K : Int) = k := ⟨_, rfl⟩
  rw [hk] at ht hw
  have HX' : Hid (nxS (A : Int) k (M : Int) = (x, b)) := Hid.in (hk ▸ HX.out)
  have HY' : Hid (nxS x k (M : Int) = (y, c)) := Hid.in (hk ▸ HY.out)
  have hw' : IntKind.i64.wrap (5 + (K : Int)) = k := by rw [hk]; exact hw
  clear HX HY hw hk
  by_cases x0 : x = 0
  · subst x0
    simp only [if_true, Bool.and_eq_true, decide_eq_true_eq, Bool.not_eq_true', Bool.or_eq_true] at ht
    obtain ⟨⟨rfl, rfl⟩, hb⟩ := ht
    cases b with
    | false =>
      clear hb
      go_enter Try.func7, Try.ntmps7
      go_wp2_with fail
      refine (HA.out _).mono ?_
      rintro r w' ⟨rfl, rfl⟩
      go_wp2_with fail
      refine (HM.out _).mono ?_
      rintro r w' ⟨rfl, rfl⟩
      go_wp2_with fail
      refine (HK.out _).mono ?_
      rintro r w' ⟨rfl, rfl⟩
      go_wp2_with fail
      refine (stNext_c _ _ _ _ _ HX'.out _).mono ?_
      rintro r w' ⟨rfl, rfl⟩
      go_wp2_with fail
      refine (stNext_c _ _ _ _ _ HY'.out _).mono ?_
      rintro r w' ⟨rfl, rfl⟩
      go_wp2_with fail
      refine (stateRuns_any _).mono ?_
      rintro r w' ⟨rfl, rfl⟩
      go_wp2
      go_ret
      exact ⟨rfl, Below.refl _ _⟩
    | true =>
      have HD : Hid (dtS (A : Int) = true) := Hid.in (by rcases hb with h | h <;> first | exact h | cases h)
      clear hb
      go_enter Try.func7, Try.ntmps7
      go_wp2_with fail
      refine (HA.out _).mono ?_
      rintro r w' ⟨rfl, rfl⟩
      go_wp2_with fail
      refine (HM.out _).mono ?_
      rintro r w' ⟨rfl, rfl⟩
      go_wp2_with fail
      refine (HK.out _).mono ?_
      rintro r w' ⟨rfl, rfl⟩
      go_wp2_with fail
      refine (stNext_c _ _ _ _ _ HX'.out _).mono ?_
      rintro r w' ⟨rfl, rfl⟩
      go_wp2_with fail
      refine (stNext_c _ _ _ _ _ HY'.out _).mono ?_
      rintro r w' ⟨rfl, rfl⟩
      go_wp2_with fail
      refine (stDirty_e _ true HD.out _).mono ?_
      rintro r w' ⟨rfl, rfl⟩
      go_wp2_with fail
      refine (stateRuns_any _).mono ?_
      rintro r w' ⟨rfl, rfl⟩
      go_wp2
      go_ret
      exact ⟨rfl, Below.refl _ _⟩
  rw [if_neg x0] at ht
  simp only [Bool.and_eq_true, decide_eq_true_eq, beq_iff_eq, Bool.or_eq_true, Bool.not_eq_true'] at ht
  obtain ⟨⟨rfl, hc⟩, hb⟩ := ht
  have q0 := ne_q x0
  by_cases k5 : k = 5
  · subst k5
    by_cases x3 : y = 3
    · subst x3
      obtain rfl : c = true := by rw [hc]; decide
      obtain rfl : b = true := by rcases hb with h | h <;> first | exact h | cases h
      clear hb hc x0
      go_enter Try.func7, Try.ntmps7
      go_wp2_with fail
      refine (HA.out _).mono ?_
      rintro r w' ⟨rfl, rfl⟩
      go_wp2_with fail
      refine (HM.out _).mono ?_
      rintro r w' ⟨rfl, rfl⟩
      go_wp2_with fail
      refine (HK.out _).mono ?_
      rintro r w' ⟨rfl, rfl⟩
      go_wp2_with fail
      refine (stNext_c _ _ _ _ _ HX'.out _).mono ?_
      rintro r w' ⟨rfl, rfl⟩
      go_wp2_with fail
      refine (stNext_c _ _ _ _ _ HY'.out _).mono ?_
      rintro r w' ⟨rfl, rfl⟩
      go_wp2_with fail
      refine (stateRuns_any _).mono ?_
      rintro r w' ⟨rfl, rfl⟩
      go_wp2
      go_ret
      exact ⟨rfl, Below.refl _ _⟩
    · obtain rfl : c = false := by rw [hc]; simp [x3]
      have q3 := ne_q x3
      clear hb hc x0 x3
      go_enter Try.func7, Try.ntmps7
      go_wp2_with fail
      refine (HA.out _).mono ?_
      rintro r w' ⟨rfl, rfl⟩
      go_wp2_with fail
      refine (HM.out _).mono ?_
      rintro r w' ⟨rfl, rfl⟩
      go_wp2_with fail
      refine (HK.out _).mono ?_
      rintro r w' ⟨rfl, rfl⟩
      go_wp2_with fail
      refine (stNext_c _ _ _ _ _ HX'.out _).mono ?_
      rintro r w' ⟨rfl, rfl⟩
      go_wp2_with fail
      refine (stNext_c _ _ _ _ _ HY'.out _).mono ?_
      rintro r w' ⟨rfl, rfl⟩
      go_wp2_with fail
      refine (stateRuns_any _).mono ?_
      rintro r w' ⟨rfl, rfl⟩
      go_wp2
      go_ret
      exact ⟨rfl, Below.refl _ _⟩
  · obtain rfl : c = false := by rw [hc]; simp [k5]
    have q5 := ne_q k5
    clear hb hc x0 k5
    go_enter Try.func7, Try.ntmps7
    go_wp2_with fail
    refine (HA.out _).mono ?_
    rintro r w' ⟨rfl, rfl⟩
    go_wp2_with fail
    refine (HM.out _).mono ?_
    rintro r w' ⟨rfl, rfl⟩
    go_wp2_with fail
    refine (HK.out _).mono ?_
    rintro r w' ⟨rfl, rfl⟩
    go_wp2_with fail
    refine (stNext_c _ _ _ _ _ HX'.out _).mono ?_
    rintro r w' ⟨rfl, rfl⟩
    go_wp2_with fail
    refine (stNext_c _ _ _ _ _ HY'.out _).mono ?_
    rintro r w' ⟨rfl, rfl⟩
    go_wp2_with fail
    refine (stateRuns_any _).mono ?_
    rintro r w' ⟨rfl, rfl⟩
    go_wp2
    go_ret
    exact ⟨rfl, Below.refl _ _⟩

end Go.Proofs.Ytkdkbaplfgjkmaa
