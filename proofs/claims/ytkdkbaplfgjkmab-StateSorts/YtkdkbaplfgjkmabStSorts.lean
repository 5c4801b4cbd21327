/- DERIVED of the program: StateSorts returns true. Own work. -/
import Derived.Test.YtkdkbaplfgjkmabStC
namespace Go.Proofs.Ytkdkbaplfgjkmab
open Go.RowKit Go.Extern.Stop Go.Stop Go.Extern

set_option maxHeartbeats 3200000 in
set_option maxRecDepth 20000 in
theorem stateSorts_any (w : World) (s t : Int) : Calls Try.prog 3 #[.int .i64 s, .int .i64 t] w fun r w' => r = .returned (.bool true) ∧ Below w.heap.size w w' := by
  have HS := Hid.in (lgS_symm t s)
  rcases st5 s with rfl | rfl | rfl | rfl | rfl | h
  · go_enter Try.func3, Try.ntmps3
    go_wp2_with fail
    refine (stReads_e (1) true (by decide) _).mono ?_
    rintro r w' ⟨rfl, rfl⟩
    go_wp2_with fail
    refine (stWrites_e (1) false (by decide) _).mono ?_
    rintro r w' ⟨rfl, rfl⟩
    go_wp2_with fail
    refine (stDirty_e (1) false (by decide) _).mono ?_
    rintro r w' ⟨rfl, rfl⟩
    go_wp2_with fail
    refine (stLegal_c (1) t _).mono ?_
    rintro r w' ⟨rfl, rfl⟩
    go_wp2_with fail
    refine (stLegal_e t (1) _ HS.out _).mono ?_
    rintro r w' ⟨rfl, rfl⟩
    go_wp2_with fail
    refine (stateRuns_any _).mono ?_
    rintro r w' ⟨rfl, rfl⟩
    go_wp2
    go_ret
    exact ⟨rfl, Below.refl _ _⟩
  · obtain ⟨rt, hrt⟩ : ∃ rt, rdS t = rt := ⟨_, rfl⟩
    have HRT := Hid.in hrt
    cases rt with
    | true =>
      have HLG := Hid.in (lgS_alone 2 t (by omega) hrt)
      clear hrt
      go_enter Try.func3, Try.ntmps3
      go_wp2_with fail
      refine (stReads_e (2) true (by decide) _).mono ?_
      rintro r w' ⟨rfl, rfl⟩
      go_wp2_with fail
      refine (stWrites_e (2) true (by decide) _).mono ?_
      rintro r w' ⟨rfl, rfl⟩
      go_wp2_with fail
      refine (stDirty_e (2) false (by decide) _).mono ?_
      rintro r w' ⟨rfl, rfl⟩
      go_wp2_with fail
      refine (stLegal_e (2) t false HLG.out _).mono ?_
      rintro r w' ⟨rfl, rfl⟩
      go_wp2_with fail
      refine (stLegal_e t (2) false (HS.out.trans HLG.out) _).mono ?_
      rintro r w' ⟨rfl, rfl⟩
      go_wp2_with fail
      refine (stReads_e t true HRT.out _).mono ?_
      rintro r w' ⟨rfl, rfl⟩
      go_wp2_with fail
      refine (stLegal_e (2) t false HLG.out _).mono ?_
      rintro r w' ⟨rfl, rfl⟩
      go_wp2_with fail
      refine (stateRuns_any _).mono ?_
      rintro r w' ⟨rfl, rfl⟩
      go_wp2
      go_ret
      exact ⟨rfl, Below.refl _ _⟩
    | false =>
      clear hrt
      go_enter Try.func3, Try.ntmps3
      go_wp2_with fail
      refine (stReads_e (2) true (by decide) _).mono ?_
      rintro r w' ⟨rfl, rfl⟩
      go_wp2_with fail
      refine (stWrites_e (2) true (by decide) _).mono ?_
      rintro r w' ⟨rfl, rfl⟩
      go_wp2_with fail
      refine (stDirty_e (2) false (by decide) _).mono ?_
      rintro r w' ⟨rfl, rfl⟩
      go_wp2_with fail
      refine (stLegal_c (2) t _).mono ?_
      rintro r w' ⟨rfl, rfl⟩
      go_wp2_with fail
      refine (stLegal_e t (2) _ HS.out _).mono ?_
      rintro r w' ⟨rfl, rfl⟩
      go_wp2_with fail
      refine (stReads_e t false HRT.out _).mono ?_
      rintro r w' ⟨rfl, rfl⟩
      go_wp2_with fail
      refine (stateRuns_any _).mono ?_
      rintro r w' ⟨rfl, rfl⟩
      go_wp2
      go_ret
      exact ⟨rfl, Below.refl _ _⟩
  · go_enter Try.func3, Try.ntmps3
    go_wp2_with fail
    refine (stReads_e (3) true (by decide) _).mono ?_
    rintro r w' ⟨rfl, rfl⟩
    go_wp2_with fail
    refine (stWrites_e (3) false (by decide) _).mono ?_
    rintro r w' ⟨rfl, rfl⟩
    go_wp2_with fail
    refine (stDirty_e (3) true (by decide) _).mono ?_
    rintro r w' ⟨rfl, rfl⟩
    go_wp2_with fail
    refine (stLegal_c (3) t _).mono ?_
    rintro r w' ⟨rfl, rfl⟩
    go_wp2_with fail
    refine (stLegal_e t (3) _ HS.out _).mono ?_
    rintro r w' ⟨rfl, rfl⟩
    go_wp2_with fail
    refine (stateRuns_any _).mono ?_
    rintro r w' ⟨rfl, rfl⟩
    go_wp2
    go_ret
    exact ⟨rfl, Below.refl _ _⟩
  · obtain ⟨rt, hrt⟩ : ∃ rt, rdS t = rt := ⟨_, rfl⟩
    have HRT := Hid.in hrt
    cases rt with
    | true =>
      have HLG := Hid.in (lgS_alone 4 t (by omega) hrt)
      clear hrt
      go_enter Try.func3, Try.ntmps3
      go_wp2_with fail
      refine (stReads_e (4) true (by decide) _).mono ?_
      rintro r w' ⟨rfl, rfl⟩
      go_wp2_with fail
      refine (stWrites_e (4) true (by decide) _).mono ?_
      rintro r w' ⟨rfl, rfl⟩
      go_wp2_with fail
      refine (stDirty_e (4) true (by decide) _).mono ?_
      rintro r w' ⟨rfl, rfl⟩
      go_wp2_with fail
      refine (stLegal_e (4) t false HLG.out _).mono ?_
      rintro r w' ⟨rfl, rfl⟩
      go_wp2_with fail
      refine (stLegal_e t (4) false (HS.out.trans HLG.out) _).mono ?_
      rintro r w' ⟨rfl, rfl⟩
      go_wp2_with fail
      refine (stReads_e t true HRT.out _).mono ?_
      rintro r w' ⟨rfl, rfl⟩
      go_wp2_with fail
      refine (stLegal_e (4) t false HLG.out _).mono ?_
      rintro r w' ⟨rfl, rfl⟩
      go_wp2_with fail
      refine (stateRuns_any _).mono ?_
      rintro r w' ⟨rfl, rfl⟩
      go_wp2
      go_ret
      exact ⟨rfl, Below.refl _ _⟩
    | false =>
      clear hrt
      go_enter Try.func3, Try.ntmps3
      go_wp2_with fail
      refine (stReads_e (4) true (by decide) _).mono ?_
      rintro r w' ⟨rfl, rfl⟩
      go_wp2_with fail
      refine (stWrites_e (4) true (by decide) _).mono ?_
      rintro r w' ⟨rfl, rfl⟩
      go_wp2_with fail
      refine (stDirty_e (4) true (by decide) _).mono ?_
      rintro r w' ⟨rfl, rfl⟩
      go_wp2_with fail
      refine (stLegal_c (4) t _).mono ?_
      rintro r w' ⟨rfl, rfl⟩
      go_wp2_with fail
      refine (stLegal_e t (4) _ HS.out _).mono ?_
      rintro r w' ⟨rfl, rfl⟩
      go_wp2_with fail
      refine (stReads_e t false HRT.out _).mono ?_
      rintro r w' ⟨rfl, rfl⟩
      go_wp2_with fail
      refine (stateRuns_any _).mono ?_
      rintro r w' ⟨rfl, rfl⟩
      go_wp2
      go_ret
      exact ⟨rfl, Below.refl _ _⟩
  · go_enter Try.func3, Try.ntmps3
    go_wp2_with fail
    refine (stReads_e (0) false (by decide) _).mono ?_
    rintro r w' ⟨rfl, rfl⟩
    go_wp2_with fail
    refine (stWrites_e (0) false (by decide) _).mono ?_
    rintro r w' ⟨rfl, rfl⟩
    go_wp2_with fail
    refine (stDirty_e (0) false (by decide) _).mono ?_
    rintro r w' ⟨rfl, rfl⟩
    go_wp2_with fail
    refine (stLegal_c (0) t _).mono ?_
    rintro r w' ⟨rfl, rfl⟩
    go_wp2_with fail
    refine (stLegal_e t (0) _ HS.out _).mono ?_
    rintro r w' ⟨rfl, rfl⟩
    go_wp2_with fail
    refine (stateRuns_any _).mono ?_
    rintro r w' ⟨rfl, rfl⟩
    go_wp2
    go_ret
    exact ⟨rfl, Below.refl _ _⟩
  · have HR : Hid (rdS s = false) := Hid.in (by simp only [rdS, decide_eq_false_iff_not]; omega)
    have HW : Hid (wrS s = false) := Hid.in (by simp only [wrS, decide_eq_false_iff_not]; omega)
    have HD : Hid (dtS s = false) := Hid.in (by simp only [dtS, decide_eq_false_iff_not]; omega)
    have q1 : (s == 1) = false := ne_q (by omega)
    have q4 : (s == 4) = false := ne_q (by omega)
    rcases h with h | h
    · have a1 : ¬ s ≥ 1 := by omega
      have a1' : ¬ (1 : Int) ≤ s := by omega
      have a2 : s ≤ 4 := by omega
      clear h
      go_enter Try.func3, Try.ntmps3
      go_wp2_with fail
      refine (stReads_e s false (HR.out) _).mono ?_
      rintro r w' ⟨rfl, rfl⟩
      go_wp2_with fail
      refine (stWrites_e s false (HW.out) _).mono ?_
      rintro r w' ⟨rfl, rfl⟩
      go_wp2_with fail
      refine (stDirty_e s false (HD.out) _).mono ?_
      rintro r w' ⟨rfl, rfl⟩
      go_wp2_with fail
      refine (stLegal_c s t _).mono ?_
      rintro r w' ⟨rfl, rfl⟩
      go_wp2_with fail
      refine (stLegal_e t s _ HS.out _).mono ?_
      rintro r w' ⟨rfl, rfl⟩
      go_wp2_with fail
      refine (stateRuns_any _).mono ?_
      rintro r w' ⟨rfl, rfl⟩
      go_wp2
      go_ret
      exact ⟨rfl, Below.refl _ _⟩
    · have a1 : s ≥ 1 := by omega
      have a1' : (1 : Int) ≤ s := by omega
      have a2 : ¬ s ≤ 4 := by omega
      clear h
      go_enter Try.func3, Try.ntmps3
      go_wp2_with fail
      refine (stReads_e s false (HR.out) _).mono ?_
      rintro r w' ⟨rfl, rfl⟩
      go_wp2_with fail
      refine (stWrites_e s false (HW.out) _).mono ?_
      rintro r w' ⟨rfl, rfl⟩
      go_wp2_with fail
      refine (stDirty_e s false (HD.out) _).mono ?_
      rintro r w' ⟨rfl, rfl⟩
      go_wp2_with fail
      refine (stLegal_c s t _).mono ?_
      rintro r w' ⟨rfl, rfl⟩
      go_wp2_with fail
      refine (stLegal_e t s _ HS.out _).mono ?_
      rintro r w' ⟨rfl, rfl⟩
      go_wp2_with fail
      refine (stateRuns_any _).mono ?_
      rintro r w' ⟨rfl, rfl⟩
      go_wp2
      go_ret
      exact ⟨rfl, Below.refl _ _⟩

end Go.Proofs.Ytkdkbaplfgjkmab
