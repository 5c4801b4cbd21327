/- DERIVED of the program: PlruOne returns true. Own work. -/
import Derived.Test.YthajdkdgakckgaaPlC
namespace Go.Proofs.Ythajdkdgakckgaa
open Go.RowKit Go.Extern.Stop Go.Stop Go.Extern

set_option maxHeartbeats 3200000 in
theorem plruOne_any (w : World) (b : Nat) (hb : b < 256) (ways way : Int) :
    Calls Try.prog 8 #[.int .u8 (b : Int), .int .i64 ways, .int .i64 way] w fun r w' => r = .returned (.bool true) ∧ Below w.heap.size w w' := by
  have HB := Hid.in hb
  have HV1 : Hid (victimI b 1 = 0) := Hid.in (vic b hb).1
  have HT1 : Hid (touchI b 1 0 = b) := Hid.in (touch_one b hb)
  by_cases h4 : ways = 1 ∨ ways = 2 ∨ ways = 4 ∨ ways = 8
  · obtain ⟨V, hV⟩ : ∃ V, victimI b ways = V := ⟨_, rfl⟩
    have hV2 := viced h4 hb
    rw [hV] at hV2
    have HV := Hid.in hV
    have hv0 := hV2.1
    have hv1 := hV2.2
    clear hV hV2
    by_cases h0 : 0 ≤ way
    · by_cases h1 : way < ways
      · rcases h4 with rfl | rfl | rfl | rfl
        all_goals
          go_enter Try.func8, Try.ntmps8
          go_wp2_with fail
          refine (victim_c b 1 0 HB.out HV1.out _).mono ?_
          rintro r w' ⟨rfl, rfl⟩
          go_wp2_with fail
          refine (touch_c b 1 0 b HB.out HT1.out _).mono ?_
          rintro r w' ⟨rfl, rfl⟩
          go_wp2_with fail
          refine (victim_c b _ V HB.out HV.out _).mono ?_
          rintro r w' ⟨rfl, rfl⟩
          go_wp2_with fail
          refine (plruRuns_any _).mono ?_
          rintro r w' ⟨rfl, rfl⟩
          go_wp2
          go_ret
          exact ⟨rfl, Below.refl _ _⟩
      · have HT : Hid (touchI b ways way = b) := Hid.in (touch_out (by omega))
        rcases h4 with rfl | rfl | rfl | rfl
        all_goals
          go_enter Try.func8, Try.ntmps8
          go_wp2_with fail
          refine (victim_c b 1 0 HB.out HV1.out _).mono ?_
          rintro r w' ⟨rfl, rfl⟩
          go_wp2_with fail
          refine (touch_c b 1 0 b HB.out HT1.out _).mono ?_
          rintro r w' ⟨rfl, rfl⟩
          go_wp2_with fail
          refine (victim_c b _ V HB.out HV.out _).mono ?_
          rintro r w' ⟨rfl, rfl⟩
          go_wp2_with fail
          refine (touch_c b _ way b HB.out HT.out _).mono ?_
          rintro r w' ⟨rfl, rfl⟩
          go_wp2_with fail
          refine (plruRuns_any _).mono ?_
          rintro r w' ⟨rfl, rfl⟩
          go_wp2
          go_ret
          exact ⟨rfl, Below.refl _ _⟩
    · have HT : Hid (touchI b ways way = b) := Hid.in (touch_out (by omega))
      rcases h4 with rfl | rfl | rfl | rfl
      all_goals
        go_enter Try.func8, Try.ntmps8
        go_wp2_with fail
        refine (victim_c b 1 0 HB.out HV1.out _).mono ?_
        rintro r w' ⟨rfl, rfl⟩
        go_wp2_with fail
        refine (touch_c b 1 0 b HB.out HT1.out _).mono ?_
        rintro r w' ⟨rfl, rfl⟩
        go_wp2_with fail
        refine (victim_c b _ V HB.out HV.out _).mono ?_
        rintro r w' ⟨rfl, rfl⟩
        go_wp2_with fail
        refine (touch_c b _ way b HB.out HT.out _).mono ?_
        rintro r w' ⟨rfl, rfl⟩
        go_wp2_with fail
        refine (plruRuns_any _).mono ?_
        rintro r w' ⟨rfl, rfl⟩
        go_wp2
        go_ret
        exact ⟨rfl, Below.refl _ _⟩
  · have hp : pB ways = false := by simp only [pB, decide_eq_false_iff_not]; exact h4
    have HV : Hid (victimI b ways = -1) := Hid.in (victim_out hp)
    have HT : Hid (touchI b ways way = b) := Hid.in (touch_out (by simp [hp]))
    have h1 : (ways == 1) = false := by simp; omega
    have h2 : (ways == 2) = false := by simp; omega
    have h3 : (ways == 4) = false := by simp; omega
    have h5 : (ways == 8) = false := by simp; omega
    clear h4 hp
    go_enter Try.func8, Try.ntmps8
    go_wp2_with fail
    refine (victim_c b 1 0 HB.out HV1.out _).mono ?_
    rintro r w' ⟨rfl, rfl⟩
    go_wp2_with fail
    refine (touch_c b 1 0 b HB.out HT1.out _).mono ?_
    rintro r w' ⟨rfl, rfl⟩
    go_wp2_with fail
    refine (victim_c b ways (-1) HB.out HV.out _).mono ?_
    rintro r w' ⟨rfl, rfl⟩
    go_wp2_with fail
    refine (touch_c b ways way b HB.out HT.out _).mono ?_
    rintro r w' ⟨rfl, rfl⟩
    go_wp2_with fail
    refine (plruRuns_any _).mono ?_
    rintro r w' ⟨rfl, rfl⟩
    go_wp2
    go_ret
    exact ⟨rfl, Below.refl _ _⟩

end Go.Proofs.Ythajdkdgakckgaa
