/- DERIVED of the program: StateTells returns true. Own work. -/
import Derived.Test.YtkdkbaplfgjkmaaStB
import Derived.Deep.CutBlock
namespace Go.Proofs.Ytkdkbaplfgjkmaa
open Go.RowKit Go.Extern.Stop Go.Stop Go.Extern

set_option maxHeartbeats 3200000 in
set_option maxRecDepth 20000 in
theorem stateTells_any (w : World) (s t k m : Int) (a : Bool) : Calls Try.prog 4 #[.int .i64 s, .int .i64 t, .int .i64 k, .int .i64 m, .bool a] w fun r w' => r = .returned (.bool true) ∧ Below w.heap.size w w' := by
  obtain ⟨x, b, hx⟩ : ∃ x b, nxS s k m = (x, b) := ⟨_, _, rfl⟩
  have HX := Hid.in hx
  clear hx
  go_enter Try.func4, Try.ntmps4
  go_wp2_with fail
  refine (stNext_c s k m x b HX.out _).mono ?_
  rintro r w' ⟨rfl, rfl⟩
  go_wp2_with fail
  refine (qNext_c s k m x b HX.out _).mono ?_
  rintro r w' ⟨rfl, rfl⟩
  rename World => w
  go_upto_block 0 with fail
  go_cut [15] (fun v wd => v = .int .i64 (grS k a) ∧ wd = w)
  case first =>
    by_cases k1 : k = 1
    · subst k1
      cases a with
      | true =>
        have HE : Hid (grS 1 true = 2) := Hid.in (by decide)
        go_wp2_with fail
        go_meet
        case rel => exact ⟨by rw [HE.out], rfl⟩
      | false =>
        have HE : Hid (grS 1 false = 1) := Hid.in (by decide)
        go_wp2_with fail
        go_meet
        case rel => exact ⟨by rw [HE.out], rfl⟩
    by_cases k2 : k = 2
    · subst k2
      have HE : Hid (grS 2 a = 4) := Hid.in (by simp [grS])
      go_wp2_with fail
      go_meet
      case rel => exact ⟨by rw [HE.out], rfl⟩
    by_cases k3 : k = 3
    · subst k3
      have HE : Hid (grS 3 a = 4) := Hid.in (by simp [grS])
      go_wp2_with fail
      go_meet
      case rel => exact ⟨by rw [HE.out], rfl⟩
    have HE : Hid (grS k a = 0) := Hid.in (by simp [grS, k1, k2, k3])
    have q1 := ne_q k1
    have q2 := ne_q k2
    have q3 := ne_q k3
    clear k1 k2 k3
    go_wp2_with fail
    go_meet
    case rel => exact ⟨by rw [HE.out], rfl⟩
  case rest =>
  obtain ⟨rfl, hw⟩ := hcut
  subst hw
  rename World => w
  go_upto_region 12 with fail
  go_cut [16] (fun v wd => v = .bool (lgS s t) ∧ wd = w)
  case first =>
    by_cases s0 : s = 0
    · subst s0
      have HE : Hid (lgS 0 t = true) := Hid.in (by simp [lgS])
      go_wp2_with fail
      go_meet
      case rel => exact ⟨by rw [HE.out], rfl⟩
    by_cases t0 : t = 0
    · subst t0
      have HE : Hid (lgS s 0 = true) := Hid.in (by simp [lgS])
      have qs0 := ne_q s0
      clear s0
      go_wp2_with fail
      go_meet
      case rel => exact ⟨by rw [HE.out], rfl⟩
    by_cases s1 : s = 1
    · subst s1
      clear s0
      by_cases t1 : t = 1
      · subst t1
        have HE : Hid (lgS 1 1 = true) := Hid.in (by decide)
        clear t0
        go_wp2_with fail
        go_meet
        case rel => exact ⟨by rw [HE.out], rfl⟩
      by_cases t3 : t = 3
      · subst t3
        have HE : Hid (lgS 1 3 = true) := Hid.in (by decide)
        clear t0 t1
        go_wp2_with fail
        go_meet
        case rel => exact ⟨by rw [HE.out], rfl⟩
      have HE : Hid (lgS 1 t = false) := Hid.in (by simp [lgS, bsS, t0, t1, t3])
      have qt0 := ne_q t0
      have qt1 := ne_q t1
      have qt3 := ne_q t3
      clear t0 t1 t3
      go_wp2_with fail
      go_meet
      case rel => exact ⟨by rw [HE.out], rfl⟩
    by_cases s3 : s = 3
    · subst s3
      clear s0 s1
      by_cases t1 : t = 1
      · subst t1
        have HE : Hid (lgS 3 1 = true) := Hid.in (by decide)
        clear t0
        go_wp2_with fail
        go_meet
        case rel => exact ⟨by rw [HE.out], rfl⟩
      have HE : Hid (lgS 3 t = false) := Hid.in (by simp [lgS, bsS, t0, t1])
      have qt0 := ne_q t0
      have qt1 := ne_q t1
      clear t0 t1
      go_wp2_with fail
      go_meet
      case rel => exact ⟨by rw [HE.out], rfl⟩
    have HE : Hid (lgS s t = false) := Hid.in (by simp [lgS, bsS, s0, t0, s1, s3])
    have qs0 := ne_q s0
    have qt0 := ne_q t0
    have qs1 := ne_q s1
    have qs3 := ne_q s3
    clear s0 t0 s1 s3
    go_wp2_with fail
    go_meet
    case rel => exact ⟨by rw [HE.out], rfl⟩
  case rest =>
  obtain ⟨rfl, hw⟩ := hcut
  subst hw
  rename World => w
  go_wp2_with fail
  refine (stReads_c s _).mono ?_
  rintro r w' ⟨rfl, rfl⟩
  go_wp2_with fail
  refine (qReads_c s _).mono ?_
  rintro r w' ⟨rfl, rfl⟩
  go_wp2_with fail
  refine (stWrites_c s _).mono ?_
  rintro r w' ⟨rfl, rfl⟩
  go_wp2_with fail
  refine (qWrites_c s _).mono ?_
  rintro r w' ⟨rfl, rfl⟩
  go_wp2_with fail
  refine (stDirty_c s _).mono ?_
  rintro r w' ⟨rfl, rfl⟩
  go_wp2_with fail
  refine (qDirty_c s _).mono ?_
  rintro r w' ⟨rfl, rfl⟩
  go_wp2_with fail
  refine (stGrant_c k a _).mono ?_
  rintro r w' ⟨rfl, rfl⟩
  go_wp2_with fail
  refine (stLegal_c s t _).mono ?_
  rintro r w' ⟨rfl, rfl⟩
  go_wp2_with fail
  refine (stateRuns_any _).mono ?_
  rintro r w' ⟨rfl, rfl⟩
  go_wp2
  go_ret
  exact ⟨rfl, Below.refl _ _⟩

end Go.Proofs.Ytkdkbaplfgjkmaa
