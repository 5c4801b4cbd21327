/- DERIVED of the program: package state and the document's own table: Reads, Writes, Dirty, Next, Grant, Legal by their contracts. Own work. -/
import Derived.Test.YtkdkbaplfgjkmaaGenA
namespace Go.Proofs.Ytkdkbaplfgjkmaa
open Go.RowKit Go.Extern.Stop Go.Stop Go.Extern

def rdS (s : Int) : Bool := decide (1 ≤ s ∧ s ≤ 4)
def wrS (s : Int) : Bool := decide (s = 2 ∨ s = 4)
def dtS (s : Int) : Bool := decide (s = 3 ∨ s = 4)
/-- What is shared comes to. -/
def shS (s m : Int) : Int := if s = 4 ∧ m = 3 then 0 else if (s = 3 ∨ s = 4) ∧ (m = 1 ∨ m = 2) then 3 else 1
def nxS (s k m : Int) : Int × Bool :=
  if rdS s = false ∨ m < 0 ∨ 3 < m then (0, false)
  else if k = 5 then (shS s m, dtS s)
  else if k = 6 ∨ k = 10 then (0, dtS s)
  else if k = 9 then (1, dtS s)
  else if k = 7 ∨ k = 8 then (s, false)
  else (0, false)
def grS (k : Int) (a : Bool) : Int := if k = 1 then (if a then 2 else 1) else if k = 2 ∨ k = 3 then 4 else 0
def bsS (a b : Int) : Bool := decide (a = 1 ∧ (b = 1 ∨ b = 3))
def lgS (a b : Int) : Bool := decide (a = 0 ∨ b = 0) || bsS a b || bsS b a

theorem st5 (s : Int) : s = 1 ∨ s = 2 ∨ s = 3 ∨ s = 4 ∨ s = 0 ∨ (s < 0 ∨ 4 < s) := by omega
theorem ne_q {a b : Int} (h : ¬ a = b) : (a == b) = false := by simpa using h

theorem stReads_c (s : Int) (w : World) : Calls Try.prog 14 #[.int .i64 s] w fun r w' => r = .returned (.bool (rdS s)) ∧ w' = w := by
  rcases st5 s with rfl | rfl | rfl | rfl | rfl | h
  · have HE : Hid (rdS 1 = true) := Hid.in (by decide)
    go_enter Try.func14, Try.ntmps14
    go_wp2
    go_ret
    exact ⟨ret_bool HE.out.symm, rfl⟩
  · have HE : Hid (rdS 2 = true) := Hid.in (by decide)
    go_enter Try.func14, Try.ntmps14
    go_wp2
    go_ret
    exact ⟨ret_bool HE.out.symm, rfl⟩
  · have HE : Hid (rdS 3 = true) := Hid.in (by decide)
    go_enter Try.func14, Try.ntmps14
    go_wp2
    go_ret
    exact ⟨ret_bool HE.out.symm, rfl⟩
  · have HE : Hid (rdS 4 = true) := Hid.in (by decide)
    go_enter Try.func14, Try.ntmps14
    go_wp2
    go_ret
    exact ⟨ret_bool HE.out.symm, rfl⟩
  · have HE : Hid (rdS 0 = false) := Hid.in (by decide)
    go_enter Try.func14, Try.ntmps14
    go_wp2
    go_ret
    exact ⟨ret_bool HE.out.symm, rfl⟩
  · have HE : Hid (rdS s = false) := Hid.in (by simp only [rdS, decide_eq_false_iff_not]; omega)
    have q0 : (s == 0) = false := ne_q (by omega)
    have q1 : (s == 1) = false := ne_q (by omega)
    have q2 : (s == 2) = false := ne_q (by omega)
    have q3 : (s == 3) = false := ne_q (by omega)
    have q4 : (s == 4) = false := ne_q (by omega)
    rcases h with h | h
    · have a1 : ¬ (1 : Int) ≤ s := by omega
      have a2 : ¬ (0 : Int) < s := by omega
      have a3 : s ≤ 4 := by omega
      clear h
      go_enter Try.func14, Try.ntmps14
      go_wp2
      go_ret
      exact ⟨ret_bool HE.out.symm, rfl⟩
    · have a1 : (1 : Int) ≤ s := by omega
      have a2 : (0 : Int) < s := by omega
      have a3 : ¬ s ≤ 4 := by omega
      clear h
      go_enter Try.func14, Try.ntmps14
      go_wp2
      go_ret
      exact ⟨ret_bool HE.out.symm, rfl⟩

theorem stWrites_c (s : Int) (w : World) : Calls Try.prog 16 #[.int .i64 s] w fun r w' => r = .returned (.bool (wrS s)) ∧ w' = w := by
  rcases st5 s with rfl | rfl | rfl | rfl | rfl | h
  · have HE : Hid (wrS 1 = false) := Hid.in (by decide)
    go_enter Try.func16, Try.ntmps16
    go_wp2
    go_ret
    exact ⟨ret_bool HE.out.symm, rfl⟩
  · have HE : Hid (wrS 2 = true) := Hid.in (by decide)
    go_enter Try.func16, Try.ntmps16
    go_wp2
    go_ret
    exact ⟨ret_bool HE.out.symm, rfl⟩
  · have HE : Hid (wrS 3 = false) := Hid.in (by decide)
    go_enter Try.func16, Try.ntmps16
    go_wp2
    go_ret
    exact ⟨ret_bool HE.out.symm, rfl⟩
  · have HE : Hid (wrS 4 = true) := Hid.in (by decide)
    go_enter Try.func16, Try.ntmps16
    go_wp2
    go_ret
    exact ⟨ret_bool HE.out.symm, rfl⟩
  · have HE : Hid (wrS 0 = false) := Hid.in (by decide)
    go_enter Try.func16, Try.ntmps16
    go_wp2
    go_ret
    exact ⟨ret_bool HE.out.symm, rfl⟩
  · have HE : Hid (wrS s = false) := Hid.in (by simp only [wrS, decide_eq_false_iff_not]; omega)
    have q0 : (s == 0) = false := ne_q (by omega)
    have q1 : (s == 1) = false := ne_q (by omega)
    have q2 : (s == 2) = false := ne_q (by omega)
    have q3 : (s == 3) = false := ne_q (by omega)
    have q4 : (s == 4) = false := ne_q (by omega)
    rcases h with h | h
    · have a1 : ¬ (1 : Int) ≤ s := by omega
      have a2 : ¬ (0 : Int) < s := by omega
      have a3 : s ≤ 4 := by omega
      clear h
      go_enter Try.func16, Try.ntmps16
      go_wp2
      go_ret
      exact ⟨ret_bool HE.out.symm, rfl⟩
    · have a1 : (1 : Int) ≤ s := by omega
      have a2 : (0 : Int) < s := by omega
      have a3 : ¬ s ≤ 4 := by omega
      clear h
      go_enter Try.func16, Try.ntmps16
      go_wp2
      go_ret
      exact ⟨ret_bool HE.out.symm, rfl⟩

theorem stDirty_c (s : Int) (w : World) : Calls Try.prog 18 #[.int .i64 s] w fun r w' => r = .returned (.bool (dtS s)) ∧ w' = w := by
  rcases st5 s with rfl | rfl | rfl | rfl | rfl | h
  · have HE : Hid (dtS 1 = false) := Hid.in (by decide)
    go_enter Try.func18, Try.ntmps18
    go_wp2
    go_ret
    exact ⟨ret_bool HE.out.symm, rfl⟩
  · have HE : Hid (dtS 2 = false) := Hid.in (by decide)
    go_enter Try.func18, Try.ntmps18
    go_wp2
    go_ret
    exact ⟨ret_bool HE.out.symm, rfl⟩
  · have HE : Hid (dtS 3 = true) := Hid.in (by decide)
    go_enter Try.func18, Try.ntmps18
    go_wp2
    go_ret
    exact ⟨ret_bool HE.out.symm, rfl⟩
  · have HE : Hid (dtS 4 = true) := Hid.in (by decide)
    go_enter Try.func18, Try.ntmps18
    go_wp2
    go_ret
    exact ⟨ret_bool HE.out.symm, rfl⟩
  · have HE : Hid (dtS 0 = false) := Hid.in (by decide)
    go_enter Try.func18, Try.ntmps18
    go_wp2
    go_ret
    exact ⟨ret_bool HE.out.symm, rfl⟩
  · have HE : Hid (dtS s = false) := Hid.in (by simp only [dtS, decide_eq_false_iff_not]; omega)
    have q0 : (s == 0) = false := ne_q (by omega)
    have q1 : (s == 1) = false := ne_q (by omega)
    have q2 : (s == 2) = false := ne_q (by omega)
    have q3 : (s == 3) = false := ne_q (by omega)
    have q4 : (s == 4) = false := ne_q (by omega)
    rcases h with h | h
    · have a1 : ¬ (1 : Int) ≤ s := by omega
      have a2 : ¬ (0 : Int) < s := by omega
      have a3 : s ≤ 4 := by omega
      clear h
      go_enter Try.func18, Try.ntmps18
      go_wp2
      go_ret
      exact ⟨ret_bool HE.out.symm, rfl⟩
    · have a1 : (1 : Int) ≤ s := by omega
      have a2 : (0 : Int) < s := by omega
      have a3 : ¬ s ≤ 4 := by omega
      clear h
      go_enter Try.func18, Try.ntmps18
      go_wp2
      go_ret
      exact ⟨ret_bool HE.out.symm, rfl⟩

theorem qReads_c (s : Int) (w : World) : Calls Try.prog 15 #[.int .i64 s] w fun r w' => r = .returned (.bool (rdS s)) ∧ w' = w := by
  rcases st5 s with rfl | rfl | rfl | rfl | rfl | h
  · have HE : Hid (rdS 1 = true) := Hid.in (by decide)
    go_enter Try.func15, Try.ntmps15
    go_wp2
    go_ret
    exact ⟨ret_bool HE.out.symm, rfl⟩
  · have HE : Hid (rdS 2 = true) := Hid.in (by decide)
    go_enter Try.func15, Try.ntmps15
    go_wp2
    go_ret
    exact ⟨ret_bool HE.out.symm, rfl⟩
  · have HE : Hid (rdS 3 = true) := Hid.in (by decide)
    go_enter Try.func15, Try.ntmps15
    go_wp2
    go_ret
    exact ⟨ret_bool HE.out.symm, rfl⟩
  · have HE : Hid (rdS 4 = true) := Hid.in (by decide)
    go_enter Try.func15, Try.ntmps15
    go_wp2
    go_ret
    exact ⟨ret_bool HE.out.symm, rfl⟩
  · have HE : Hid (rdS 0 = false) := Hid.in (by decide)
    go_enter Try.func15, Try.ntmps15
    go_wp2
    go_ret
    exact ⟨ret_bool HE.out.symm, rfl⟩
  · have HE : Hid (rdS s = false) := Hid.in (by simp only [rdS, decide_eq_false_iff_not]; omega)
    have q0 : (s == 0) = false := ne_q (by omega)
    have q1 : (s == 1) = false := ne_q (by omega)
    have q2 : (s == 2) = false := ne_q (by omega)
    have q3 : (s == 3) = false := ne_q (by omega)
    have q4 : (s == 4) = false := ne_q (by omega)
    rcases h with h | h
    · have a1 : ¬ (1 : Int) ≤ s := by omega
      have a2 : ¬ (0 : Int) < s := by omega
      have a3 : s ≤ 4 := by omega
      clear h
      go_enter Try.func15, Try.ntmps15
      go_wp2
      go_ret
      exact ⟨ret_bool HE.out.symm, rfl⟩
    · have a1 : (1 : Int) ≤ s := by omega
      have a2 : (0 : Int) < s := by omega
      have a3 : ¬ s ≤ 4 := by omega
      clear h
      go_enter Try.func15, Try.ntmps15
      go_wp2
      go_ret
      exact ⟨ret_bool HE.out.symm, rfl⟩

theorem qWrites_c (s : Int) (w : World) : Calls Try.prog 17 #[.int .i64 s] w fun r w' => r = .returned (.bool (wrS s)) ∧ w' = w := by
  rcases st5 s with rfl | rfl | rfl | rfl | rfl | h
  · have HE : Hid (wrS 1 = false) := Hid.in (by decide)
    go_enter Try.func17, Try.ntmps17
    go_wp2
    go_ret
    exact ⟨ret_bool HE.out.symm, rfl⟩
  · have HE : Hid (wrS 2 = true) := Hid.in (by decide)
    go_enter Try.func17, Try.ntmps17
    go_wp2
    go_ret
    exact ⟨ret_bool HE.out.symm, rfl⟩
  · have HE : Hid (wrS 3 = false) := Hid.in (by decide)
    go_enter Try.func17, Try.ntmps17
    go_wp2
    go_ret
    exact ⟨ret_bool HE.out.symm, rfl⟩
  · have HE : Hid (wrS 4 = true) := Hid.in (by decide)
    go_enter Try.func17, Try.ntmps17
    go_wp2
    go_ret
    exact ⟨ret_bool HE.out.symm, rfl⟩
  · have HE : Hid (wrS 0 = false) := Hid.in (by decide)
    go_enter Try.func17, Try.ntmps17
    go_wp2
    go_ret
    exact ⟨ret_bool HE.out.symm, rfl⟩
  · have HE : Hid (wrS s = false) := Hid.in (by simp only [wrS, decide_eq_false_iff_not]; omega)
    have q0 : (s == 0) = false := ne_q (by omega)
    have q1 : (s == 1) = false := ne_q (by omega)
    have q2 : (s == 2) = false := ne_q (by omega)
    have q3 : (s == 3) = false := ne_q (by omega)
    have q4 : (s == 4) = false := ne_q (by omega)
    rcases h with h | h
    · have a1 : ¬ (1 : Int) ≤ s := by omega
      have a2 : ¬ (0 : Int) < s := by omega
      have a3 : s ≤ 4 := by omega
      clear h
      go_enter Try.func17, Try.ntmps17
      go_wp2
      go_ret
      exact ⟨ret_bool HE.out.symm, rfl⟩
    · have a1 : (1 : Int) ≤ s := by omega
      have a2 : (0 : Int) < s := by omega
      have a3 : ¬ s ≤ 4 := by omega
      clear h
      go_enter Try.func17, Try.ntmps17
      go_wp2
      go_ret
      exact ⟨ret_bool HE.out.symm, rfl⟩

theorem qDirty_c (s : Int) (w : World) : Calls Try.prog 19 #[.int .i64 s] w fun r w' => r = .returned (.bool (dtS s)) ∧ w' = w := by
  rcases st5 s with rfl | rfl | rfl | rfl | rfl | h
  · have HE : Hid (dtS 1 = false) := Hid.in (by decide)
    go_enter Try.func19, Try.ntmps19
    go_wp2
    go_ret
    exact ⟨ret_bool HE.out.symm, rfl⟩
  · have HE : Hid (dtS 2 = false) := Hid.in (by decide)
    go_enter Try.func19, Try.ntmps19
    go_wp2
    go_ret
    exact ⟨ret_bool HE.out.symm, rfl⟩
  · have HE : Hid (dtS 3 = true) := Hid.in (by decide)
    go_enter Try.func19, Try.ntmps19
    go_wp2
    go_ret
    exact ⟨ret_bool HE.out.symm, rfl⟩
  · have HE : Hid (dtS 4 = true) := Hid.in (by decide)
    go_enter Try.func19, Try.ntmps19
    go_wp2
    go_ret
    exact ⟨ret_bool HE.out.symm, rfl⟩
  · have HE : Hid (dtS 0 = false) := Hid.in (by decide)
    go_enter Try.func19, Try.ntmps19
    go_wp2
    go_ret
    exact ⟨ret_bool HE.out.symm, rfl⟩
  · have HE : Hid (dtS s = false) := Hid.in (by simp only [dtS, decide_eq_false_iff_not]; omega)
    have q0 : (s == 0) = false := ne_q (by omega)
    have q1 : (s == 1) = false := ne_q (by omega)
    have q2 : (s == 2) = false := ne_q (by omega)
    have q3 : (s == 3) = false := ne_q (by omega)
    have q4 : (s == 4) = false := ne_q (by omega)
    rcases h with h | h
    · have a1 : ¬ (1 : Int) ≤ s := by omega
      have a2 : ¬ (0 : Int) < s := by omega
      have a3 : s ≤ 4 := by omega
      clear h
      go_enter Try.func19, Try.ntmps19
      go_wp2
      go_ret
      exact ⟨ret_bool HE.out.symm, rfl⟩
    · have a1 : (1 : Int) ≤ s := by omega
      have a2 : (0 : Int) < s := by omega
      have a3 : ¬ s ≤ 4 := by omega
      clear h
      go_enter Try.func19, Try.ntmps19
      go_wp2
      go_ret
      exact ⟨ret_bool HE.out.symm, rfl⟩

theorem stShare_c (s m : Int) (w : World) : Calls Try.prog 22 #[.int .i64 s, .int .i64 m] w fun r w' => r = .returned (.int .i64 (shS s m)) ∧ w' = w := by
  by_cases m3 : m = 3
  · subst m3
    by_cases s4 : s = 4
    · subst s4
      have HE : Hid (shS 4 3 = 0) := Hid.in (by decide)
      go_enter Try.func22, Try.ntmps22
      go_wp2
      go_ret
      exact ⟨ret_int HE.out.symm, rfl⟩
    · have q4 := ne_q s4
      have HE : Hid (shS s 3 = 1) := Hid.in (by simp [shS, s4])
      by_cases s3 : s = 3
      · subst s3
        clear s4 q4
        go_enter Try.func22, Try.ntmps22
        go_wp2
        go_ret
        exact ⟨ret_int HE.out.symm, rfl⟩
      · have q3 := ne_q s3
        clear s4 s3
        go_enter Try.func22, Try.ntmps22
        go_wp2
        go_ret
        exact ⟨ret_int HE.out.symm, rfl⟩
  · have p3 := ne_q m3
    by_cases s4 : s = 4
    · subst s4
      by_cases m1 : m = 1
      · subst m1
        have HE : Hid (shS 4 1 = 3) := Hid.in (by decide)
        clear p3 m3
        go_enter Try.func22, Try.ntmps22
        go_wp2
        go_ret
        exact ⟨ret_int HE.out.symm, rfl⟩
      · by_cases m2 : m = 2
        · subst m2
          have HE : Hid (shS 4 2 = 3) := Hid.in (by decide)
          clear p3 m3 m1
          go_enter Try.func22, Try.ntmps22
          go_wp2
          go_ret
          exact ⟨ret_int HE.out.symm, rfl⟩
        · have p1 := ne_q m1
          have p2 := ne_q m2
          have HE : Hid (shS 4 m = 1) := Hid.in (by simp [shS, m1, m2, m3])
          clear m1 m2 m3
          go_enter Try.func22, Try.ntmps22
          go_wp2
          go_ret
          exact ⟨ret_int HE.out.symm, rfl⟩
    · have q4 := ne_q s4
      by_cases s3 : s = 3
      · subst s3
        clear s4 q4
        by_cases m1 : m = 1
        · subst m1
          have HE : Hid (shS 3 1 = 3) := Hid.in (by decide)
          clear p3 m3
          go_enter Try.func22, Try.ntmps22
          go_wp2
          go_ret
          exact ⟨ret_int HE.out.symm, rfl⟩
        · by_cases m2 : m = 2
          · subst m2
            have HE : Hid (shS 3 2 = 3) := Hid.in (by decide)
            clear p3 m3 m1
            go_enter Try.func22, Try.ntmps22
            go_wp2
            go_ret
            exact ⟨ret_int HE.out.symm, rfl⟩
          · have p1 := ne_q m1
            have p2 := ne_q m2
            have HE : Hid (shS 3 m = 1) := Hid.in (by simp [shS, m1, m2])
            clear m1 m2 m3
            go_enter Try.func22, Try.ntmps22
            go_wp2
            go_ret
            exact ⟨ret_int HE.out.symm, rfl⟩
      · have q3 := ne_q s3
        have HE : Hid (shS s m = 1) := Hid.in (by simp [shS, s3, s4])
        clear s4 s3 m3
        go_enter Try.func22, Try.ntmps22
        go_wp2
        go_ret
        exact ⟨ret_int HE.out.symm, rfl⟩

theorem stNext_c (s k m : Int) (x : Int) (b : Bool) (h : nxS s k m = (x, b)) (w : World) : Calls Try.prog 12 #[.int .i64 s, .int .i64 k, .int .i64 m] w fun r w' => r = .returned (.tuple #[.int .i64 x, .bool b]) ∧ w' = w := by
  have HR : Hid (∀ y, Calls Try.prog 14 #[.int .i64 s] y fun r w' => r = .returned (.bool (rdS s)) ∧ w' = y) := Hid.in (fun y => stReads_c s y)
  obtain ⟨rd, hrd⟩ : ∃ rd, rdS s = rd := ⟨_, rfl⟩
  rw [hrd] at HR
  unfold nxS at h
  cases rd with
  | false =>
    rw [hrd, if_pos (.inl rfl)] at h
    cases h
    clear hrd
    go_enter Try.func12, Try.ntmps12
    go_wp2_with fail
    refine (HR.out _).mono ?_
    rintro r w' ⟨rfl, rfl⟩
    go_wp2
    go_ret2
    exact ⟨rfl, rfl⟩
  | true =>
    rw [hrd] at h
    by_cases m0 : m < 0
    · rw [if_pos (.inr (.inl m0))] at h
      cases h
      clear hrd
      go_enter Try.func12, Try.ntmps12
      go_wp2_with fail
      refine (HR.out _).mono ?_
      rintro r w' ⟨rfl, rfl⟩
      go_wp2
      go_ret2
      exact ⟨rfl, rfl⟩
    by_cases m3 : 3 < m
    · rw [if_pos (.inr (.inr m3))] at h
      cases h
      have m3' : m > 3 := m3
      clear hrd
      go_enter Try.func12, Try.ntmps12
      go_wp2_with fail
      refine (HR.out _).mono ?_
      rintro r w' ⟨rfl, rfl⟩
      go_wp2
      go_ret2
      exact ⟨rfl, rfl⟩
    rw [if_neg (by simp [m0, m3])] at h
    have m3' : ¬ m > 3 := m3
    have HRD := Hid.in hrd
    clear hrd
    by_cases k5 : k = 5
    · subst k5
      simp at h
      obtain ⟨rfl, rfl⟩ := h
      go_enter Try.func12, Try.ntmps12
      go_wp2_with fail
      refine (HR.out _).mono ?_
      rintro r w' ⟨rfl, rfl⟩
      go_wp2_with fail
      refine (stShare_c s m _).mono ?_
      rintro r w' ⟨rfl, rfl⟩
      go_wp2_with fail
      refine (stDirty_c s _).mono ?_
      rintro r w' ⟨rfl, rfl⟩
      go_wp2
      go_ret2
      exact ⟨rfl, rfl⟩
    by_cases k6 : k = 6
    · subst k6
      simp at h
      clear k5
      obtain ⟨rfl, rfl⟩ := h
      go_enter Try.func12, Try.ntmps12
      go_wp2_with fail
      refine (HR.out _).mono ?_
      rintro r w' ⟨rfl, rfl⟩
      go_wp2_with fail
      refine (stDirty_c s _).mono ?_
      rintro r w' ⟨rfl, rfl⟩
      go_wp2
      go_ret2
      exact ⟨rfl, rfl⟩
    by_cases k10 : k = 10
    · subst k10
      simp at h
      clear k5 k6
      obtain ⟨rfl, rfl⟩ := h
      go_enter Try.func12, Try.ntmps12
      go_wp2_with fail
      refine (HR.out _).mono ?_
      rintro r w' ⟨rfl, rfl⟩
      go_wp2_with fail
      refine (stDirty_c s _).mono ?_
      rintro r w' ⟨rfl, rfl⟩
      go_wp2
      go_ret2
      exact ⟨rfl, rfl⟩
    by_cases k9 : k = 9
    · subst k9
      simp at h
      clear k5 k6 k10
      obtain ⟨rfl, rfl⟩ := h
      go_enter Try.func12, Try.ntmps12
      go_wp2_with fail
      refine (HR.out _).mono ?_
      rintro r w' ⟨rfl, rfl⟩
      go_wp2_with fail
      refine (stDirty_c s _).mono ?_
      rintro r w' ⟨rfl, rfl⟩
      go_wp2
      go_ret2
      exact ⟨rfl, rfl⟩
    by_cases k7 : k = 7
    · subst k7
      simp at h
      clear k5 k6 k10 k9
      obtain ⟨rfl, rfl⟩ := h
      go_enter Try.func12, Try.ntmps12
      go_wp2_with fail
      refine (HR.out _).mono ?_
      rintro r w' ⟨rfl, rfl⟩
      go_wp2
      go_ret2
      exact ⟨rfl, rfl⟩
    by_cases k8 : k = 8
    · subst k8
      simp at h
      clear k5 k6 k10 k9 k7
      obtain ⟨rfl, rfl⟩ := h
      go_enter Try.func12, Try.ntmps12
      go_wp2_with fail
      refine (HR.out _).mono ?_
      rintro r w' ⟨rfl, rfl⟩
      go_wp2
      go_ret2
      exact ⟨rfl, rfl⟩
    simp only [k5, k6, k10, k9, k7, k8, or_self, if_false] at h
    cases h
    have q5 := ne_q k5
    have q6 := ne_q k6
    have q10 := ne_q k10
    have q9 := ne_q k9
    have q7 := ne_q k7
    have q8 := ne_q k8
    clear k5 k6 k10 k9 k7 k8
    go_enter Try.func12, Try.ntmps12
    go_wp2_with fail
    refine (HR.out _).mono ?_
    rintro r w' ⟨rfl, rfl⟩
    go_wp2
    go_ret2
    exact ⟨rfl, rfl⟩

theorem qNext_c (s k m : Int) (x : Int) (b : Bool) (h : nxS s k m = (x, b)) (w : World) : Calls Try.prog 13 #[.int .i64 s, .int .i64 k, .int .i64 m] w fun r w' => r = .returned (.tuple #[.int .i64 x, .bool b]) ∧ w' = w := by
  have HR : Hid (∀ y, Calls Try.prog 15 #[.int .i64 s] y fun r w' => r = .returned (.bool (rdS s)) ∧ w' = y) := Hid.in (fun y => qReads_c s y)
  obtain ⟨rd, hrd⟩ : ∃ rd, rdS s = rd := ⟨_, rfl⟩
  rw [hrd] at HR
  unfold nxS at h
  cases rd with
  | false =>
    rw [hrd, if_pos (.inl rfl)] at h
    cases h
    clear hrd
    go_enter Try.func13, Try.ntmps13
    go_wp2_with fail
    refine (HR.out _).mono ?_
    rintro r w' ⟨rfl, rfl⟩
    go_wp2
    go_ret2
    exact ⟨rfl, rfl⟩
  | true =>
    rw [hrd] at h
    by_cases m0 : m < 0
    · rw [if_pos (.inr (.inl m0))] at h
      cases h
      clear hrd
      go_enter Try.func13, Try.ntmps13
      go_wp2_with fail
      refine (HR.out _).mono ?_
      rintro r w' ⟨rfl, rfl⟩
      go_wp2
      go_ret2
      exact ⟨rfl, rfl⟩
    by_cases m3 : 3 < m
    · rw [if_pos (.inr (.inr m3))] at h
      cases h
      have m3' : m > 3 := m3
      clear hrd
      go_enter Try.func13, Try.ntmps13
      go_wp2_with fail
      refine (HR.out _).mono ?_
      rintro r w' ⟨rfl, rfl⟩
      go_wp2
      go_ret2
      exact ⟨rfl, rfl⟩
    rw [if_neg (by simp [m0, m3])] at h
    have m3' : ¬ m > 3 := m3
    have HRD := Hid.in hrd
    clear hrd
    by_cases k5 : k = 5
    · subst k5
      simp at h
      have HX : Hid (x = shS s m ∧ b = dtS s) := Hid.in ⟨h.1.symm, h.2.symm⟩
      clear h
      have hs : s = 1 ∨ s = 2 ∨ s = 3 ∨ s = 4 := by have := HRD.out; simp only [rdS, decide_eq_true_eq] at this; omega
      have hm : m = 0 ∨ m = 1 ∨ m = 2 ∨ m = 3 := by omega
      rcases hs with rfl | rfl | rfl | rfl
      · clear hm
        have HY : Hid (shS 1 m = 1 ∧ dtS 1 = false) := Hid.in ⟨by simp [shS], by decide⟩
        go_enter Try.func13, Try.ntmps13
        go_wp2_with fail
        refine (HR.out _).mono ?_
        rintro r w' ⟨rfl, rfl⟩
        go_wp2
        go_ret2
        exact ⟨by rw [HX.out.1, HX.out.2, HY.out.1, HY.out.2]; rfl, rfl⟩
      · clear hm
        have HY : Hid (shS 2 m = 1 ∧ dtS 2 = false) := Hid.in ⟨by simp [shS], by decide⟩
        go_enter Try.func13, Try.ntmps13
        go_wp2_with fail
        refine (HR.out _).mono ?_
        rintro r w' ⟨rfl, rfl⟩
        go_wp2
        go_ret2
        exact ⟨by rw [HX.out.1, HX.out.2, HY.out.1, HY.out.2]; rfl, rfl⟩
      · rcases hm with rfl | rfl | rfl | rfl
        · have HY : Hid (shS 3 0 = 1 ∧ dtS 3 = true) := Hid.in ⟨by decide, by decide⟩
          clear m0 m3 m3'
          go_enter Try.func13, Try.ntmps13
          go_wp2_with fail
          refine (HR.out _).mono ?_
          rintro r w' ⟨rfl, rfl⟩
          go_wp2
          go_ret2
          exact ⟨by rw [HX.out.1, HX.out.2, HY.out.1, HY.out.2]; rfl, rfl⟩
        · have HY : Hid (shS 3 1 = 3 ∧ dtS 3 = true) := Hid.in ⟨by decide, by decide⟩
          clear m0 m3 m3'
          go_enter Try.func13, Try.ntmps13
          go_wp2_with fail
          refine (HR.out _).mono ?_
          rintro r w' ⟨rfl, rfl⟩
          go_wp2
          go_ret2
          exact ⟨by rw [HX.out.1, HX.out.2, HY.out.1, HY.out.2]; rfl, rfl⟩
        · have HY : Hid (shS 3 2 = 3 ∧ dtS 3 = true) := Hid.in ⟨by decide, by decide⟩
          clear m0 m3 m3'
          go_enter Try.func13, Try.ntmps13
          go_wp2_with fail
          refine (HR.out _).mono ?_
          rintro r w' ⟨rfl, rfl⟩
          go_wp2
          go_ret2
          exact ⟨by rw [HX.out.1, HX.out.2, HY.out.1, HY.out.2]; rfl, rfl⟩
        · have HY : Hid (shS 3 3 = 1 ∧ dtS 3 = true) := Hid.in ⟨by decide, by decide⟩
          clear m0 m3 m3'
          go_enter Try.func13, Try.ntmps13
          go_wp2_with fail
          refine (HR.out _).mono ?_
          rintro r w' ⟨rfl, rfl⟩
          go_wp2
          go_ret2
          exact ⟨by rw [HX.out.1, HX.out.2, HY.out.1, HY.out.2]; rfl, rfl⟩
      · rcases hm with rfl | rfl | rfl | rfl
        · have HY : Hid (shS 4 0 = 1 ∧ dtS 4 = true) := Hid.in ⟨by decide, by decide⟩
          clear m0 m3 m3'
          go_enter Try.func13, Try.ntmps13
          go_wp2_with fail
          refine (HR.out _).mono ?_
          rintro r w' ⟨rfl, rfl⟩
          go_wp2
          go_ret2
          exact ⟨by rw [HX.out.1, HX.out.2, HY.out.1, HY.out.2]; rfl, rfl⟩
        · have HY : Hid (shS 4 1 = 3 ∧ dtS 4 = true) := Hid.in ⟨by decide, by decide⟩
          clear m0 m3 m3'
          go_enter Try.func13, Try.ntmps13
          go_wp2_with fail
          refine (HR.out _).mono ?_
          rintro r w' ⟨rfl, rfl⟩
          go_wp2
          go_ret2
          exact ⟨by rw [HX.out.1, HX.out.2, HY.out.1, HY.out.2]; rfl, rfl⟩
        · have HY : Hid (shS 4 2 = 3 ∧ dtS 4 = true) := Hid.in ⟨by decide, by decide⟩
          clear m0 m3 m3'
          go_enter Try.func13, Try.ntmps13
          go_wp2_with fail
          refine (HR.out _).mono ?_
          rintro r w' ⟨rfl, rfl⟩
          go_wp2
          go_ret2
          exact ⟨by rw [HX.out.1, HX.out.2, HY.out.1, HY.out.2]; rfl, rfl⟩
        · have HY : Hid (shS 4 3 = 0 ∧ dtS 4 = true) := Hid.in ⟨by decide, by decide⟩
          clear m0 m3 m3'
          go_enter Try.func13, Try.ntmps13
          go_wp2_with fail
          refine (HR.out _).mono ?_
          rintro r w' ⟨rfl, rfl⟩
          go_wp2
          go_ret2
          exact ⟨by rw [HX.out.1, HX.out.2, HY.out.1, HY.out.2]; rfl, rfl⟩
    by_cases k6 : k = 6
    · subst k6
      simp at h
      clear k5
      obtain ⟨rfl, rfl⟩ := h
      go_enter Try.func13, Try.ntmps13
      go_wp2_with fail
      refine (HR.out _).mono ?_
      rintro r w' ⟨rfl, rfl⟩
      go_wp2_with fail
      refine (qDirty_c s _).mono ?_
      rintro r w' ⟨rfl, rfl⟩
      go_wp2
      go_ret2
      exact ⟨rfl, rfl⟩
    by_cases k10 : k = 10
    · subst k10
      simp at h
      clear k5 k6
      obtain ⟨rfl, rfl⟩ := h
      go_enter Try.func13, Try.ntmps13
      go_wp2_with fail
      refine (HR.out _).mono ?_
      rintro r w' ⟨rfl, rfl⟩
      go_wp2_with fail
      refine (qDirty_c s _).mono ?_
      rintro r w' ⟨rfl, rfl⟩
      go_wp2
      go_ret2
      exact ⟨rfl, rfl⟩
    by_cases k9 : k = 9
    · subst k9
      simp at h
      clear k5 k6 k10
      obtain ⟨rfl, rfl⟩ := h
      go_enter Try.func13, Try.ntmps13
      go_wp2_with fail
      refine (HR.out _).mono ?_
      rintro r w' ⟨rfl, rfl⟩
      go_wp2_with fail
      refine (qDirty_c s _).mono ?_
      rintro r w' ⟨rfl, rfl⟩
      go_wp2
      go_ret2
      exact ⟨rfl, rfl⟩
    by_cases k7 : k = 7
    · subst k7
      simp at h
      clear k5 k6 k10 k9
      obtain ⟨rfl, rfl⟩ := h
      go_enter Try.func13, Try.ntmps13
      go_wp2_with fail
      refine (HR.out _).mono ?_
      rintro r w' ⟨rfl, rfl⟩
      go_wp2
      go_ret2
      exact ⟨rfl, rfl⟩
    by_cases k8 : k = 8
    · subst k8
      simp at h
      clear k5 k6 k10 k9 k7
      obtain ⟨rfl, rfl⟩ := h
      go_enter Try.func13, Try.ntmps13
      go_wp2_with fail
      refine (HR.out _).mono ?_
      rintro r w' ⟨rfl, rfl⟩
      go_wp2
      go_ret2
      exact ⟨rfl, rfl⟩
    simp only [k5, k6, k10, k9, k7, k8, or_self, if_false] at h
    cases h
    have q5 := ne_q k5
    have q6 := ne_q k6
    have q10 := ne_q k10
    have q9 := ne_q k9
    have q7 := ne_q k7
    have q8 := ne_q k8
    clear k5 k6 k10 k9 k7 k8
    go_enter Try.func13, Try.ntmps13
    go_wp2_with fail
    refine (HR.out _).mono ?_
    rintro r w' ⟨rfl, rfl⟩
    go_wp2
    go_ret2
    exact ⟨rfl, rfl⟩

theorem stGrant_c (k : Int) (a : Bool) (w : World) : Calls Try.prog 11 #[.int .i64 k, .bool a] w fun r w' => r = .returned (.int .i64 (grS k a)) ∧ w' = w := by
  by_cases k1 : k = 1
  · subst k1
    cases a with
    | true =>
      have HE : Hid (grS 1 true = 2) := Hid.in (by simp [grS])
      go_enter Try.func11, Try.ntmps11
      go_wp2
      go_ret
      exact ⟨ret_int HE.out.symm, rfl⟩
    | false =>
      have HE : Hid (grS 1 false = 1) := Hid.in (by simp [grS])
      go_enter Try.func11, Try.ntmps11
      go_wp2
      go_ret
      exact ⟨ret_int HE.out.symm, rfl⟩
  by_cases k2 : k = 2
  · subst k2
    clear k1
    have HE : Hid (grS 2 a = 4) := Hid.in (by simp [grS])
    go_enter Try.func11, Try.ntmps11
    go_wp2
    go_ret
    exact ⟨ret_int HE.out.symm, rfl⟩
  by_cases k3 : k = 3
  · subst k3
    clear k1 k2
    have HE : Hid (grS 3 a = 4) := Hid.in (by simp [grS])
    go_enter Try.func11, Try.ntmps11
    go_wp2
    go_ret
    exact ⟨ret_int HE.out.symm, rfl⟩
  have HE : Hid (grS k a = 0) := Hid.in (by simp [grS, k1, k2, k3])
  have q1 := ne_q k1
  have q2 := ne_q k2
  have q3 := ne_q k3
  clear k1 k2 k3
  go_enter Try.func11, Try.ntmps11
  go_wp2
  go_ret
  exact ⟨ret_int HE.out.symm, rfl⟩

theorem stBeside_c (a b : Int) (w : World) : Calls Try.prog 21 #[.int .i64 a, .int .i64 b] w fun r w' => r = .returned (.bool (bsS a b)) ∧ w' = w := by
  by_cases a1 : a = 1
  · subst a1
    by_cases b1 : b = 1
    · subst b1
      have HE : Hid (bsS 1 1 = true) := Hid.in (by decide)
      go_enter Try.func21, Try.ntmps21
      go_wp2
      go_ret
      exact ⟨ret_bool HE.out.symm, rfl⟩
    by_cases b3 : b = 3
    · subst b3
      have HE : Hid (bsS 1 3 = true) := Hid.in (by decide)
      clear b1
      go_enter Try.func21, Try.ntmps21
      go_wp2
      go_ret
      exact ⟨ret_bool HE.out.symm, rfl⟩
    have HE : Hid (bsS 1 b = false) := Hid.in (by simp [bsS, b1, b3])
    have q1 := ne_q b1
    have q3 := ne_q b3
    clear b1 b3
    go_enter Try.func21, Try.ntmps21
    go_wp2
    go_ret
    exact ⟨ret_bool HE.out.symm, rfl⟩
  have HE : Hid (bsS a b = false) := Hid.in (by simp [bsS, a1])
  have q1 := ne_q a1
  clear a1
  go_enter Try.func21, Try.ntmps21
  go_wp2
  go_ret
  exact ⟨ret_bool HE.out.symm, rfl⟩

theorem stLegal_c (a b : Int) (w : World) : Calls Try.prog 10 #[.int .i64 a, .int .i64 b] w fun r w' => r = .returned (.bool (lgS a b)) ∧ w' = w := by
  by_cases a0 : a = 0
  · subst a0
    have HE : Hid (lgS 0 b = true) := Hid.in (by simp [lgS])
    go_enter Try.func10, Try.ntmps10
    go_wp2
    go_ret
    exact ⟨ret_bool HE.out.symm, rfl⟩
  by_cases b0 : b = 0
  · subst b0
    have HE : Hid (lgS a 0 = true) := Hid.in (by simp [lgS])
    have q0 := ne_q a0
    clear a0
    go_enter Try.func10, Try.ntmps10
    go_wp2
    go_ret
    exact ⟨ret_bool HE.out.symm, rfl⟩
  have q0 := ne_q a0
  have p0 := ne_q b0
  have HB : Hid (∀ y, Calls Try.prog 21 #[.int .i64 a, .int .i64 b] y fun r w' => r = .returned (.bool (bsS a b)) ∧ w' = y) := Hid.in (fun y => stBeside_c a b y)
  have HB2 : Hid (∀ y, Calls Try.prog 21 #[.int .i64 b, .int .i64 a] y fun r w' => r = .returned (.bool (bsS b a)) ∧ w' = y) := Hid.in (fun y => stBeside_c b a y)
  cases h1 : bsS a b with
  | true =>
    rw [h1] at HB
    have HE : Hid (lgS a b = true) := Hid.in (by simp [lgS, h1])
    clear h1 a0 b0
    go_enter Try.func10, Try.ntmps10
    go_wp2_with fail
    refine (HB.out _).mono ?_
    rintro r w' ⟨rfl, rfl⟩
    go_wp2
    go_ret
    exact ⟨ret_bool HE.out.symm, rfl⟩
  | false =>
    rw [h1] at HB
    cases h2 : bsS b a with
    | true =>
      rw [h2] at HB2
      have HE : Hid (lgS a b = true) := Hid.in (by simp [lgS, h2])
      clear h1 h2 a0 b0
      go_enter Try.func10, Try.ntmps10
      go_wp2_with fail
      refine (HB.out _).mono ?_
      rintro r w' ⟨rfl, rfl⟩
      go_wp2_with fail
      refine (HB2.out _).mono ?_
      rintro r w' ⟨rfl, rfl⟩
      go_wp2
      go_ret
      exact ⟨ret_bool HE.out.symm, rfl⟩
    | false =>
      rw [h2] at HB2
      have HE : Hid (lgS a b = false) := Hid.in (by simp [lgS, h1, h2, a0, b0])
      clear h1 h2 a0 b0
      go_enter Try.func10, Try.ntmps10
      go_wp2_with fail
      refine (HB.out _).mono ?_
      rintro r w' ⟨rfl, rfl⟩
      go_wp2_with fail
      refine (HB2.out _).mono ?_
      rintro r w' ⟨rfl, rfl⟩
      go_wp2
      go_ret
      exact ⟨ret_bool HE.out.symm, rfl⟩

end Go.Proofs.Ytkdkbaplfgjkmaa
