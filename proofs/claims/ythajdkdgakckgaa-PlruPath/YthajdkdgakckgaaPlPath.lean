/- DERIVED of the program: PlruPath returns true. Own work. -/
import Derived.Test.YthajdkdgakckgaaPlRow
namespace Go.Proofs.Ythajdkdgakckgaa
open Go.RowKit Go.Extern.Stop Go.Stop Go.Extern

/-- What two touches come to, of one number of ways. -/
theorem pathed {ways : Int} {hi : Nat} (hp : ∀ b, b < 256 → ∀ y : Nat, (y : Int) < ways → ∀ v : Nat, (v : Int) < ways → okP ways hi b (y : Nat) (v : Nat) = true) {b : Nat} (hb : b < 256) {y v : Int} (hy : 0 ≤ y ∧ y < ways) (hv : 0 ≤ v ∧ v < ways) :
    touchI (touchI b ways y) ways y = touchI b ways y ∧ touchI b ways y &&& hi = b &&& hi ∧ (ways < 4 ∨ (victimI (touchI (touchI b ways y) ways v) ways ≠ y ∧ victimI (touchI (touchI b ways y) ways v) ways ≠ v) ∨ y = v) ∧ (ways = 1 ∨ victimI (touchI (touchI b ways y) ways v) ways ≠ v) := by
  obtain ⟨y', rfl⟩ : ∃ n : Nat, y = (n : Int) := ⟨y.toNat, by omega⟩
  obtain ⟨v', rfl⟩ : ∃ n : Nat, v = (n : Int) := ⟨v.toNat, by omega⟩
  have h := hp b hb y' hy.2 v' hv.2
  simp only [okP, Bool.and_eq_true, Bool.or_eq_true, decide_eq_true_eq] at h
  obtain ⟨⟨⟨h1, h2⟩, h3⟩, h4⟩ := h
  refine ⟨h1, h2, ?_, h4⟩
  rcases h3 with (h3 | h3) | h3
  · exact .inl h3
  · exact .inr (.inl h3)
  · exact .inr (.inr h3)

set_option maxHeartbeats 3200000 in
set_option maxRecDepth 20000 in
theorem plruPath_at (w : World) (b : Nat) (hb : b < 256) (n way other : Int) (ways q : Int) (hi : Nat) (hq : wI n 0 3 = q) (hc : (q = 0 ∧ ways = 1 ∧ hi = 255) ∨ (q = 1 ∧ ways = 2 ∧ hi = 254) ∨ (q = 2 ∧ ways = 4 ∧ hi = 248) ∨ (q = 3 ∧ ways = 8 ∧ hi = 128))
    (hp : ∀ b, b < 256 → ∀ y : Nat, (y : Int) < ways → ∀ v : Nat, (v : Int) < ways → okP ways hi b (y : Nat) (v : Nat) = true) :
    Calls Try.prog 6 #[.int .u8 (b : Int), .int .i64 n, .int .i64 way, .int .i64 other] w fun r w' => r = .returned (.bool true) ∧ Below w.heap.size w w' := by
  obtain ⟨y, hy⟩ : ∃ q, wI way 0 (ways - 1) = q := ⟨_, rfl⟩
  obtain ⟨v, hv⟩ : ∃ q, wI other 0 (ways - 1) = q := ⟨_, rfl⟩
  have hy2 := wI_le way 0 (ways - 1) (by omega)
  have hv2 := wI_le other 0 (ways - 1) (by omega)
  rw [hy] at hy2
  rw [hv] at hv2
  obtain ⟨f1, f2, f3, f4⟩ := pathed hp hb (y := y) (v := v) (by omega) (by omega)
  have hC1 := touchI_lt hb ways y
  have hC2 := touchI_lt hC1 ways v
  obtain ⟨C, hC⟩ : ∃ C, touchI b ways y = C := ⟨_, rfl⟩
  rw [hC] at f1 f2 f3 f4 hC1 hC2
  obtain ⟨D, hD⟩ : ∃ D, touchI C ways v = D := ⟨_, rfl⟩
  rw [hD] at f3 f4 hC2
  obtain ⟨X, hX⟩ : ∃ X, victimI D ways = X := ⟨_, rfl⟩
  rw [hX] at f3 f4
  obtain ⟨M, hM⟩ : ∃ M, b &&& hi = M := ⟨_, rfl⟩
  rw [hM] at f2
  have hh : hi < 256 := by omega
  have g1 : bits .and .u8 (C : Int) (hi : Int) = (M : Int) := by rw [u8_and_nat _ _ hC1 hh, f2]
  have g2 : bits .and .u8 (b : Int) (hi : Int) = (M : Int) := by rw [u8_and_nat _ _ hb hh, hM]
  have HX := Hid.in hX
  have HD := Hid.in hD
  have HC := Hid.in hC
  have HF1 := Hid.in f1
  have HF3 := Hid.in f3
  have HF4 := Hid.in f4
  have HY := Hid.in hy
  have HV := Hid.in hv
  have HQ := Hid.in hq
  have HB := Hid.in hb
  have HB1 := Hid.in hC1
  have HB2 := Hid.in hC2
  clear hX hD hC f1 f2 f3 f4 hy hv hq hb hC1 hC2 hM hp hh
  rcases hc with ⟨rfl, rfl, rfl⟩ | ⟨rfl, rfl, rfl⟩ | ⟨rfl, rfl, rfl⟩ | ⟨rfl, rfl, rfl⟩
  · have g3 : bits .and .u8 (C : Int) 255 = (M : Int) := g1
    have g4 : bits .and .u8 (b : Int) 255 = (M : Int) := g2
    clear g1 g2
    go_enter Try.func6, Try.ntmps6
    go_wp2_with fail
    refine (within_c n 0 3 _ _ (by omega) (by omega) (by omega) HQ.out).mono ?_
    rintro r w' ⟨rfl, rfl⟩
    go_wp2_with fail
    refine (within_c way 0 0 y _ (by omega) (by omega) (by omega) HY.out).mono ?_
    rintro r w' ⟨rfl, rfl⟩
    go_wp2_with fail
    refine (within_c other 0 0 v _ (by omega) (by omega) (by omega) HV.out).mono ?_
    rintro r w' ⟨rfl, rfl⟩
    go_wp2_with fail
    refine (touch_c b 1 y C HB.out HC.out _).mono ?_
    rintro r w' ⟨rfl, rfl⟩
    go_wp2_with fail
    refine (touch_c C 1 y C HB1.out HF1.out _).mono ?_
    rintro r w' ⟨rfl, rfl⟩
    go_wp2_with fail
    refine (touch_c C 1 v D HB1.out HD.out _).mono ?_
    rintro r w' ⟨rfl, rfl⟩
    go_wp2_with fail
    refine (victim_c D 1 X HB2.out HX.out _).mono ?_
    rintro r w' ⟨rfl, rfl⟩
    go_wp2_with fail
    refine (plruRuns_any _).mono ?_
    rintro r w' ⟨rfl, rfl⟩
    go_wp2
    go_ret
    exact ⟨rfl, Below.refl _ _⟩
  · have hx : (X != v) = true := by have := HF4.out; simp; omega
    have g3 : bits .and .u8 (C : Int) 254 = (M : Int) := g1
    have g4 : bits .and .u8 (b : Int) 254 = (M : Int) := g2
    clear g1 g2
    go_enter Try.func6, Try.ntmps6
    go_wp2_with fail
    refine (within_c n 0 3 _ _ (by omega) (by omega) (by omega) HQ.out).mono ?_
    rintro r w' ⟨rfl, rfl⟩
    go_wp2_with fail
    refine (within_c way 0 1 y _ (by omega) (by omega) (by omega) HY.out).mono ?_
    rintro r w' ⟨rfl, rfl⟩
    go_wp2_with fail
    refine (within_c other 0 1 v _ (by omega) (by omega) (by omega) HV.out).mono ?_
    rintro r w' ⟨rfl, rfl⟩
    go_wp2_with fail
    refine (touch_c b 2 y C HB.out HC.out _).mono ?_
    rintro r w' ⟨rfl, rfl⟩
    go_wp2_with fail
    refine (touch_c C 2 y C HB1.out HF1.out _).mono ?_
    rintro r w' ⟨rfl, rfl⟩
    go_wp2_with fail
    refine (touch_c C 2 v D HB1.out HD.out _).mono ?_
    rintro r w' ⟨rfl, rfl⟩
    go_wp2_with fail
    refine (victim_c D 2 X HB2.out HX.out _).mono ?_
    rintro r w' ⟨rfl, rfl⟩
    go_wp2_with fail
    refine (plruRuns_any _).mono ?_
    rintro r w' ⟨rfl, rfl⟩
    go_wp2
    go_ret
    exact ⟨rfl, Below.refl _ _⟩
  · have hx : (X != v) = true := by have := HF4.out; simp; omega
    have g3 : bits .and .u8 (C : Int) 248 = (M : Int) := g1
    have g4 : bits .and .u8 (b : Int) 248 = (M : Int) := g2
    clear g1 g2
    by_cases he : y = v
    · subst he
      go_enter Try.func6, Try.ntmps6
      go_wp2_with fail
      refine (within_c n 0 3 _ _ (by omega) (by omega) (by omega) HQ.out).mono ?_
      rintro r w' ⟨rfl, rfl⟩
      go_wp2_with fail
      refine (within_c way 0 3 y _ (by omega) (by omega) (by omega) HY.out).mono ?_
      rintro r w' ⟨rfl, rfl⟩
      go_wp2_with fail
      refine (within_c other 0 3 y _ (by omega) (by omega) (by omega) HV.out).mono ?_
      rintro r w' ⟨rfl, rfl⟩
      go_wp2_with fail
      refine (touch_c b 4 y C HB.out HC.out _).mono ?_
      rintro r w' ⟨rfl, rfl⟩
      go_wp2_with fail
      refine (touch_c C 4 y C HB1.out HF1.out _).mono ?_
      rintro r w' ⟨rfl, rfl⟩
      go_wp2_with fail
      refine (touch_c C 4 y D HB1.out HD.out _).mono ?_
      rintro r w' ⟨rfl, rfl⟩
      go_wp2_with fail
      refine (victim_c D 4 X HB2.out HX.out _).mono ?_
      rintro r w' ⟨rfl, rfl⟩
      go_wp2_with fail
      refine (plruRuns_any _).mono ?_
      rintro r w' ⟨rfl, rfl⟩
      go_wp2
      go_ret
      exact ⟨rfl, Below.refl _ _⟩
    · have hxy : (X != y) = true := by have := HF3.out; simp; omega
      have he2 : (y == v) = false := by simp; omega
      clear he
      go_enter Try.func6, Try.ntmps6
      go_wp2_with fail
      refine (within_c n 0 3 _ _ (by omega) (by omega) (by omega) HQ.out).mono ?_
      rintro r w' ⟨rfl, rfl⟩
      go_wp2_with fail
      refine (within_c way 0 3 y _ (by omega) (by omega) (by omega) HY.out).mono ?_
      rintro r w' ⟨rfl, rfl⟩
      go_wp2_with fail
      refine (within_c other 0 3 v _ (by omega) (by omega) (by omega) HV.out).mono ?_
      rintro r w' ⟨rfl, rfl⟩
      go_wp2_with fail
      refine (touch_c b 4 y C HB.out HC.out _).mono ?_
      rintro r w' ⟨rfl, rfl⟩
      go_wp2_with fail
      refine (touch_c C 4 y C HB1.out HF1.out _).mono ?_
      rintro r w' ⟨rfl, rfl⟩
      go_wp2_with fail
      refine (touch_c C 4 v D HB1.out HD.out _).mono ?_
      rintro r w' ⟨rfl, rfl⟩
      go_wp2_with fail
      refine (victim_c D 4 X HB2.out HX.out _).mono ?_
      rintro r w' ⟨rfl, rfl⟩
      go_wp2_with fail
      refine (plruRuns_any _).mono ?_
      rintro r w' ⟨rfl, rfl⟩
      go_wp2
      go_ret
      exact ⟨rfl, Below.refl _ _⟩
  · have hx : (X != v) = true := by have := HF4.out; simp; omega
    have g3 : bits .and .u8 (C : Int) 128 = (M : Int) := g1
    have g4 : bits .and .u8 (b : Int) 128 = (M : Int) := g2
    clear g1 g2
    by_cases he : y = v
    · subst he
      go_enter Try.func6, Try.ntmps6
      go_wp2_with fail
      refine (within_c n 0 3 _ _ (by omega) (by omega) (by omega) HQ.out).mono ?_
      rintro r w' ⟨rfl, rfl⟩
      go_wp2_with fail
      refine (within_c way 0 7 y _ (by omega) (by omega) (by omega) HY.out).mono ?_
      rintro r w' ⟨rfl, rfl⟩
      go_wp2_with fail
      refine (within_c other 0 7 y _ (by omega) (by omega) (by omega) HV.out).mono ?_
      rintro r w' ⟨rfl, rfl⟩
      go_wp2_with fail
      refine (touch_c b 8 y C HB.out HC.out _).mono ?_
      rintro r w' ⟨rfl, rfl⟩
      go_wp2_with fail
      refine (touch_c C 8 y C HB1.out HF1.out _).mono ?_
      rintro r w' ⟨rfl, rfl⟩
      go_wp2_with fail
      refine (touch_c C 8 y D HB1.out HD.out _).mono ?_
      rintro r w' ⟨rfl, rfl⟩
      go_wp2_with fail
      refine (victim_c D 8 X HB2.out HX.out _).mono ?_
      rintro r w' ⟨rfl, rfl⟩
      go_wp2_with fail
      refine (plruRuns_any _).mono ?_
      rintro r w' ⟨rfl, rfl⟩
      go_wp2
      go_ret
      exact ⟨rfl, Below.refl _ _⟩
    · have hxy : (X != y) = true := by have := HF3.out; simp; omega
      have he2 : (y == v) = false := by simp; omega
      clear he
      go_enter Try.func6, Try.ntmps6
      go_wp2_with fail
      refine (within_c n 0 3 _ _ (by omega) (by omega) (by omega) HQ.out).mono ?_
      rintro r w' ⟨rfl, rfl⟩
      go_wp2_with fail
      refine (within_c way 0 7 y _ (by omega) (by omega) (by omega) HY.out).mono ?_
      rintro r w' ⟨rfl, rfl⟩
      go_wp2_with fail
      refine (within_c other 0 7 v _ (by omega) (by omega) (by omega) HV.out).mono ?_
      rintro r w' ⟨rfl, rfl⟩
      go_wp2_with fail
      refine (touch_c b 8 y C HB.out HC.out _).mono ?_
      rintro r w' ⟨rfl, rfl⟩
      go_wp2_with fail
      refine (touch_c C 8 y C HB1.out HF1.out _).mono ?_
      rintro r w' ⟨rfl, rfl⟩
      go_wp2_with fail
      refine (touch_c C 8 v D HB1.out HD.out _).mono ?_
      rintro r w' ⟨rfl, rfl⟩
      go_wp2_with fail
      refine (victim_c D 8 X HB2.out HX.out _).mono ?_
      rintro r w' ⟨rfl, rfl⟩
      go_wp2_with fail
      refine (plruRuns_any _).mono ?_
      rintro r w' ⟨rfl, rfl⟩
      go_wp2
      go_ret
      exact ⟨rfl, Below.refl _ _⟩

theorem plruPath_any (w : World) (b : Nat) (hb : b < 256) (n way other : Int) :
    Calls Try.prog 6 #[.int .u8 (b : Int), .int .i64 n, .int .i64 way, .int .i64 other] w fun r w' => r = .returned (.bool true) ∧ Below w.heap.size w w' := by
  have hq := wI_le n 0 3 (by omega)
  have h4 : wI n 0 3 = 0 ∨ wI n 0 3 = 1 ∨ wI n 0 3 = 2 ∨ wI n 0 3 = 3 := by omega
  rcases h4 with h | h | h | h
  · exact plruPath_at w b hb n way other 1 0 255 h (by omega) (fun b hb y hy v hv => path1 b hb y (by omega) v (by omega))
  · exact plruPath_at w b hb n way other 2 1 254 h (by omega) (fun b hb y hy v hv => path2 b hb y (by omega) v (by omega))
  · exact plruPath_at w b hb n way other 4 2 248 h (by omega) (fun b hb y hy v hv => path4 b hb y (by omega) v (by omega))
  · exact plruPath_at w b hb n way other 8 3 128 h (by omega) (fun b hb y hy v hv => path8 b hb y (by omega) v (by omega))

end Go.Proofs.Ythajdkdgakckgaa
