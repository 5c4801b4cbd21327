/- DERIVED of the program: PlruRow returns true. Own work. -/
import Derived.Test.YthajdkdgakckgaaPlC
namespace Go.Proofs.Ythajdkdgakckgaa
open Go.RowKit Go.Extern.Stop Go.Stop Go.Extern

theorem within_c (n lo hi q : Int) (w : World) (h0 : -1000 ≤ lo) (h1 : lo ≤ hi) (h2 : hi ≤ 1000) (h : wI n lo hi = q) :
    Calls Try.prog 13 #[.int .i64 n, .int .i64 lo, .int .i64 hi] w fun r w' => r = .returned (.int .i64 q) ∧ w' = w := by
  rw [← h]; exact within_i n lo hi w h0 h1 h2
theorem isW_pow {q : Int} (h : 0 ≤ q ∧ q ≤ 3) : isW (wrap64 (2 ^ q.toNat)) := by
  have h4 : q = 0 ∨ q = 1 ∨ q = 2 ∨ q = 3 := by omega
  rcases h4 with rfl | rfl | rfl | rfl
  · exact .inl (by decide +kernel)
  · exact .inr (.inl (by decide +kernel))
  · exact .inr (.inr (.inl (by decide +kernel)))
  · exact .inr (.inr (.inr (by decide +kernel)))

theorem rowS_t (ways : Int) (b k : Nat) : rowS ways true b (k + 1) = touchI (rowS ways true b k) ways (ways - 1 - k) := rfl
theorem rowS_f (ways : Int) (b k : Nat) : rowS ways false b (k + 1) = touchI (rowS ways false b k) ways k := rfl

set_option maxHeartbeats 1600000 in
theorem plruRow_any (w : World) (b : Nat) (hb : b < 256) (n : Int) (d : Bool) :
    Calls Try.prog 7 #[.int .u8 (b : Int), .int .i64 n, .bool d] w fun r w' => r = .returned (.bool true) ∧ Below w.heap.size w w' := by
  obtain ⟨q, hq⟩ : ∃ q, q = wI n 0 3 := ⟨_, rfl⟩
  have hq2 := wI_le n 0 3 (by omega)
  rw [← hq] at hq2
  have HQ := Hid.in hq.symm
  clear hq
  go_enter Try.func7, Try.ntmps7
  go_wp2_with fail
  refine (within_c n 0 3 q _ (by omega) (by omega) (by omega) HQ.out).mono ?_
  rintro r w' ⟨rfl, rfl⟩
  go_upto_region 2 with fail
  go_cut [7, 8] (fun v i wd => ∃ ways, v = .int .i64 ways ∧ i = .int .i64 0 ∧ isW ways ∧ wd = w')
  case first =>
    go_wp2
    go_meet
    case rel => exact ⟨_, rfl, rfl, isW_pow hq2, rfl⟩
  case rest =>
  obtain ⟨ways, rfl, rfl, hw, hwd⟩ := hcut
  subst hwd
  rename World => w
  have HW := Hid.in hw
  have h4 : ways = 1 ∨ ways = 2 ∨ ways = 4 ∨ ways = 8 := hw
  have HB := Hid.in hb
  clear hw hq2 HQ
  go_wp2
  go_loopw [0, 8, 9] (fun s i _ wr => ∃ k B : Nat, (k : Int) ≤ ways ∧ i = .int .i64 (k : Int) ∧ s = .int .u8 (B : Int) ∧ B = rowS ways d b k ∧ wr = w) (fun _ i _ _ => 8 - (intOf i).toNat)
  case atStart => exact ⟨0, b, by omega, rfl, rfl, rfl, rfl⟩
  case round =>
    obtain ⟨k, B, hk, rfl, rfl, hB, rfl⟩ := hrel
    have HBB := Hid.in hB
    have HB2 : Hid (B < 256) := Hid.in (by rw [hB]; exact rowS_lt ways d b HB.out k)
    clear hB
    by_cases h : (k : Int) < ways
    · cases d with
      | true =>
        obtain ⟨C, hC⟩ : ∃ C, touchI B ways (ways - 1 - k) = C := ⟨_, rfl⟩
        have HC := Hid.in hC
        clear hC
        go_wp2_with fail
        refine (touch_c B ways (ways - 1 - k) C HB2.out HC.out _).mono ?_
        rintro r w' ⟨rfl, rfl⟩
        go_wp2
        go_roundw
        case rel => exact ⟨k + 1, C, by omega, by go_num, rfl, by rw [rowS_t, ← HBB.out, HC.out], trivial⟩
        case measure => simp [intOf]; omega
      | false =>
        obtain ⟨C, hC⟩ : ∃ C, touchI B ways k = C := ⟨_, rfl⟩
        have HC := Hid.in hC
        clear hC
        go_wp2_with fail
        refine (touch_c B ways k C HB2.out HC.out _).mono ?_
        rintro r w' ⟨rfl, rfl⟩
        go_wp2
        go_roundw
        case rel => exact ⟨k + 1, C, by omega, by go_num, rfl, by rw [rowS_f, ← HBB.out, HC.out], trivial⟩
        case measure => simp [intOf]; omega
    · obtain rfl : k = ways.toNat := by omega
      have hv := rowed HW.out HB.out d
      rw [← HBB.out] at hv
      cases d with
      | true =>
        have HV : Hid (victimI B ways = ways - 1) := Hid.in hv
        clear hv
        go_wp2_with fail
        refine (victim_c _ ways _ HB2.out HV.out _).mono ?_
        rintro r w' ⟨rfl, rfl⟩
        go_wp2_with fail
        refine (plruRuns_any _).mono ?_
        rintro r w' ⟨rfl, rfl⟩
        go_wp2
        go_ret
        exact ⟨rfl, Below.refl _ _⟩
      | false =>
        have HV : Hid (victimI B ways = 0) := Hid.in hv
        clear hv
        go_wp2_with fail
        refine (victim_c _ ways _ HB2.out HV.out _).mono ?_
        rintro r w' ⟨rfl, rfl⟩
        go_wp2_with fail
        refine (plruRuns_any _).mono ?_
        rintro r w' ⟨rfl, rfl⟩
        go_wp2
        go_ret
        exact ⟨rfl, Below.refl _ _⟩

end Go.Proofs.Ythajdkdgakckgaa
