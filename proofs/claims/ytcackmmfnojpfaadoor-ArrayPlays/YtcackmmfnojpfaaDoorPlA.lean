/- DERIVED of the program: package plru: canBe, bitOf, Touch, Victim. Own work. -/
import Derived.Test.YtcackmmfnojpfaaDoorGenA
import Derived.Test.YtcackmmfnojpfaaDoorPlPure
namespace Go.Proofs.YtcackmmfnojpfaaDoor
open Go.RowKit Go.Extern.Stop Go.Stop Go.Extern

theorem canBe_any (n : Int) (w : World) : Calls Tryd.prog 47 #[.int .i64 n] w fun r w' => r = .returned (.bool (pB n)) ∧ w' = w := by
  by_cases h1 : 1 ≤ n
  · by_cases h2 : n ≤ 8
    · have h8 : n = 1 ∨ n = 2 ∨ n = 3 ∨ n = 4 ∨ n = 5 ∨ n = 6 ∨ n = 7 ∨ n = 8 := by omega
      clear h1 h2
      rcases h8 with rfl | rfl | rfl | rfl | rfl | rfl | rfl | rfl
      all_goals
        go_enter Tryd.func47, Tryd.ntmps47
        go_wp2
        go_ret
        exact ⟨rfl, rfl⟩
    · have HE : Hid (pB n = false) := Hid.in (by simp only [pB, decide_eq_false_iff_not]; omega)
      go_enter Tryd.func47, Tryd.ntmps47
      go_wp2
      go_ret
      exact ⟨ret_bool HE.out.symm, rfl⟩
  · have HE : Hid (pB n = false) := Hid.in (by simp only [pB, decide_eq_false_iff_not]; omega)
    go_enter Tryd.func47, Tryd.ntmps47
    go_wp2
    go_ret
    exact ⟨ret_bool HE.out.symm, rfl⟩
theorem canBe_c (n : Int) (c : Bool) (h : pB n = c) (w : World) : Calls Tryd.prog 47 #[.int .i64 n] w fun r w' => r = .returned (.bool c) ∧ w' = w := by
  rw [← h]; exact canBe_any n w

theorem bitOf_any (n : Nat) (h1 : 1 ≤ n) (h2 : n ≤ 7) (w : World) : Calls Tryd.prog 48 #[.int .i64 (n : Int)] w fun r w' => r = .returned (.int .u8 (bitN n : Nat)) ∧ w' = w := by
  have h8 : n = 1 ∨ n = 2 ∨ n = 3 ∨ n = 4 ∨ n = 5 ∨ n = 6 ∨ n = 7 := by omega
  clear h1 h2
  rcases h8 with rfl | rfl | rfl | rfl | rfl | rfl | rfl
  all_goals
    go_enter Tryd.func48, Tryd.ntmps48
    go_wp2
    go_ret
    exact ⟨rfl, rfl⟩

/-- The half of a node over 2^j ways. -/
def hv (j : Nat) : Int := if j = 0 then 0 else if j = 1 then 1 else if j = 2 then 2 else 4
theorem and_half (y : Nat) (hy : y < 8) : bits .and .i64 (y : Int) 1 = (y / 1 % 2 * 1 : Nat) ∧ bits .and .i64 (y : Int) 2 = (y / 2 % 2 * 2 : Nat) ∧ bits .and .i64 (y : Int) 4 = (y / 4 % 2 * 4 : Nat) := by
  have h8 : y = 0 ∨ y = 1 ∨ y = 2 ∨ y = 3 ∨ y = 4 ∨ y = 5 ∨ y = 6 ∨ y = 7 := by omega
  rcases h8 with rfl | rfl | rfl | rfl | rfl | rfl | rfl | rfl <;> decide

theorem or_one (n : Nat) (hn : n ≤ 7) : bits .or .i64 ((n : Int) * 2) 1 = (n : Int) * 2 + 1 := by
  have h8 : n = 0 ∨ n = 1 ∨ n = 2 ∨ n = 3 ∨ n = 4 ∨ n = 5 ∨ n = 6 ∨ n = 7 := by omega
  rcases h8 with rfl | rfl | rfl | rfl | rfl | rfl | rfl | rfl <;> decide

set_option maxHeartbeats 1600000 in
theorem touch_lp (k b y : Nat) (ways : Int) (hb : b < 256) (hy : y < 8) (hk : (ways = 1 ∧ k = 0) ∨ (ways = 2 ∧ k = 1) ∨ (ways = 4 ∧ k = 2) ∨ (ways = 8 ∧ k = 3)) (hyw : (y : Int) < ways) (w : World) :
    Calls Tryd.prog 35 #[.int .u8 (b : Int), .int .i64 ways, .int .i64 (y : Int)] w fun r w' => r = .returned (.int .u8 (tgo k b y 1 : Nat)) ∧ w' = w := by
  have HP : Hid (pB ways = true) := Hid.in (by rcases hk with ⟨rfl, _⟩ | ⟨rfl, _⟩ | ⟨rfl, _⟩ | ⟨rfl, _⟩ <;> decide)
  have h0 : ¬ (y : Int) < 0 := by omega
  have h1 : ¬ ways ≤ (y : Int) := by omega
  obtain ⟨T, hT⟩ : ∃ T, T = tgo k b y 1 := ⟨_, rfl⟩
  have HS : Hid (ways / 2 = hv k ∧ k ≤ 3) := Hid.in (by rcases hk with ⟨rfl, rfl⟩ | ⟨rfl, rfl⟩ | ⟨rfl, rfl⟩ | ⟨rfl, rfl⟩ <;> decide)
  have HT := Hid.in hT
  clear hk hyw hT
  rw [← HT.out]
  go_enter Tryd.func35, Tryd.ntmps35
  go_wp2_with fail
  refine (canBe_c _ true HP.out w).mono ?_
  rintro r w' ⟨rfl, rfl⟩
  go_wp2
  go_loopw [0, 7, 8] (fun s nd h wr => ∃ (j n b' : Nat), j ≤ 3 ∧ 1 ≤ n ∧ (n + 1) * 2 ^ j ≤ 16 ∧ b' < 256 ∧ s = .int .u8 (b' : Int) ∧ nd = .int .i64 (n : Int) ∧ h = .int .i64 (hv j) ∧ tgo j b' y n = T ∧ wr = w') (fun _ _ h _ => (intOf h).toNat)
  case atStart => exact ⟨k, 1, b, HS.out.2, by omega, by have := HS.out.2; have : (2 : Nat) ^ k ≤ 2 ^ 3 := Nat.pow_le_pow_right (by decide) this; omega, hb, rfl, rfl, by rw [← HS.out.1], HT.out.symm, rfl⟩
  case round =>
    obtain ⟨j, n, b', hj, hn1, hn2, hb', rfl, rfl, rfl, ht, rfl⟩ := hrel
    have hj4 : j = 0 ∨ j = 1 ∨ j = 2 ∨ j = 3 := by omega
    have HA := Hid.in (and_half y hy)
    rcases hj4 with rfl | rfl | rfl | rfl
    · obtain rfl : b' = T := ht
      rw [show hv 0 = 0 from rfl]
      go_wp2
      go_ret
      exact ⟨rfl, rfl⟩
    · have h7 : n ≤ 7 := by omega
      have ho : bits .or .u8 (b' : Int) ((bitN n : Nat) : Int) = ((setB b' n : Nat) : Int) := u8_or_nat _ _ hb' (bitN_lt (by omega))
      have hc : bits .andNot .u8 (b' : Int) ((bitN n : Nat) : Int) = ((clrB b' n : Nat) : Int) := u8_andNot_nat _ _ hb' (bitN_lt (by omega))
      have h21 := or_one n h7
      rw [show hv 1 = 1 from rfl]
      have HT2 : Hid ((if y / 1 % 2 = 0 then tgo 0 (setB b' n) y (2 * n) else tgo 0 (clrB b' n) y (2 * n + 1)) = T) := Hid.in ht
      clear ht
      by_cases hz : y / 1 % 2 = 0
      · have ha : bits .and .i64 (y : Int) 1 = 0 := by rw [HA.out.1, hz]; rfl
        have HZ := Hid.in hz
        clear hz
        go_wp2_with fail
        refine (bitOf_any n hn1 h7 _).mono ?_
        rintro r w2 ⟨rfl, rfl⟩
        go_wp2
        go_roundw
        case rel => exact ⟨0, 2 * n, setB b' n, by omega, by omega, by omega, setB_lt hb' (by omega), rfl, by go_num, rfl, by have h := HT2.out; rw [if_pos HZ.out] at h; exact h, trivial⟩
        case measure => simp [intOf]
      · have ha : bits .and .i64 (y : Int) 1 = 1 := by rw [HA.out.1, show y / 1 % 2 = 1 by omega]; rfl
        have HZ := Hid.in hz
        clear hz
        go_wp2_with fail
        refine (bitOf_any n hn1 h7 _).mono ?_
        rintro r w2 ⟨rfl, rfl⟩
        go_wp2
        go_roundw
        case rel => exact ⟨0, 2 * n + 1, clrB b' n, by omega, by omega, by omega, clrB_lt hb', rfl, by go_num, rfl, by have h := HT2.out; rw [if_neg HZ.out] at h; exact h, trivial⟩
        case measure => simp [intOf]
    · have h7 : n ≤ 7 := by omega
      have ho : bits .or .u8 (b' : Int) ((bitN n : Nat) : Int) = ((setB b' n : Nat) : Int) := u8_or_nat _ _ hb' (bitN_lt (by omega))
      have hc : bits .andNot .u8 (b' : Int) ((bitN n : Nat) : Int) = ((clrB b' n : Nat) : Int) := u8_andNot_nat _ _ hb' (bitN_lt (by omega))
      have h21 := or_one n h7
      rw [show hv 2 = 2 from rfl]
      have HT2 : Hid ((if y / 2 % 2 = 0 then tgo 1 (setB b' n) y (2 * n) else tgo 1 (clrB b' n) y (2 * n + 1)) = T) := Hid.in ht
      clear ht
      by_cases hz : y / 2 % 2 = 0
      · have ha : bits .and .i64 (y : Int) 2 = 0 := by rw [HA.out.2.1, hz]; rfl
        have HZ := Hid.in hz
        clear hz
        go_wp2_with fail
        refine (bitOf_any n hn1 h7 _).mono ?_
        rintro r w2 ⟨rfl, rfl⟩
        go_wp2
        go_roundw
        case rel => exact ⟨1, 2 * n, setB b' n, by omega, by omega, by omega, setB_lt hb' (by omega), rfl, by go_num, rfl, by have h := HT2.out; rw [if_pos HZ.out] at h; exact h, trivial⟩
        case measure => simp [intOf]
      · have ha : bits .and .i64 (y : Int) 2 = 2 := by rw [HA.out.2.1, show y / 2 % 2 = 1 by omega]; rfl
        have HZ := Hid.in hz
        clear hz
        go_wp2_with fail
        refine (bitOf_any n hn1 h7 _).mono ?_
        rintro r w2 ⟨rfl, rfl⟩
        go_wp2
        go_roundw
        case rel => exact ⟨1, 2 * n + 1, clrB b' n, by omega, by omega, by omega, clrB_lt hb', rfl, by go_num, rfl, by have h := HT2.out; rw [if_neg HZ.out] at h; exact h, trivial⟩
        case measure => simp [intOf]
    · have h7 : n ≤ 7 := by omega
      have ho : bits .or .u8 (b' : Int) ((bitN n : Nat) : Int) = ((setB b' n : Nat) : Int) := u8_or_nat _ _ hb' (bitN_lt (by omega))
      have hc : bits .andNot .u8 (b' : Int) ((bitN n : Nat) : Int) = ((clrB b' n : Nat) : Int) := u8_andNot_nat _ _ hb' (bitN_lt (by omega))
      have h21 := or_one n h7
      rw [show hv 3 = 4 from rfl]
      have HT2 : Hid ((if y / 4 % 2 = 0 then tgo 2 (setB b' n) y (2 * n) else tgo 2 (clrB b' n) y (2 * n + 1)) = T) := Hid.in ht
      clear ht
      by_cases hz : y / 4 % 2 = 0
      · have ha : bits .and .i64 (y : Int) 4 = 0 := by rw [HA.out.2.2, hz]; rfl
        have HZ := Hid.in hz
        clear hz
        go_wp2_with fail
        refine (bitOf_any n hn1 h7 _).mono ?_
        rintro r w2 ⟨rfl, rfl⟩
        go_wp2
        go_roundw
        case rel => exact ⟨2, 2 * n, setB b' n, by omega, by omega, by omega, setB_lt hb' (by omega), rfl, by go_num, rfl, by have h := HT2.out; rw [if_pos HZ.out] at h; exact h, trivial⟩
        case measure => simp [intOf]
      · have ha : bits .and .i64 (y : Int) 4 = 4 := by rw [HA.out.2.2, show y / 4 % 2 = 1 by omega]; rfl
        have HZ := Hid.in hz
        clear hz
        go_wp2_with fail
        refine (bitOf_any n hn1 h7 _).mono ?_
        rintro r w2 ⟨rfl, rfl⟩
        go_wp2
        go_roundw
        case rel => exact ⟨2, 2 * n + 1, clrB b' n, by omega, by omega, by omega, clrB_lt hb', rfl, by go_num, rfl, by have h := HT2.out; rw [if_neg HZ.out] at h; exact h, trivial⟩
        case measure => simp [intOf]

theorem touch_any (b : Nat) (hb : b < 256) (ways way : Int) (w : World) :
    Calls Tryd.prog 35 #[.int .u8 (b : Int), .int .i64 ways, .int .i64 way] w fun r w' => r = .returned (.int .u8 (touchI b ways way : Nat)) ∧ w' = w := by
  by_cases h : pB ways = true ∧ 0 ≤ way ∧ way < ways
  · rw [touch_in h]
    obtain ⟨y, rfl⟩ : ∃ y : Nat, way = (y : Int) := ⟨way.toNat, by omega⟩
    have h4 := pB_of h.1
    refine touch_lp (lev ways) b y ways hb (by omega) ?_ h.2.2 w
    rcases h4 with rfl | rfl | rfl | rfl <;> decide
  · rw [touch_out h]
    by_cases hp : pB ways = true
    · have HP := Hid.in hp
      clear hp
      by_cases h0 : way < 0
      · clear h
        go_enter Tryd.func35, Tryd.ntmps35
        go_wp2_with fail
        refine (canBe_c _ true HP.out w).mono ?_
        rintro r w' ⟨rfl, rfl⟩
        go_wp2
        go_ret
        exact ⟨rfl, rfl⟩
      · have h1 : ways ≤ way := by
          have := HP.out
          simp only [this, true_and] at h
          omega
        clear h
        go_enter Tryd.func35, Tryd.ntmps35
        go_wp2_with fail
        refine (canBe_c _ true HP.out w).mono ?_
        rintro r w' ⟨rfl, rfl⟩
        go_wp2
        go_ret
        exact ⟨rfl, rfl⟩
    · have HP := Hid.in (Bool.eq_false_iff.2 hp)
      clear hp h
      go_enter Tryd.func35, Tryd.ntmps35
      go_wp2_with fail
      refine (canBe_c _ false HP.out w).mono ?_
      rintro r w' ⟨rfl, rfl⟩
      go_wp2
      go_ret
      exact ⟨rfl, rfl⟩

theorem and_bit0 {b n : Nat} (hb : b < 256) (hn : n ≤ 7) (h : b / bitN n % 2 = 0) : bits .and .u8 (b : Int) ((bitN n : Nat) : Int) = 0 := by
  rw [u8_and_nat _ _ hb (bitN_lt (by omega)), bitN_and, h]; simp
theorem and_bit1 {b n : Nat} (hb : b < 256) (hn : n ≤ 7) (h : ¬ b / bitN n % 2 = 0) : bits .and .u8 (b : Int) ((bitN n : Nat) : Int) = ((bitN n : Nat) : Int) := by
  rw [u8_and_nat _ _ hb (bitN_lt (by omega)), bitN_and, show b / bitN n % 2 = 1 by omega]; simp

set_option maxHeartbeats 1600000 in
theorem victim_lp (k b : Nat) (ways : Int) (hb : b < 256) (hk : (ways = 1 ∧ k = 0) ∨ (ways = 2 ∧ k = 1) ∨ (ways = 4 ∧ k = 2) ∨ (ways = 8 ∧ k = 3)) (w : World) :
    Calls Tryd.prog 31 #[.int .u8 (b : Int), .int .i64 ways] w fun r w' => r = .returned (.int .i64 ((vgo k b 1 : Int) - ways)) ∧ w' = w := by
  have HP : Hid (pB ways = true) := Hid.in (by rcases hk with ⟨rfl, _⟩ | ⟨rfl, _⟩ | ⟨rfl, _⟩ | ⟨rfl, _⟩ <;> decide)
  obtain ⟨T, hT⟩ : ∃ T, T = vgo k b 1 := ⟨_, rfl⟩
  have HK : Hid (k ≤ 3 ∧ ways = (1 * 2 ^ k : Nat)) := Hid.in (by rcases hk with ⟨rfl, rfl⟩ | ⟨rfl, rfl⟩ | ⟨rfl, rfl⟩ | ⟨rfl, rfl⟩ <;> decide)
  have h4 : ways = 1 ∨ ways = 2 ∨ ways = 4 ∨ ways = 8 := by omega
  have HT := Hid.in hT
  clear hk hT
  rw [← HT.out]
  go_enter Tryd.func31, Tryd.ntmps31
  go_wp2_with fail
  refine (canBe_c _ true HP.out w).mono ?_
  rintro r w' ⟨rfl, rfl⟩
  go_wp2
  go_loopw [5] (fun nd wr => ∃ (j n : Nat), j ≤ 3 ∧ ways ≤ (n * 2 ^ j : Nat) ∧ (n * 2 ^ j : Nat) < 2 * ways ∧ nd = .int .i64 (n : Int) ∧ vgo j b n = T ∧ wr = w') (fun nd _ => 16 - (intOf nd).toNat)
  case atStart => exact ⟨k, 1, HK.out.1, by rw [← HK.out.2]; omega, by rw [← HK.out.2]; omega, rfl, HT.out.symm, rfl⟩
  case round =>
    obtain ⟨j, n, hj, hn1, hn2, rfl, ht, rfl⟩ := hrel
    have hj4 : j = 0 ∨ j = 1 ∨ j = 2 ∨ j = 3 := by omega
    rcases hj4 with rfl | rfl | rfl | rfl
    · obtain rfl : n = T := ht
      have hq : ¬ (n : Int) < ways := by omega
      have hq2 : (n : Int) < 16 := by omega
      go_wp2
      go_ret
      exact ⟨rfl, rfl⟩
    · have h7 : n ≤ 7 := by omega
      have h71 : 1 ≤ n := by omega
      have hq : (n : Int) < ways := by omega
      have h21 := or_one n h7
      have HT2 : Hid ((if b / bitN n % 2 = 0 then vgo 0 b (2 * n) else vgo 0 b (2 * n + 1)) = T) := Hid.in ht
      clear ht
      by_cases hz : b / bitN n % 2 = 0
      · have ha := and_bit0 hb h7 hz
        have HZ := Hid.in hz
        clear hz
        go_wp2_with fail
        refine (bitOf_any n h71 h7 _).mono ?_
        rintro r w2 ⟨rfl, rfl⟩
        go_wp2
        go_roundw
        case rel => exact ⟨0, 2 * n, by omega, by omega, by omega, by go_num, by have h := HT2.out; rw [if_pos HZ.out] at h; exact h, trivial⟩
        case measure => simp [intOf]; omega
      · have ha := and_bit1 hb h7 hz
        have hp : ¬ ((bitN n : Nat) : Int) = 0 := by have := bitN_pos n; omega
        have HZ := Hid.in hz
        clear hz
        go_wp2_with fail
        refine (bitOf_any n h71 h7 _).mono ?_
        rintro r w2 ⟨rfl, rfl⟩
        go_wp2
        go_roundw
        case rel => exact ⟨0, 2 * n + 1, by omega, by omega, by omega, by go_num, by have h := HT2.out; rw [if_neg HZ.out] at h; exact h, trivial⟩
        case measure => simp [intOf]; omega
    · have h7 : n ≤ 7 := by omega
      have h71 : 1 ≤ n := by omega
      have hq : (n : Int) < ways := by omega
      have h21 := or_one n h7
      have HT2 : Hid ((if b / bitN n % 2 = 0 then vgo 1 b (2 * n) else vgo 1 b (2 * n + 1)) = T) := Hid.in ht
      clear ht
      by_cases hz : b / bitN n % 2 = 0
      · have ha := and_bit0 hb h7 hz
        have HZ := Hid.in hz
        clear hz
        go_wp2_with fail
        refine (bitOf_any n h71 h7 _).mono ?_
        rintro r w2 ⟨rfl, rfl⟩
        go_wp2
        go_roundw
        case rel => exact ⟨1, 2 * n, by omega, by omega, by omega, by go_num, by have h := HT2.out; rw [if_pos HZ.out] at h; exact h, trivial⟩
        case measure => simp [intOf]; omega
      · have ha := and_bit1 hb h7 hz
        have hp : ¬ ((bitN n : Nat) : Int) = 0 := by have := bitN_pos n; omega
        have HZ := Hid.in hz
        clear hz
        go_wp2_with fail
        refine (bitOf_any n h71 h7 _).mono ?_
        rintro r w2 ⟨rfl, rfl⟩
        go_wp2
        go_roundw
        case rel => exact ⟨1, 2 * n + 1, by omega, by omega, by omega, by go_num, by have h := HT2.out; rw [if_neg HZ.out] at h; exact h, trivial⟩
        case measure => simp [intOf]; omega
    · have h7 : n ≤ 7 := by omega
      have h71 : 1 ≤ n := by omega
      have hq : (n : Int) < ways := by omega
      have h21 := or_one n h7
      have HT2 : Hid ((if b / bitN n % 2 = 0 then vgo 2 b (2 * n) else vgo 2 b (2 * n + 1)) = T) := Hid.in ht
      clear ht
      by_cases hz : b / bitN n % 2 = 0
      · have ha := and_bit0 hb h7 hz
        have HZ := Hid.in hz
        clear hz
        go_wp2_with fail
        refine (bitOf_any n h71 h7 _).mono ?_
        rintro r w2 ⟨rfl, rfl⟩
        go_wp2
        go_roundw
        case rel => exact ⟨2, 2 * n, by omega, by omega, by omega, by go_num, by have h := HT2.out; rw [if_pos HZ.out] at h; exact h, trivial⟩
        case measure => simp [intOf]; omega
      · have ha := and_bit1 hb h7 hz
        have hp : ¬ ((bitN n : Nat) : Int) = 0 := by have := bitN_pos n; omega
        have HZ := Hid.in hz
        clear hz
        go_wp2_with fail
        refine (bitOf_any n h71 h7 _).mono ?_
        rintro r w2 ⟨rfl, rfl⟩
        go_wp2
        go_roundw
        case rel => exact ⟨2, 2 * n + 1, by omega, by omega, by omega, by go_num, by have h := HT2.out; rw [if_neg HZ.out] at h; exact h, trivial⟩
        case measure => simp [intOf]; omega

theorem victim_any (b : Nat) (hb : b < 256) (ways : Int) (w : World) :
    Calls Tryd.prog 31 #[.int .u8 (b : Int), .int .i64 ways] w fun r w' => r = .returned (.int .i64 (victimI b ways)) ∧ w' = w := by
  by_cases h : pB ways = true
  · rw [victim_in h]
    have h4 := pB_of h
    refine victim_lp (lev ways) b ways hb ?_ w
    rcases h4 with rfl | rfl | rfl | rfl <;> decide
  · have h' := Bool.eq_false_iff.2 h
    rw [victim_out h']
    have HP := Hid.in h'
    clear h h'
    go_enter Tryd.func31, Tryd.ntmps31
    go_wp2_with fail
    refine (canBe_c _ false HP.out w).mono ?_
    rintro r w' ⟨rfl, rfl⟩
    go_wp2
    go_ret
    exact ⟨rfl, rfl⟩

end Go.Proofs.YtcackmmfnojpfaaDoor
