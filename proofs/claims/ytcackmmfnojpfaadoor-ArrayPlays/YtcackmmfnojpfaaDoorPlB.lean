/- DERIVED of the program: PlruRuns; the document's own Touch and Victim. Own work. -/
import Derived.Test.YtcackmmfnojpfaaDoorPlA
namespace Go.Proofs.YtcackmmfnojpfaaDoor
open Go.RowKit Go.Extern.Stop Go.Stop Go.Extern

theorem touch_c (b : Nat) (ways way : Int) (c : Nat) (hb : b < 256) (h : touchI b ways way = c) (w : World) :
    Calls Tryd.prog 35 #[.int .u8 (b : Int), .int .i64 ways, .int .i64 way] w fun r w' => r = .returned (.int .u8 (c : Int)) ∧ w' = w := by
  rw [← h]; exact touch_any b hb ways way w
theorem victim_c (b : Nat) (ways : Int) (c : Int) (hb : b < 256) (h : victimI b ways = c) (w : World) :
    Calls Tryd.prog 31 #[.int .u8 (b : Int), .int .i64 ways] w fun r w' => r = .returned (.int .i64 c) ∧ w' = w := by
  rw [← h]; exact victim_any b hb ways w

theorem ptwo_any (n : Int) (w : World) : Calls Tryd.prog 40 #[.int .i64 n, .int .i64 8] w fun r w' => r = .returned (.bool (pB n)) ∧ w' = w := by
  by_cases h1 : 1 ≤ n
  · by_cases h2 : n ≤ 8
    · have h8 : n = 1 ∨ n = 2 ∨ n = 3 ∨ n = 4 ∨ n = 5 ∨ n = 6 ∨ n = 7 ∨ n = 8 := by omega
      clear h1 h2
      rcases h8 with rfl | rfl | rfl | rfl | rfl | rfl | rfl | rfl
      all_goals
        go_enter Tryd.func40, Tryd.ntmps40
        go_wp2
        go_ret
        exact ⟨rfl, rfl⟩
    · have HE : Hid (pB n = false) := Hid.in (by simp only [pB, decide_eq_false_iff_not]; omega)
      go_enter Tryd.func40, Tryd.ntmps40
      go_wp2
      go_ret
      exact ⟨ret_bool HE.out.symm, rfl⟩
  · have HE : Hid (pB n = false) := Hid.in (by simp only [pB, decide_eq_false_iff_not]; omega)
    go_enter Tryd.func40, Tryd.ntmps40
    go_wp2
    go_ret
    exact ⟨ret_bool HE.out.symm, rfl⟩
theorem ptwo_c (n : Int) (c : Bool) (h : pB n = c) (w : World) : Calls Tryd.prog 40 #[.int .i64 n, .int .i64 8] w fun r w' => r = .returned (.bool c) ∧ w' = w := by
  rw [← h]; exact ptwo_any n w

theorem shl_bit (n : Nat) (h1 : 1 ≤ n) (h7 : n ≤ 7) : (2 : Int) ^ (n - 1) % 256 = ((bitN n : Nat) : Int) := by
  have h8 : n = 1 ∨ n = 2 ∨ n = 3 ∨ n = 4 ∨ n = 5 ∨ n = 6 ∨ n = 7 := by omega
  rcases h8 with rfl | rfl | rfl | rfl | rfl | rfl | rfl <;> decide

theorem shr_bit8 (b n : Nat) (hb : b < 256) : bits .and .u8 ((b : Int) / 2 ^ (n - 1)) 1 = ((b / bitN n % 2 : Nat) : Int) := by
  have e : (b : Int) / 2 ^ (n - 1) = ((b / bitN n : Nat) : Int) := by unfold bitN; simp
  rw [e, show (1 : Int) = ((1 : Nat) : Int) from rfl, u8_and_nat _ _ (Nat.lt_of_le_of_lt (Nat.div_le_self _ _) hb) (by decide), Nat.and_one_is_mod]

set_option maxHeartbeats 3200000 in
theorem rTouch_lp (k b y : Nat) (ways : Int) (hb : b < 256) (hy : y < 8) (hk : (ways = 1 ∧ k = 0) ∨ (ways = 2 ∧ k = 1) ∨ (ways = 4 ∧ k = 2) ∨ (ways = 8 ∧ k = 3)) (hyw : (y : Int) < ways) (w : World) :
    Calls Tryd.prog 42 #[.int .u8 (b : Int), .int .i64 ways, .int .i64 (y : Int)] w fun r w' => r = .returned (.int .u8 (tgo k b y 1 : Nat)) ∧ w' = w := by
  have HP : Hid (pB ways = true) := Hid.in (by rcases hk with ⟨rfl, _⟩ | ⟨rfl, _⟩ | ⟨rfl, _⟩ | ⟨rfl, _⟩ <;> decide)
  have h0 : ¬ (y : Int) < 0 := by omega
  have h1 : ¬ ways ≤ (y : Int) := by omega
  have h4 : ways = 1 ∨ ways = 2 ∨ ways = 4 ∨ ways = 8 := by omega
  obtain ⟨T, hT⟩ : ∃ T, T = tgo k b y 1 := ⟨_, rfl⟩
  have HS : Hid (ways / 2 = hv k ∧ k ≤ 3) := Hid.in (by rcases hk with ⟨rfl, rfl⟩ | ⟨rfl, rfl⟩ | ⟨rfl, rfl⟩ | ⟨rfl, rfl⟩ <;> decide)
  have HT := Hid.in hT
  clear hk hyw hT
  rw [← HT.out]
  go_enter Tryd.func42, Tryd.ntmps42
  go_wp2_with fail
  refine (ptwo_c _ true HP.out w).mono ?_
  rintro r w' ⟨rfl, rfl⟩
  go_wp2
  go_loopw [0, 7, 8, 9] (fun s nd h _ wr => ∃ (j n b' : Nat), j ≤ 3 ∧ 1 ≤ n ∧ (n + 1) * 2 ^ j ≤ 16 ∧ b' < 256 ∧ s = .int .u8 (b' : Int) ∧ nd = .int .i64 (n : Int) ∧ h = .int .i64 (hv j) ∧ tgo j b' y n = T ∧ wr = w') (fun _ _ h _ _ => (intOf h).toNat)
  case atStart => exact ⟨k, 1, b, HS.out.2, by omega, by have := HS.out.2; have : (2 : Nat) ^ k ≤ 2 ^ 3 := Nat.pow_le_pow_right (by decide) this; omega, hb, rfl, rfl, by rw [← HS.out.1], HT.out.symm, rfl⟩
  case round =>
    obtain ⟨j, n, b', hj, hn1, hn2, hb', rfl, rfl, rfl, ht, rfl⟩ := hrel
    have hj4 : j = 0 ∨ j = 1 ∨ j = 2 ∨ j = 3 := by omega
    rcases hj4 with rfl | rfl | rfl | rfl
    · obtain rfl : b' = T := ht
      rw [show hv 0 = 0 from rfl]
      go_wp2
      go_ret
      exact ⟨rfl, rfl⟩
    · have h7 : n ≤ 7 := by omega
      have ho : bits .or .u8 (b' : Int) ((bitN n : Nat) : Int) = ((setB b' n : Nat) : Int) := u8_or_nat _ _ hb' (bitN_lt (by omega))
      have hc : bits .andNot .u8 (b' : Int) ((bitN n : Nat) : Int) = ((clrB b' n : Nat) : Int) := u8_andNot_nat _ _ hb' (bitN_lt (by omega))
      have HSB := Hid.in (shl_bit n hn1 h7)
      rw [show hv 1 = 1 from rfl]
      have HT2 : Hid ((if y / 1 % 2 = 0 then tgo 0 (setB b' n) y (2 * n) else tgo 0 (clrB b' n) y (2 * n + 1)) = T) := Hid.in ht
      clear ht
      by_cases hz : y / 1 % 2 = 0
      · have ha : ¬ (y : Int) / 1 % 2 = 1 := by omega
        have HZ := Hid.in hz
        clear hz
        go_wp2
        go_roundw
        case rel => exact ⟨0, 2 * n, setB b' n, by omega, by omega, by omega, setB_lt hb' (by omega), by rw [HSB.out, ho], by go_num, rfl, by have h := HT2.out; rw [if_pos HZ.out] at h; exact h, trivial⟩
        case measure => simp [intOf]
      · have ha : (y : Int) / 1 % 2 = 1 := by omega
        have HZ := Hid.in hz
        clear hz
        go_wp2
        go_roundw
        case rel => exact ⟨0, 2 * n + 1, clrB b' n, by omega, by omega, by omega, clrB_lt hb', by rw [HSB.out, hc], by go_num, rfl, by have h := HT2.out; rw [if_neg HZ.out] at h; exact h, trivial⟩
        case measure => simp [intOf]
    · have h7 : n ≤ 7 := by omega
      have ho : bits .or .u8 (b' : Int) ((bitN n : Nat) : Int) = ((setB b' n : Nat) : Int) := u8_or_nat _ _ hb' (bitN_lt (by omega))
      have hc : bits .andNot .u8 (b' : Int) ((bitN n : Nat) : Int) = ((clrB b' n : Nat) : Int) := u8_andNot_nat _ _ hb' (bitN_lt (by omega))
      have HSB := Hid.in (shl_bit n hn1 h7)
      rw [show hv 2 = 2 from rfl]
      have HT2 : Hid ((if y / 2 % 2 = 0 then tgo 1 (setB b' n) y (2 * n) else tgo 1 (clrB b' n) y (2 * n + 1)) = T) := Hid.in ht
      clear ht
      by_cases hz : y / 2 % 2 = 0
      · have ha : ¬ (y : Int) / 2 % 2 = 1 := by omega
        have HZ := Hid.in hz
        clear hz
        go_wp2
        go_roundw
        case rel => exact ⟨1, 2 * n, setB b' n, by omega, by omega, by omega, setB_lt hb' (by omega), by rw [HSB.out, ho], by go_num, rfl, by have h := HT2.out; rw [if_pos HZ.out] at h; exact h, trivial⟩
        case measure => simp [intOf]
      · have ha : (y : Int) / 2 % 2 = 1 := by omega
        have HZ := Hid.in hz
        clear hz
        go_wp2
        go_roundw
        case rel => exact ⟨1, 2 * n + 1, clrB b' n, by omega, by omega, by omega, clrB_lt hb', by rw [HSB.out, hc], by go_num, rfl, by have h := HT2.out; rw [if_neg HZ.out] at h; exact h, trivial⟩
        case measure => simp [intOf]
    · have h7 : n ≤ 7 := by omega
      have ho : bits .or .u8 (b' : Int) ((bitN n : Nat) : Int) = ((setB b' n : Nat) : Int) := u8_or_nat _ _ hb' (bitN_lt (by omega))
      have hc : bits .andNot .u8 (b' : Int) ((bitN n : Nat) : Int) = ((clrB b' n : Nat) : Int) := u8_andNot_nat _ _ hb' (bitN_lt (by omega))
      have HSB := Hid.in (shl_bit n hn1 h7)
      rw [show hv 3 = 4 from rfl]
      have HT2 : Hid ((if y / 4 % 2 = 0 then tgo 2 (setB b' n) y (2 * n) else tgo 2 (clrB b' n) y (2 * n + 1)) = T) := Hid.in ht
      clear ht
      by_cases hz : y / 4 % 2 = 0
      · have ha : ¬ (y : Int) / 4 % 2 = 1 := by omega
        have HZ := Hid.in hz
        clear hz
        go_wp2
        go_roundw
        case rel => exact ⟨2, 2 * n, setB b' n, by omega, by omega, by omega, setB_lt hb' (by omega), by rw [HSB.out, ho], by go_num, rfl, by have h := HT2.out; rw [if_pos HZ.out] at h; exact h, trivial⟩
        case measure => simp [intOf]
      · have ha : (y : Int) / 4 % 2 = 1 := by omega
        have HZ := Hid.in hz
        clear hz
        go_wp2
        go_roundw
        case rel => exact ⟨2, 2 * n + 1, clrB b' n, by omega, by omega, by omega, clrB_lt hb', by rw [HSB.out, hc], by go_num, rfl, by have h := HT2.out; rw [if_neg HZ.out] at h; exact h, trivial⟩
        case measure => simp [intOf]

theorem rTouch_any (b : Nat) (hb : b < 256) (ways way : Int) (w : World) :
    Calls Tryd.prog 42 #[.int .u8 (b : Int), .int .i64 ways, .int .i64 way] w fun r w' => r = .returned (.int .u8 (touchI b ways way : Nat)) ∧ w' = w := by
  by_cases h : pB ways = true ∧ 0 ≤ way ∧ way < ways
  · rw [touch_in h]
    obtain ⟨y, rfl⟩ : ∃ y : Nat, way = (y : Int) := ⟨way.toNat, by omega⟩
    have h4 := pB_of h.1
    refine rTouch_lp (lev ways) b y ways hb (by omega) ?_ h.2.2 w
    rcases h4 with rfl | rfl | rfl | rfl <;> decide
  · rw [touch_out h]
    by_cases hp : pB ways = true
    · have HP := Hid.in hp
      clear hp
      by_cases h0 : way < 0
      · clear h
        go_enter Tryd.func42, Tryd.ntmps42
        go_wp2_with fail
        refine (ptwo_c _ true HP.out w).mono ?_
        rintro r w' ⟨rfl, rfl⟩
        go_wp2
        go_ret
        exact ⟨rfl, rfl⟩
      · have h1 : ways ≤ way := by
          have := HP.out
          simp only [this, true_and] at h
          omega
        clear h
        go_enter Tryd.func42, Tryd.ntmps42
        go_wp2_with fail
        refine (ptwo_c _ true HP.out w).mono ?_
        rintro r w' ⟨rfl, rfl⟩
        go_wp2
        go_ret
        exact ⟨rfl, rfl⟩
    · have HP := Hid.in (Bool.eq_false_iff.2 hp)
      clear hp h
      go_enter Tryd.func42, Tryd.ntmps42
      go_wp2_with fail
      refine (ptwo_c _ false HP.out w).mono ?_
      rintro r w' ⟨rfl, rfl⟩
      go_wp2
      go_ret
      exact ⟨rfl, rfl⟩

/-- What the document's own Victim adds up on its way. -/
theorem vgo_at (j : Nat) : ∀ b n, ∃ v, v < 2 ^ j ∧ vgo j b n = n * 2 ^ j + v := by
  induction j with
  | zero => exact fun b n => ⟨0, by decide, by simp [vgo]⟩
  | succ j ih =>
    intro b n
    show ∃ v, v < 2 ^ (j + 1) ∧ (if b / bitN n % 2 = 0 then vgo j b (2 * n) else vgo j b (2 * n + 1)) = _
    split
    · obtain ⟨v, hv, he⟩ := ih b (2 * n)
      exact ⟨v, by rw [Nat.pow_succ]; omega, by rw [he, Nat.pow_succ, Nat.mul_comm (2 ^ j) 2, ← Nat.mul_assoc, Nat.mul_comm n 2]⟩
    · obtain ⟨v, hv, he⟩ := ih b (2 * n + 1)
      refine ⟨2 ^ j + v, by rw [Nat.pow_succ]; omega, ?_⟩
      rw [he, Nat.pow_succ, Nat.mul_comm (2 ^ j) 2, ← Nat.mul_assoc, Nat.mul_comm n 2, Nat.add_mul]; omega

set_option maxHeartbeats 3200000 in
theorem rVictim_lp (k b : Nat) (ways : Int) (hb : b < 256) (hk : (ways = 1 ∧ k = 0) ∨ (ways = 2 ∧ k = 1) ∨ (ways = 4 ∧ k = 2) ∨ (ways = 8 ∧ k = 3)) (w : World) :
    Calls Tryd.prog 43 #[.int .u8 (b : Int), .int .i64 ways] w fun r w' => r = .returned (.int .i64 ((vgo k b 1 : Int) - ways)) ∧ w' = w := by
  have HP : Hid (pB ways = true) := Hid.in (by rcases hk with ⟨rfl, _⟩ | ⟨rfl, _⟩ | ⟨rfl, _⟩ | ⟨rfl, _⟩ <;> decide)
  obtain ⟨T, hT⟩ : ∃ T : Int, T = (vgo k b 1 : Int) - ways := ⟨_, rfl⟩
  have HS : Hid (ways / 2 = hv k ∧ k ≤ 3 ∧ ways = (2 ^ k : Nat)) := Hid.in (by rcases hk with ⟨rfl, rfl⟩ | ⟨rfl, rfl⟩ | ⟨rfl, rfl⟩ | ⟨rfl, rfl⟩ <;> decide)
  have h4 : ways = 1 ∨ ways = 2 ∨ ways = 4 ∨ ways = 8 := by omega
  have HT := Hid.in hT
  clear hk hT
  rw [← HT.out]
  go_enter Tryd.func43, Tryd.ntmps43
  go_wp2_with fail
  refine (ptwo_c _ true HP.out w).mono ?_
  rintro r w' ⟨rfl, rfl⟩
  go_wp2
  go_loopw [5, 6, 7] (fun nd wy h wr => ∃ (j n m : Nat), j ≤ 3 ∧ 1 ≤ n ∧ (n + 1) * 2 ^ j ≤ 16 ∧ m ≤ 16 ∧ m % 2 ^ j = 0 ∧ nd = .int .i64 (n : Int) ∧ wy = .int .i64 (m : Int) ∧ h = .int .i64 (hv j) ∧ (m : Int) + ((vgo j b n : Int) - (n * 2 ^ j : Nat)) = T ∧ m + 2 ^ j ≤ 8 ∧ wr = w') (fun _ _ h _ => (intOf h).toNat)
  case atStart => exact ⟨k, 1, 0, HS.out.2.1, by omega, by have := HS.out.2.1; have : (2 : Nat) ^ k ≤ 2 ^ 3 := Nat.pow_le_pow_right (by decide) this; omega, by omega, by simp, rfl, rfl, by rw [← HS.out.1], by rw [HT.out, HS.out.2.2]; simp, by have := HS.out.2.1; have : (2 : Nat) ^ k ≤ 2 ^ 3 := Nat.pow_le_pow_right (by decide) this; omega, rfl⟩
  case round =>
    obtain ⟨j, n, m, hj, hn1, hn2, hm1, hm2, rfl, rfl, rfl, ht, hm3, rfl⟩ := hrel
    have hj4 : j = 0 ∨ j = 1 ∨ j = 2 ∨ j = 3 := by omega
    rcases hj4 with rfl | rfl | rfl | rfl
    · obtain rfl : (m : Int) = T := by rw [← ht]; simp [vgo]
      clear ht
      rw [show hv 0 = 0 from rfl]
      go_wp2
      go_ret
      exact ⟨rfl, rfl⟩
    · have h7 : n ≤ 7 := by omega
      have hn64 : (n : Int) - 1 ≤ 64 := by omega
      rw [show hv 1 = 1 from rfl]
      have HT2 : Hid ((m : Int) + (((if b / bitN n % 2 = 0 then vgo 0 b (2 * n) else vgo 0 b (2 * n + 1) : Nat) : Int) - (n * 2 : Nat)) = T) := Hid.in ht
      have HSB := Hid.in (shr_bit8 b n hb)
      clear ht
      by_cases hz : b / bitN n % 2 = 0
      · have hs : bits .and .u8 ((b : Int) / 2 ^ (n - 1)) 1 = 0 := by rw [HSB.out, hz]; rfl
        have HZ := Hid.in hz
        clear hz
        go_wp2
        go_roundw
        case rel => exact ⟨0, 2 * n, m, by omega, by omega, by omega, by omega, by omega, by go_num, rfl, rfl, by have h := HT2.out; rw [if_pos HZ.out] at h; rw [← h, show 2 * n * 2 ^ 0 = n * 2 from by omega], by omega, trivial⟩
        case measure => simp [intOf]
      · have hs : bits .and .u8 ((b : Int) / 2 ^ (n - 1)) 1 = 1 := by rw [HSB.out, show b / bitN n % 2 = 1 by omega]; rfl
        have HZ := Hid.in hz
        clear hz
        go_wp2
        go_roundw
        case rel => exact ⟨0, 2 * n + 1, m + 1, by omega, by omega, by omega, by omega, by omega, by go_num, by go_num, rfl, by have h := HT2.out; rw [if_neg HZ.out] at h; rw [← h]; omega, by omega, trivial⟩
        case measure => simp [intOf]
    · have h7 : n ≤ 7 := by omega
      have hn64 : (n : Int) - 1 ≤ 64 := by omega
      rw [show hv 2 = 2 from rfl]
      have HT2 : Hid ((m : Int) + (((if b / bitN n % 2 = 0 then vgo 1 b (2 * n) else vgo 1 b (2 * n + 1) : Nat) : Int) - (n * 4 : Nat)) = T) := Hid.in ht
      have HSB := Hid.in (shr_bit8 b n hb)
      clear ht
      by_cases hz : b / bitN n % 2 = 0
      · have hs : bits .and .u8 ((b : Int) / 2 ^ (n - 1)) 1 = 0 := by rw [HSB.out, hz]; rfl
        have HZ := Hid.in hz
        clear hz
        go_wp2
        go_roundw
        case rel => exact ⟨1, 2 * n, m, by omega, by omega, by omega, by omega, by omega, by go_num, rfl, rfl, by have h := HT2.out; rw [if_pos HZ.out] at h; rw [← h, show 2 * n * 2 ^ 1 = n * 4 from by omega], by omega, trivial⟩
        case measure => simp [intOf]
      · have hs : bits .and .u8 ((b : Int) / 2 ^ (n - 1)) 1 = 1 := by rw [HSB.out, show b / bitN n % 2 = 1 by omega]; rfl
        have HZ := Hid.in hz
        clear hz
        go_wp2
        go_roundw
        case rel => exact ⟨1, 2 * n + 1, m + 2, by omega, by omega, by omega, by omega, by omega, by go_num, by go_num, rfl, by have h := HT2.out; rw [if_neg HZ.out] at h; rw [← h]; omega, by omega, trivial⟩
        case measure => simp [intOf]
    · have h7 : n ≤ 7 := by omega
      have hn64 : (n : Int) - 1 ≤ 64 := by omega
      rw [show hv 3 = 4 from rfl]
      have HT2 : Hid ((m : Int) + (((if b / bitN n % 2 = 0 then vgo 2 b (2 * n) else vgo 2 b (2 * n + 1) : Nat) : Int) - (n * 8 : Nat)) = T) := Hid.in ht
      have HSB := Hid.in (shr_bit8 b n hb)
      clear ht
      by_cases hz : b / bitN n % 2 = 0
      · have hs : bits .and .u8 ((b : Int) / 2 ^ (n - 1)) 1 = 0 := by rw [HSB.out, hz]; rfl
        have HZ := Hid.in hz
        clear hz
        go_wp2
        go_roundw
        case rel => exact ⟨2, 2 * n, m, by omega, by omega, by omega, by omega, by omega, by go_num, rfl, rfl, by have h := HT2.out; rw [if_pos HZ.out] at h; rw [← h, show 2 * n * 2 ^ 2 = n * 8 from by omega], by omega, trivial⟩
        case measure => simp [intOf]
      · have hs : bits .and .u8 ((b : Int) / 2 ^ (n - 1)) 1 = 1 := by rw [HSB.out, show b / bitN n % 2 = 1 by omega]; rfl
        have HZ := Hid.in hz
        clear hz
        go_wp2
        go_roundw
        case rel => exact ⟨2, 2 * n + 1, m + 4, by omega, by omega, by omega, by omega, by omega, by go_num, by go_num, rfl, by have h := HT2.out; rw [if_neg HZ.out] at h; rw [← h]; omega, by omega, trivial⟩
        case measure => simp [intOf]

theorem rVictim_any (b : Nat) (hb : b < 256) (ways : Int) (w : World) :
    Calls Tryd.prog 43 #[.int .u8 (b : Int), .int .i64 ways] w fun r w' => r = .returned (.int .i64 (victimI b ways)) ∧ w' = w := by
  by_cases h : pB ways = true
  · rw [victim_in h]
    have h4 := pB_of h
    refine rVictim_lp (lev ways) b ways hb ?_ w
    rcases h4 with rfl | rfl | rfl | rfl <;> decide
  · have h' := Bool.eq_false_iff.2 h
    rw [victim_out h']
    have HP := Hid.in h'
    clear h h'
    go_enter Tryd.func43, Tryd.ntmps43
    go_wp2_with fail
    refine (ptwo_c _ false HP.out w).mono ?_
    rintro r w' ⟨rfl, rfl⟩
    go_wp2
    go_ret
    exact ⟨rfl, rfl⟩

end Go.Proofs.YtcackmmfnojpfaaDoor
