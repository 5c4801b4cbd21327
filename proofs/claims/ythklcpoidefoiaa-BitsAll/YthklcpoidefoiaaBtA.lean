/- DERIVED of the program: package bits: alone, Has, Add, Drop, Count, First, Of. Own work. -/
import Derived.Test.YthklcpoidefoiaaGenA
import Derived.Test.YthklcpoidefoiaaBtPure
namespace Go.Proofs.Ythklcpoidefoiaa
open Go.RowKit Go.Extern.Stop Go.Stop Go.Extern

theorem has_and (x : Nat) (c : Int) : hasS x c = decide (x &&& one c ≠ 0) := by
  by_cases h : 0 ≤ c ∧ c < 64
  · rw [hasS_in h.1 h.2, one_in h.1 h.2, nat_bit, Nat.testBit_eq_decide_div_mod_eq]
    have hp : 0 < 2 ^ c.toNat := Nat.pow_pos (by decide)
    rcases Nat.mod_two_eq_zero_or_one (x / 2 ^ c.toNat) with h0 | h1
    · simp [h0]
    · simp [h1]
  · rw [hasS_out h, one_out h]; simp

theorem alone_any (c : Int) (w : World) :
    Calls Try.prog 22 #[.int .i64 c] w fun r w' => r = .returned (.int .u64 (one c : Nat)) ∧ w' = w := by
  by_cases h0 : c < 0
  · go_enter Try.func22, Try.ntmps22
    go_wp2
    go_ret
    exact ⟨ret_int (by rw [one_out (by omega)]; rfl), rfl⟩
  · by_cases h1 : c < 64
    · have h2 : ¬ (64 : Int) ≤ c := by omega
      have h3 : 0 ≤ c := by omega
      have h4 : c ≤ 64 := by omega
      have HW : Hid (IntKind.u64.wrap (2 ^ c.toNat) = ((one c : Nat) : Int)) := Hid.in (by
        rw [one_in h3 h1, IntKind.wrap_u64]
        have h5 : (2 : Nat) ^ c.toNat < 2 ^ 64 := Nat.pow_lt_pow_right (by decide) (by omega)
        have h6 : ((2 ^ c.toNat : Nat) : Int) = (2 : Int) ^ c.toNat := by simp
        rw [← h6]
        have h7 : (2 : Nat) ^ 64 = 18446744073709551616 := rfl
        generalize (2 : Nat) ^ c.toNat = p at h5 ⊢
        omega)
      go_enter Try.func22, Try.ntmps22
      go_wp2
      go_ret
      exact ⟨ret_int HW.out, rfl⟩
    · have h2 : (64 : Int) ≤ c := by omega
      go_enter Try.func22, Try.ntmps22
      go_wp2
      go_ret
      exact ⟨ret_int (by rw [one_out (by omega)]; rfl), rfl⟩

theorem has_any (x : Nat) (hx : x < 18446744073709551616) (c : Int) (w : World) :
    Calls Try.prog 15 #[.int .u64 (x : Int), .int .i64 c] w fun r w' => r = .returned (.bool (hasS x c)) ∧ w' = w := by
  obtain ⟨m, hm⟩ : ∃ m, m = x &&& one c := ⟨_, rfl⟩
  have ha : bits .and .u64 (x : Int) ((one c : Nat) : Int) = (m : Int) := by rw [u64_and_nat x (one c) hx (one_lt c), hm]
  have HM : Hid (hasS x c = decide (m ≠ 0)) := Hid.in (by rw [has_and, hm])
  clear hm
  by_cases h : m = 0
  · subst h
    go_enter Try.func15, Try.ntmps15
    go_wp2_with fail
    refine (alone_any c w).mono ?_
    rintro r w' ⟨rfl, rfl⟩
    go_wp2
    go_ret
    exact ⟨by rw [HM.out]; rfl, rfl⟩
  · have hq : ((m : Int) != 0) = true := by simp; omega
    have HD : Hid (decide (m ≠ 0) = true) := Hid.in (by simp [h])
    clear h
    go_enter Try.func15, Try.ntmps15
    go_wp2_with fail
    refine (alone_any c w).mono ?_
    rintro r w' ⟨rfl, rfl⟩
    go_wp2
    go_ret
    exact ⟨by rw [HM.out, HD.out]; rfl, rfl⟩

theorem add_any (x : Nat) (hx : x < 18446744073709551616) (c : Int) (w : World) :
    Calls Try.prog 17 #[.int .u64 (x : Int), .int .i64 c] w fun r w' => r = .returned (.int .u64 (addS x c : Nat)) ∧ w' = w := by
  have ha : bits .or .u64 (x : Int) ((one c : Nat) : Int) = ((addS x c : Nat) : Int) := u64_or_nat x (one c) hx (one_lt c)
  go_enter Try.func17, Try.ntmps17
  go_wp2_with fail
  refine (alone_any c w).mono ?_
  rintro r w' ⟨rfl, rfl⟩
  go_wp2
  go_ret
  exact ⟨rfl, rfl⟩

theorem drop_any (x : Nat) (hx : x < 18446744073709551616) (c : Int) (w : World) :
    Calls Try.prog 10 #[.int .u64 (x : Int), .int .i64 c] w fun r w' => r = .returned (.int .u64 (dropS x c : Nat)) ∧ w' = w := by
  have ha : bits .andNot .u64 (x : Int) ((one c : Nat) : Int) = ((dropS x c : Nat) : Int) := u64_andNot_nat x (one c) hx (one_lt c)
  go_enter Try.func10, Try.ntmps10
  go_wp2_with fail
  refine (alone_any c w).mono ?_
  rintro r w' ⟨rfl, rfl⟩
  go_wp2
  go_ret
  exact ⟨rfl, rfl⟩

theorem and1 (m : Nat) (h : m < 18446744073709551616) : bits .and .u64 (m : Int) 1 = (m : Int) % 2 := by
  have h1 := u64_and_nat m 1 h (by decide)
  rw [nat_mask1] at h1
  exact h1.trans (by simp)

theorem count_any (x : Nat) (hx : x < 18446744073709551616) (w : World) :
    Calls Try.prog 11 #[.int .u64 (x : Int)] w fun r w' => r = .returned (.int .i64 (cnt x : Nat)) ∧ w' = w := by
  have HX := Hid.in (cnt_le x)
  go_enter Try.func11, Try.ntmps11
  go_wp2
  go_loopw [0, 3] (fun s n wr => ∃ y k : Nat, s = .int .u64 (y : Int) ∧ n = .int .i64 (k : Int) ∧ y < 18446744073709551616 ∧ k + cnt y = cnt x ∧ wr = w) (fun s _ _ => (intOf s).toNat)
  case atStart => exact ⟨x, 0, rfl, rfl, hx, by omega, rfl⟩
  case round =>
    obtain ⟨y, k, rfl, rfl, hy, hk, rfl⟩ := hrel
    have HK := Hid.in hk
    have HH := Hid.in (cnt_half hy)
    have hk64 : k ≤ 64 := by have := HX.out; omega
    clear hk
    by_cases h : y = 0
    · subst h
      go_wp2
      go_ret
      exact ⟨ret_int (by have h1 := HK.out; rw [show cnt 0 = 0 from rfl] at h1; omega), rfl⟩
    · have hq : ((y : Int) != 0) = true := by simp; omega
      have ha := and1 y hy
      go_wp2
      go_roundw
      case rel => exact ⟨y / 2, k + y % 2, by go_num, by go_num, by omega, by have h1 := HK.out; have h2 := HH.out; omega, trivial⟩
      case measure => simp [intOf]; omega

theorem first_any (x : Nat) (hx : x < 18446744073709551616) (w : World) :
    Calls Try.prog 12 #[.int .u64 (x : Int)] w fun r w' => r = .returned (.int .i64 (firstS x)) ∧ w' = w := by
  go_enter Try.func12, Try.ntmps12
  go_wp2
  go_loopw [4] (fun i wr => ∃ k : Nat, k ≤ 64 ∧ i = .int .i64 (k : Int) ∧ lstn k x = [] ∧ wr = w) (fun i _ => 64 - (intOf i).toNat)
  case atStart => exact ⟨0, by omega, rfl, rfl, rfl⟩
  case round =>
    obtain ⟨k, hk, rfl, hl, rfl⟩ := hrel
    have HL := Hid.in hl
    clear hl
    by_cases h : k < 64
    · go_wp2_with fail
      refine (has_any x hx k wr).mono ?_
      rw [hasS_nat h]
      cases hb : x.testBit k with
      | true =>
        have HB := Hid.in hb
        clear hb
        rintro r w' ⟨rfl, rfl⟩
        go_wp2
        go_ret
        exact ⟨ret_int (first_at h HL.out HB.out).symm, rfl⟩
      | false =>
        have HB := Hid.in hb
        clear hb
        rintro r w' ⟨rfl, rfl⟩
        go_wp2
        go_roundw
        case rel => exact ⟨k + 1, by omega, by go_num, by rw [lstn_no HB.out]; exact HL.out, trivial⟩
        case measure => simp [intOf]; omega
    · have hk64 : k = 64 := by omega
      subst hk64
      go_wp2
      go_ret
      exact ⟨ret_int (first_nil HL.out).symm, rfl⟩

theorem of_any (ao : Option Addr) (cap n : Nat) (zs : List Int) (w : World) (hZ : Ints w ao cap zs) (hn : n = zs.length) (hlen : zs.length ≤ 1000) :
    Calls Try.prog 9 #[.slice ao n cap] w fun r w' => r = .returned (.int .u64 (ofS zs : Nat)) ∧ w' = w := by
  subst hn
  have HZ := Hid.in hZ
  clear hZ
  go_enter Try.func9, Try.ntmps9
  go_wp2
  go_loopw [3, 8] (fun s i wr => ∃ k : Nat, k ≤ zs.length ∧ i = .int .i64 (k : Int) ∧ s = .int .u64 (ofS (zs.take k) : Nat) ∧ wr = w) (fun _ i _ => 1000 - (intOf i).toNat)
  case atStart => exact ⟨0, by omega, rfl, rfl, rfl⟩
  case round =>
    obtain ⟨k, hk, rfl, rfl, rfl⟩ := hrel
    by_cases h : k < zs.length
    · obtain ⟨b, o, rfl, hc⟩ := HZ.out.cell k h
      have HS : Hid (ofS (zs.take (k + 1)) = addS (ofS (zs.take k)) zs[k]) := Hid.in (by rw [List.take_succ_eq_append_getElem h, ofS_snoc])
      generalize zs[k] = z at hc HS
      go_wp2_with fail
      refine (add_any _ (ofS_lt _) z wr).mono ?_
      rintro r w' ⟨rfl, rfl⟩
      go_wp2
      go_roundw
      case rel => exact ⟨k + 1, by omega, by go_num, by rw [HS.out], trivial⟩
      case measure => simp [intOf]; omega
    · have HT : Hid (zs.take k = zs) := Hid.in (List.take_of_length_le (by omega))
      go_wp2
      go_ret
      exact ⟨ret_int (by rw [HT.out]), rfl⟩

end Go.Proofs.Ythklcpoidefoiaa
