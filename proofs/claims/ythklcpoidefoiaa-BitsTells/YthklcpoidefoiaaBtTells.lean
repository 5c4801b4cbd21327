/- DERIVED of the program: BitsTells returns true. Own work. -/
import Derived.Test.YthklcpoidefoiaaBtC
namespace Go.Proofs.Ythklcpoidefoiaa
open Go.RowKit Go.Extern.Stop Go.Stop Go.Extern

theorem wrap_one {k : Nat} (hk : k < 64) : IntKind.u64.wrap ((2 : Int) ^ k) = ((one (k : Int) : Nat) : Int) := by
  rw [one_in (by omega) (by omega), Int.toNat_natCast, IntKind.wrap_u64]
  have h5 : (2 : Nat) ^ k < 2 ^ 64 := Nat.pow_lt_pow_right (by decide) (by omega)
  have h6 : ((2 ^ k : Nat) : Int) = (2 : Int) ^ k := by simp
  rw [← h6]
  have h7 : (2 : Nat) ^ 64 = 18446744073709551616 := rfl
  generalize (2 : Nat) ^ k = p at h5 ⊢
  omega

set_option maxHeartbeats 1600000 in
set_option maxRecDepth 20000 in
theorem bitsTells_any (w : World) (x : Nat) (hx : x < 18446744073709551616) (c : Int) :
    Calls Try.prog 4 #[.int .u64 (x : Int), .int .i64 c] w fun r w' => r = .returned (.bool true) ∧ Below w.heap.size w w' := by
  have HX := Hid.in hx
  go_enter Try.func4, Try.ntmps4
  obtain ⟨Y, hY⟩ : ∃ Y : Bool, Y = decide (0 ≤ c ∧ c < 64) := ⟨_, rfl⟩
  have HY := Hid.in hY
  clear hY
  go_upto_region 3 with fail
  go_cut [19] (fun v wd => v = .bool Y ∧ wd = w)
  case first =>
    by_cases h1 : 0 ≤ c
    · by_cases h2 : c < 64
      · have HQ : Hid (Y = true) := Hid.in (by rw [HY.out]; simp [h1, h2])
        go_wp2_with fail
        go_meet
        case rel => exact ⟨by rw [HQ.out], rfl⟩
      · have HQ : Hid (Y = false) := Hid.in (by rw [HY.out]; simp [h2])
        go_wp2_with fail
        go_meet
        case rel => exact ⟨by rw [HQ.out], rfl⟩
    · have HQ : Hid (Y = false) := Hid.in (by rw [HY.out]; simp [h1])
      go_wp2_with fail
      go_meet
      case rel => exact ⟨by rw [HQ.out], rfl⟩
  case rest =>
  obtain ⟨rfl, hw⟩ := hcut
  subst hw
  rename World => w
  go_upto_if 19 with fail
  go_cut [6, 7, 8] (fun v6 v7 v8 wd => v6 = .bool (hasS x c) ∧ v7 = .int .u64 (addS x c : Nat) ∧ v8 = .int .u64 (dropS x c : Nat) ∧ Below w.heap.size w wd)
  case first =>
    by_cases h : 0 ≤ c ∧ c < 64
    · obtain ⟨k, rfl⟩ : ∃ k : Nat, c = (k : Int) := ⟨c.toNat, by omega⟩
      have hk : k < 64 := by omega
      have h64 : (k : Int) ≤ 64 := by omega
      have hk2 : (k : Int) < 64 := by omega
      have hw := wrap_one hk
      have ho : bits .or .u64 (x : Int) ((one (k : Int) : Nat) : Int) = ((addS x k : Nat) : Int) := u64_or_nat x (one k) hx (one_lt k)
      have hd : bits .andNot .u64 (x : Int) ((one (k : Int) : Nat) : Int) = ((dropS x k : Nat) : Int) := u64_andNot_nat x (one k) hx (one_lt k)
      have hs := shr_bit x k hx
      have HH : Hid (hasS x (k : Int) = x.testBit k) := Hid.in (hasS_nat hk)
      obtain rfl : Y = true := by rw [HY.out]; simp [h]
      clear h
      cases hb : x.testBit k with
      | true =>
        rw [hb] at hs
        simp only [if_true] at hs
        have HB := Hid.in hb
        clear hb
        go_wp2_with fail
        go_quiet (fail)
        all_goals
          go_wp2
          go_meet
          case rel => exact ⟨by rw [HH.out, HB.out], rfl, rfl, drewN_below (Below.refl _ _) _⟩
      | false =>
        rw [hb] at hs
        simp only [Bool.false_eq_true, if_false] at hs
        have HB := Hid.in hb
        clear hb
        go_wp2_with fail
        go_quiet (fail)
        all_goals
          go_wp2
          go_meet
          case rel => exact ⟨by rw [HH.out, HB.out], rfl, rfl, drewN_below (Below.refl _ _) _⟩
    · have HR : Hid (hasS x c = false ∧ addS x c = x ∧ dropS x c = x) := Hid.in ⟨hasS_out h, addS_out h, dropS_out hx h⟩
      obtain rfl : Y = false := by rw [HY.out]; simp; omega
      clear h
      go_wp2_with fail
      go_meet
      case rel => exact ⟨by rw [HR.out.1], by rw [HR.out.2.1], by rw [HR.out.2.2], Below.refl _ _⟩
  case rest =>
  obtain ⟨rfl, rfl, rfl, hw⟩ := hcut
  have HB0 := Hid.in hw
  clear hw
  go_wp2_with fail
  refine (refList_any x hx _).mono ?_
  rintro r w1 ⟨a1, c1, rfl, hO1, hb1⟩
  have HO1 := Hid.in hO1
  have HB1 := Hid.in (bstep HB0.out (Nat.le_refl _) hb1)
  clear hO1 hb1
  go_upto_if 37 with fail
  go_cut [10] (fun v wd => v = .int .i64 (firstS x) ∧ wd = w1)
  case first =>
    by_cases h : 0 < cnt x
    · have hl : 0 < (lst x).length := h
      obtain ⟨b, o, rfl, hc⟩ := (HO1.out.ints (lsI_rng x)).cell 0 (by rw [lsI_length]; exact h)
      have HF : Hid (firstS x = (lsI x)[0]'(by rw [lsI_length]; exact h)) := Hid.in (by rw [first_cons hl]; simp [lsI, lsn, lst])
      generalize (lsI x)[0]'(by rw [lsI_length]; exact h) = z at hc HF
      have hc' : w1.cell? ⟨b, o, none⟩ = some (.int .i64 z) := hc
      clear hc
      have hi : (0 : Int) < (cnt x : Int) := by omega
      go_wp2_with fail
      go_meet
      case rel => exact ⟨by rw [HF.out], rfl⟩
    · have hi : ¬ (0 : Int) < (cnt x : Int) := by omega
      have HF : Hid (firstS x = -1) := Hid.in (first_nil (List.length_eq_zero_iff.1 (show cnt x = 0 by omega)))
      clear h
      go_wp2_with fail
      go_meet
      case rel => exact ⟨by rw [HF.out], rfl⟩
  case rest =>
  obtain ⟨rfl, hw⟩ := hcut
  subst hw
  rename World => w1
  go_wp2_with fail
  refine (has_any x HX.out c _).mono ?_
  rintro r w2 ⟨rfl, rfl⟩
  go_wp2_with fail
  refine (add_any x HX.out c _).mono ?_
  rintro r w3 ⟨rfl, rfl⟩
  go_wp2_with fail
  refine (drop_any x HX.out c _).mono ?_
  rintro r w4 ⟨rfl, rfl⟩
  go_wp2_with fail
  refine (count_any x HX.out _).mono ?_
  rintro r w5 ⟨rfl, rfl⟩
  go_wp2_with fail
  refine (refCount_any x HX.out _).mono ?_
  rintro r w6 ⟨rfl, rfl⟩
  go_wp2_with fail
  refine (first_any x HX.out _).mono ?_
  rintro r w7 ⟨rfl, rfl⟩
  go_wp2_with fail
  refine (list_any x HX.out _).mono ?_
  rintro r w8 ⟨a8, c8, rfl, hO8, hb8⟩
  have HO8 := Hid.in hO8
  have HI1 := Hid.in ((HO1.out.ints (lsI_rng x)).step hb8)
  have HB8 := Hid.in (bstep HB1.out (Nat.le_refl _) hb8)
  clear hO8 hb8
  go_wp2_with fail
  refine (sameI_any _ _ _ _ _ _ (lsI x) (lsI x) _ (lsI_length x).symm (lsI_length x).symm (HO8.out.ints (lsI_rng x)) HI1.out (by rw [lsI_length]; have := cnt_le x; omega)).mono ?_
  rw [show decide (lsI x = lsI x) = true from by simp]
  rintro r w9 ⟨rfl, hb9⟩
  have HB9 := Hid.in (bstep HB8.out (Nat.le_refl _) hb9)
  clear hb9
  go_wp2_with fail
  refine (bitsRuns_any _).mono ?_
  rintro r wA ⟨rfl, hbA⟩
  have HBA := Hid.in (bstep HB9.out (Nat.le_refl _) hbA)
  clear hbA
  go_wp2
  go_ret
  exact ⟨rfl, HBA.out⟩

end Go.Proofs.Ythklcpoidefoiaa
