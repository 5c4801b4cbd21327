/- DERIVED of the program: BitsAll returns true. Own work. -/
import Derived.Test.YthklcpoidefoiaaBtOrder
namespace Go.Proofs.Ythklcpoidefoiaa
open Go.RowKit Go.Extern.Stop Go.Stop Go.Extern

theorem pow_lt64 {k : Nat} (hk : k ≤ 64) : 2 ^ k - 1 < 18446744073709551616 := by
  have h := Nat.pow_le_pow_right (show 0 < 2 by decide) hk
  have h7 : (2 : Nat) ^ 64 = 18446744073709551616 := rfl
  have h8 := Nat.pow_pos (n := k) (show 0 < 2 by decide)
  omega

set_option maxHeartbeats 3200000 in
set_option maxRecDepth 20000 in
theorem bitsAll_any (w : World) (al : Option Addr) (capl : Nat) (zs : List Int) (hZ : Ints w al capl zs) :
    Calls Try.prog 7 #[.slice al zs.length capl] w fun r w' => r = .returned (.bool true) ∧ Below w.heap.size w w' := by
  have HZ := Hid.in hZ
  clear hZ
  have HF : Hid (cnt 18446744073709551615 = 64) := Hid.in (by decide)
  have HF1 : Hid (firstS 18446744073709551615 = 0) := Hid.in (by decide)
  go_enter Try.func7, Try.ntmps7
  go_wp2
  go_loopw [3, 4] (fun s i wr => ∃ k : Nat, k ≤ 64 ∧ i = .int .i64 (k : Int) ∧ s = .int .u64 ((2 ^ k - 1 : Nat) : Int) ∧ wr = w) (fun _ i _ => 64 - (intOf i).toNat)
  case atStart => exact ⟨0, by omega, rfl, rfl, rfl⟩
  case round =>
    obtain ⟨k, hk, rfl, rfl, rfl⟩ := hrel
    by_cases h : k < 64
    · have HP := Hid.in (pow_lt64 hk)
      have HS := Hid.in (full_step h)
      go_wp2_with fail
      refine (add_any (2 ^ k - 1) HP.out k wr).mono ?_
      rw [HS.out]
      rintro r w' ⟨rfl, rfl⟩
      go_wp2
      go_roundw
      case rel => exact ⟨k + 1, by omega, by go_num, rfl, trivial⟩
      case measure => simp [intOf]; omega
    · have hk64 : k = 64 := by omega
      subst hk64
      rw [show (2 : Nat) ^ 64 - 1 = 18446744073709551615 from rfl]
      go_wp2_with fail
      refine (count_any 18446744073709551615 (by decide) _).mono ?_
      rw [HF.out]
      rintro r w1 ⟨rfl, rfl⟩
      go_wp2_with fail
      refine (first_any 18446744073709551615 (by decide) _).mono ?_
      rw [HF1.out]
      rintro r w2 ⟨rfl, rfl⟩
      go_wp2
      go_loopw [3, 5] (fun s i wr => ∃ k x : Nat, k ≤ 64 ∧ i = .int .i64 (k : Int) ∧ s = .int .u64 (x : Int) ∧ x < 18446744073709551616 ∧ cnt x + k = 64 ∧ Below w2.heap.size w2 wr) (fun _ i _ => 64 - (intOf i).toNat)
      case atStart => exact ⟨0, 18446744073709551615, by omega, rfl, rfl, by decide, HF.out, Below.refl _ _⟩
      case round =>
        obtain ⟨k, x, hk, rfl, rfl, hx, hc, hb⟩ := hrel
        have HX := Hid.in hx
        have HB := Hid.in hb
        clear hx hb
        by_cases h : k < 64
        · obtain ⟨N, hN⟩ : ∃ N, N = cnt x := ⟨_, rfl⟩
          have HN := Hid.in hN
          rw [← hN] at hc
          clear hN
          have hN0 : 0 < N := by omega
          have e1 : ((N : Int) != 64 - (k : Int)) = false := by simp; omega
          go_wp2_with fail
          refine (list_any x HX.out _).mono ?_
          rw [← HN.out]
          rintro r w3 ⟨a3, c3, rfl, hO3, hb3⟩
          have HI3 := Hid.in (hO3.ints (lsI_rng x))
          have HB3 := Hid.in (bstep HB.out (Nat.le_refl _) hb3)
          have hc3 : N ≤ c3 := by have := HI3.out.le; rw [lsI_length, ← HN.out] at this; exact this
          clear hO3 hb3
          go_upto_if 41 with fail
          go_cut [7] (fun v wd => (∃ j : Nat, v = .int .i64 (j : Int) ∧ j < N) ∧ wd = w3)
          case first =>
            by_cases hlt : k < zs.length
            · obtain ⟨b, o, rfl, hcz⟩ := (HZ.out.step HB3.out).cell k hlt
              generalize zs[k] = z at hcz
              have hkz : (k : Int) < (zs.length : Int) := by omega
              go_wp2_with fail
              refine (within_i z 0 ((N : Int) - 1) _ (by decide) (by omega) (by omega)).mono ?_
              have HW := Hid.in (wI_le z 0 ((N : Int) - 1) (by omega))
              generalize wI z 0 ((N : Int) - 1) = J at HW
              rintro r w4 ⟨rfl, rfl⟩
              go_wp2
              go_meet
              case rel => exact ⟨⟨J.toNat, by have := HW.out; rw [Int.toNat_of_nonneg this.1], by have := HW.out; omega⟩, rfl⟩
            · have hkz : ¬ (k : Int) < (zs.length : Int) := by omega
              go_wp2_with fail
              go_meet
              case rel => exact ⟨⟨0, rfl, hN0⟩, rfl⟩
          case rest =>
          obtain ⟨⟨j, rfl, hj⟩, hw⟩ := hcut
          subst hw
          rename World => w3
          have hj' : j < (lsI x).length := by rw [lsI_length, ← HN.out]; exact hj
          obtain ⟨b, o, rfl, hcj⟩ := HI3.out.cell j hj'
          have HH := Hid.in (lsI_has hj')
          generalize (lsI x)[j] = z at hcj HH
          have HD := Hid.in (cnt_drop HX.out HH.out.2.2)
          have HDX := Hid.in (dropS_lt z HX.out)
          have j1 : (j : Int) < (N : Int) := by omega
          clear hj'
          go_wp2_with fail
          refine (drop_any x HX.out z _).mono ?_
          rintro r w4 ⟨rfl, rfl⟩
          go_wp2_with fail
          refine (has_any _ HDX.out z _).mono ?_
          rw [has_drop_self HX.out]
          rintro r w5 ⟨rfl, rfl⟩
          obtain ⟨M, hM⟩ : ∃ M, M = cnt (dropS x z) := ⟨_, rfl⟩
          have HM := Hid.in hM
          have hMN : N = M + 1 := by rw [hM, HN.out]; exact HD.out
          clear hM
          have e2 : ((M : Int) != 63 - (k : Int)) = false := by simp; omega
          go_wp2_with fail
          refine (count_any _ HDX.out _).mono ?_
          rw [← HM.out]
          rintro r w6 ⟨rfl, rfl⟩
          go_wp2
          go_roundw
          case rel => exact ⟨k + 1, dropS x z, by omega, by go_num, rfl, HDX.out, by rw [← HM.out]; omega, HB3.out⟩
          case measure => simp [intOf]; omega
        · have h0 : cnt x = 0 := by omega
          have h00 : x = 0 := (cnt_zero_iff HX.out).1 h0
          subst h00
          go_wp2_with fail
          refine (first_any 0 HX.out _).mono ?_
          rw [show firstS 0 = -1 from rfl]
          rintro r w3 ⟨rfl, rfl⟩
          go_wp2_with fail
          refine (list_any 0 HX.out _).mono ?_
          rw [show cnt 0 = 0 from rfl]
          rintro r w4 ⟨a4, c4, rfl, hO4, hb4⟩
          have HB4 := Hid.in (bstep HB.out (Nat.le_refl _) hb4)
          clear hO4 hb4
          go_wp2_with fail
          refine (bitsRuns_any _).mono ?_
          rintro r w5 ⟨rfl, hb5⟩
          have HB5 := Hid.in (bstep HB4.out (Nat.le_refl _) hb5)
          clear hb5
          go_wp2
          go_ret
          exact ⟨rfl, HB5.out⟩

end Go.Proofs.Ythklcpoidefoiaa
