/- DERIVED of the program: BitsParts returns true. Own work. -/
import Derived.Test.YthklcpoidefoiaaBtC
namespace Go.Proofs.Ythklcpoidefoiaa
open Go.RowKit Go.Extern.Stop Go.Stop Go.Extern

set_option maxHeartbeats 1600000 in
set_option maxRecDepth 20000 in
theorem bitsParts_any (w : World) (x : Nat) (hx : x < 18446744073709551616) (a b : Int) :
    Calls Try.prog 6 #[.int .u64 (x : Int), .int .i64 a, .int .i64 b] w fun r w' => r = .returned (.bool true) ∧ Below w.heap.size w w' := by
  have HX := Hid.in hx
  clear hx
  obtain ⟨I, hI, hI0, hI1⟩ : ∃ I, I = wI a 0 63 ∧ 0 ≤ I ∧ I ≤ 63 := ⟨_, rfl, wI_le a 0 63 (by decide)⟩
  obtain ⟨K, hK, hK0, hK1⟩ : ∃ K, K = wI b 0 63 ∧ 0 ≤ K ∧ K ≤ 63 := ⟨_, rfl, wI_le b 0 63 (by decide)⟩
  have HI := Hid.in hI
  have HK := Hid.in hK
  have HIR := Hid.in (And.intro hI0 hI1)
  have HKR := Hid.in (And.intro hK0 hK1)
  clear hI hK hI0 hI1 hK0 hK1
  obtain ⟨N, hN⟩ : ∃ N, N = cnt (dropS x I) := ⟨_, rfl⟩
  have HN := Hid.in hN
  have hN64 : N ≤ 64 := by rw [hN]; exact cnt_le _
  clear hN
  have HP : Hid (cnt (addS x I) = N + 1) := Hid.in (by rw [cnt_parts HX.out HIR.out.1 (by have := HIR.out; omega), HN.out])
  have HA := Hid.in (addS_lt I HX.out)
  have HD := Hid.in (dropS_lt I HX.out)
  go_enter Try.func6, Try.ntmps6
  go_wp2_with fail
  refine (within_i a 0 63 _ (by decide) (by decide) (by decide)).mono ?_
  rw [← HI.out]
  rintro r w1 ⟨rfl, rfl⟩
  go_wp2_with fail
  refine (within_i b 0 63 _ (by decide) (by decide) (by decide)).mono ?_
  rw [← HK.out]
  rintro r w2 ⟨rfl, rfl⟩
  go_wp2_with fail
  refine (count_any x HX.out _).mono ?_
  rintro r w3 ⟨rfl, rfl⟩
  go_wp2_with fail
  refine (has_any x HX.out I _).mono ?_
  rintro r w4 ⟨rfl, rfl⟩
  go_upto_if 22 with fail
  go_cut [10] (fun v wd => v = .int .i64 (N : Int) ∧ wd = w4)
  case first =>
    cases hb : hasS x I with
    | true =>
      have HC : Hid (cnt x = N + 1) := Hid.in (by rw [HN.out]; exact cnt_drop HX.out hb)
      clear hb
      rw [HC.out]
      go_wp2_with fail
      go_meet
      case rel => exact ⟨by go_num, rfl⟩
    | false =>
      have HC : Hid (cnt x = N) := Hid.in (by rw [HN.out, drop_has HX.out hb])
      clear hb
      rw [HC.out]
      go_wp2_with fail
      go_meet
      case rel => exact ⟨rfl, rfl⟩
  case rest =>
  obtain ⟨rfl, hw⟩ := hcut
  subst hw
  rename World => w4
  go_wp2_with fail
  refine (add_any x HX.out I _).mono ?_
  rintro r w5 ⟨rfl, rfl⟩
  go_wp2_with fail
  refine (drop_any x HX.out I _).mono ?_
  rintro r w6 ⟨rfl, rfl⟩
  go_wp2_with fail
  refine (count_any _ HA.out _).mono ?_
  rw [HP.out]
  rintro r w7 ⟨rfl, rfl⟩
  go_wp2_with fail
  refine (count_any _ HD.out _).mono ?_
  rw [← HN.out]
  rintro r w8 ⟨rfl, rfl⟩
  go_wp2_with fail
  refine (has_any _ HA.out I _).mono ?_
  rw [has_add_self HIR.out.1 (by have := HIR.out; omega)]
  rintro r w9 ⟨rfl, rfl⟩
  go_wp2_with fail
  refine (has_any _ HD.out I _).mono ?_
  rw [has_drop_self HX.out]
  rintro r wA ⟨rfl, rfl⟩
  go_wp2_with fail
  refine (add_any _ HA.out K _).mono ?_
  rintro r wB ⟨rfl, rfl⟩
  go_wp2_with fail
  refine (add_any _ HX.out K _).mono ?_
  rintro r wC ⟨rfl, rfl⟩
  go_wp2_with fail
  refine (add_any _ (addS_lt K HX.out) I _).mono ?_
  rw [add_add x K I]
  rintro r wD ⟨rfl, rfl⟩
  have HF : Hid (0 ≤ firstS (addS x I) ∧ firstS (addS x I) ≤ I) := Hid.in (by
    have h1 : (addS x I).testBit I.toNat = true := by
      rw [← hasS_in HIR.out.1 (by have := HIR.out; omega)]; exact has_add_self HIR.out.1 (by have := HIR.out; omega)
    have h2 := first_rng (i := I.toNat) (by have := HIR.out; omega) h1
    have := HIR.out
    omega)
  obtain ⟨F, hF⟩ : ∃ F, F = firstS (addS x I) := ⟨_, rfl⟩
  rw [← hF] at HF
  have HFE := Hid.in hF
  clear hF
  by_cases hik : I = K
  · subst hik
    go_wp2_with fail
    refine (first_any _ HA.out _).mono ?_
    rw [← HFE.out]
    have hf0 := HF.out.1
    have hf1 := HF.out.2
    rintro r wE ⟨rfl, rfl⟩
    go_wp2_with fail
    refine (first_any _ HA.out _).mono ?_
    rw [← HFE.out]
    rintro r wF ⟨rfl, rfl⟩
    go_wp2_with fail
    refine (bitsRuns_any _).mono ?_
    rintro r wG ⟨rfl, hbG⟩
    have HBG := Hid.in hbG
    clear hbG
    go_wp2
    go_ret
    exact ⟨rfl, HBG.out⟩
  · have hq : (I == K) = false := by simp [hik]
    have HNE := Hid.in hik
    clear hik
    go_wp2_with fail
    refine (drop_any _ HA.out K _).mono ?_
    rintro r wE ⟨rfl, rfl⟩
    go_wp2_with fail
    refine (drop_any _ HX.out K _).mono ?_
    rintro r wE ⟨rfl, rfl⟩
    go_wp2_with fail
    refine (add_any _ (dropS_lt K HX.out) I _).mono ?_
    rw [← add_drop_ne HX.out (a := I) (b := K) (by have := HIR.out; omega) (by have := HKR.out; omega) HNE.out]
    rintro r wE ⟨rfl, rfl⟩
    go_wp2_with fail
    refine (first_any _ HA.out _).mono ?_
    rw [← HFE.out]
    have hf0 := HF.out.1
    have hf1 := HF.out.2
    rintro r wE ⟨rfl, rfl⟩
    go_wp2_with fail
    refine (first_any _ HA.out _).mono ?_
    rw [← HFE.out]
    rintro r wF ⟨rfl, rfl⟩
    go_wp2_with fail
    refine (bitsRuns_any _).mono ?_
    rintro r wG ⟨rfl, hbG⟩
    have HBG := Hid.in hbG
    clear hbG
    go_wp2
    go_ret
    exact ⟨rfl, HBG.out⟩

end Go.Proofs.Ythklcpoidefoiaa
