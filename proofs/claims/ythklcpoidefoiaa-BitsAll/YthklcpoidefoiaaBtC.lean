/- DERIVED of the program: BitsRuns returns true. Own work. -/
import Derived.Test.YthklcpoidefoiaaBtB
namespace Go.Proofs.Ythklcpoidefoiaa
open Go.RowKit Go.Extern.Stop Go.Stop Go.Extern

set_option maxHeartbeats 1600000 in
set_option maxRecDepth 20000 in
theorem bitsRuns_any (w : World) :
    Calls Try.prog 3 #[] w fun r w' => r = .returned (.bool true) ∧ Below w.heap.size w w' := by
  have HO : Hid (ofS [3, 0, 64, 3] = 9) := Hid.in (by decide)
  have HD : Hid (dropS 9 0 = 8) := Hid.in (by decide)
  have HC : Hid (cnt 9 = 2) := Hid.in (by decide)
  have HF : Hid (firstS 9 = 0) := Hid.in (by decide)
  have HL : Hid (lsI 9 = [0, 3]) := Hid.in (by decide)
  have HH : Hid (hasS 8 0 = false) := Hid.in (by decide)
  go_enter Try.func3, Try.ntmps3
  go_wp2_with fail
  refine (of_any _ _ _ [3, 0, 64, 3] _ (Ints.lit _ _ _ _ rfl (by decide)) rfl (by decide)).mono ?_
  rw [HO.out]
  rintro r w1 ⟨rfl, hw1⟩
  have HB1 : Hid (Below w.heap.size w w1) := Hid.in (by rw [hw1]; exact below_alloc _ _)
  clear hw1
  go_wp2_with fail
  refine (drop_any 9 (by decide) 0 w1).mono ?_
  rw [HD.out]
  rintro r w' ⟨rfl, rfl⟩
  go_wp2_with fail
  refine (count_any 9 (by decide) _).mono ?_
  rw [HC.out]
  rintro r w1 ⟨rfl, rfl⟩
  go_wp2_with fail
  refine (first_any 9 (by decide) _).mono ?_
  rw [HF.out]
  rintro r w2 ⟨rfl, rfl⟩
  go_wp2_with fail
  refine (list_any 9 (by decide) _).mono ?_
  rw [HC.out, HL.out]
  rintro r w3 ⟨a3, c3, rfl, hO3, hb3⟩
  have HO3 := Hid.in hO3
  have HB3 := Hid.in (bstep HB1.out (Nat.le_refl _) hb3)
  clear hO3 hb3
  go_wp2_with fail
  refine (sameI_any _ _ _ _ _ _ [0, 3] [0, 3] _ rfl rfl ((HO3.out.ints (by decide)).step (below_alloc _ _)) (Ints.lit _ _ _ _ rfl (by decide)) (by decide)).mono ?_
  rw [show decide (([0, 3] : List Int) = [0, 3]) = true from rfl]
  rintro r w4 ⟨rfl, hb4⟩
  have HB4 := Hid.in (bstep (HB3.out.alloc HB3.out.size _) (Nat.le_refl _) hb4)
  clear hb4
  go_wp2_with fail
  refine (has_any 8 (by decide) 0 _).mono ?_
  rw [HH.out]
  rintro r w5 ⟨rfl, rfl⟩
  go_wp2
  go_ret
  exact ⟨rfl, HB4.out⟩

end Go.Proofs.Ythklcpoidefoiaa
