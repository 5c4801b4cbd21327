/- DERIVED of the program: BitsOrder returns true. Own work. -/
import Derived.Test.YthklcpoidefoiaaBtC
import Derived.Test.YthklcpoidefoiaaGenR
namespace Go.Proofs.Ythklcpoidefoiaa
open Go.RowKit Go.Extern.Stop Go.Stop Go.Extern

theorem lsI_get {x k : Nat} (h : k < (lsI x).length) : ∃ hk : k < (lst x).length, (lsI x)[k] = (((lst x)[k] : Nat) : Int) := by
  have hk : k < (lst x).length := by rw [lsI_length] at h; exact h
  exact ⟨hk, by simp [lsI, lsn, lst]⟩
theorem lsI_has {x k : Nat} (h : k < (lsI x).length) : 0 ≤ (lsI x)[k] ∧ (lsI x)[k] ≤ 63 ∧ hasS x (lsI x)[k] = true := by
  obtain ⟨hk, e⟩ := lsI_get h
  have h2 := lst_get hk
  rw [e]
  exact ⟨by omega, by omega, by rw [hasS_nat h2.1]; exact h2.2⟩
theorem lsI_lt {x k : Nat} (h : k + 1 < (lsI x).length) : (lsI x)[k] < (lsI x)[k + 1] := by
  obtain ⟨hk, e⟩ := lsI_get (show k < (lsI x).length by omega)
  obtain ⟨hk2, e2⟩ := lsI_get h
  rw [e, e2]
  have := lst_lt (x := x) (k := k) (j := k + 1) (by omega) hk2
  omega

set_option maxHeartbeats 3200000 in
set_option maxRecDepth 20000 in
theorem bitsOrder_any (w : World) (x : Nat) (hx : x < 18446744073709551616) :
    Calls Try.prog 8 #[.int .u64 (x : Int)] w fun r w' => r = .returned (.bool true) ∧ Below w.heap.size w w' := by
  have HX := Hid.in hx
  clear hx
  have hN64 := cnt_le x
  go_enter Try.func8, Try.ntmps8
  go_wp2_with fail
  refine (list_any x HX.out _).mono ?_
  rintro r w1 ⟨al, cl, rfl, hO, hb1⟩
  have HI := Hid.in (hO.ints (lsI_rng x))
  have HB1 := Hid.in hb1
  have hlc : cnt x ≤ cl := by have := HI.out.le; rw [lsI_length] at this; exact this
  clear hO hb1
  go_wp2
  go_loopw [5] (fun i wr => ∃ k : Nat, k ≤ cnt x ∧ i = .int .i64 (k : Int) ∧ Below w1.heap.size w1 wr) (fun i _ => cnt x - (intOf i).toNat)
  case atStart => exact ⟨0, Nat.zero_le _, rfl, Below.refl _ _⟩
  case round =>
    obtain ⟨k, hk, rfl, hb⟩ := hrel
    have HB := Hid.in hb
    clear hb
    by_cases hlt : k < cnt x
    · have hlt' : k < (lsI x).length := by rw [lsI_length]; exact hlt
      obtain ⟨b, o, rfl, hc⟩ := (HI.out.step HB.out).cell k hlt'
      obtain ⟨z0, z1, hhas⟩ := lsI_has hlt'
      have k1 : (k : Int) < (cnt x : Int) := by omega
      by_cases hk0 : k = 0
      · subst hk0
        generalize (lsI x)[0] = z at hc z0 z1 hhas
        have hc0 : wr.cell? ⟨b, o, none⟩ = some (.int .i64 z) := hc
        have HH : Hid (∀ w', Calls Try.prog 15 #[.int .u64 (x : Int), .int .i64 z] w' fun r w'' => r = .returned (.bool true) ∧ w'' = w') := Hid.in (fun w' => by rw [← hhas]; exact has_any x HX.out z w')
        have d1 : decide (z < 0) = false := decide_eq_false (by omega)
        have d2 : decide ((63 : Int) < z) = false := decide_eq_false (by omega)
        clear hhas hlt'
        go_wp2_with fail
        go_quiet ((go_at_call 15; exact Calls.quiet_of_same (HH.out _)))
        all_goals
          go_wp2
          go_roundw
          case rel => exact ⟨1, by omega, by go_num, drewN_below HB.out _⟩
          case measure => simp [intOf]; omega
      · obtain ⟨j, rfl⟩ : ∃ j, k = j + 1 := ⟨k - 1, by omega⟩
        obtain ⟨b', o', e, hcj⟩ := (HI.out.step HB.out).cell j (by omega)
        cases e
        have hzz := lsI_lt hlt'
        generalize (lsI x)[j + 1] = z at hc z0 z1 hhas hzz
        generalize (lsI x)[j] = y at hcj hzz
        have HH : Hid (∀ w', Calls Try.prog 15 #[.int .u64 (x : Int), .int .i64 z] w' fun r w'' => r = .returned (.bool true) ∧ w'' = w') := Hid.in (fun w' => by rw [← hhas]; exact has_any x HX.out z w')
        have d1 : decide (z < 0) = false := decide_eq_false (by omega)
        have d2 : decide ((63 : Int) < z) = false := decide_eq_false (by omega)
        have d3 : decide (z ≤ y) = false := decide_eq_false (by omega)
        have j0 : (0 : Int) < ((j + 1 : Nat) : Int) := by omega
        clear hhas hlt' hk0
        go_wp2_with fail
        go_quiet ((go_at_call 15; exact Calls.quiet_of_same (HH.out _)))
        all_goals
          go_wp2
          go_roundw
          case rel => exact ⟨j + 2, by omega, by go_num, drewN_below HB.out _⟩
          case measure => simp [intOf]; omega
    · have hkn : k = cnt x := by omega
      subst hkn
      have HW := Hid.in (bstep HB1.out (Nat.le_refl _) HB.out)
      by_cases h0 : cnt x = 0
      · have h00 : x = 0 := (cnt_zero_iff HX.out).1 h0
        subst h00
        have hc0 : cnt 0 = 0 := rfl
        rw [hc0]
        go_wp2_with fail
        refine wp_region_kin (C := fun W => Below wr.heap.size wr W) (by kernel_rfl) (by kernel_rfl) (Below.refl _ _).drew (fun hne => ?_)
        repeat (go_big_quiet_step (first | (go_at_call 11; exact Kin.same _ (count_any 0 HX.out _)) | (go_at_call 3; exact Kin.below (Nat.le_refl _) _ (bitsRuns_any _))))
        refine wpQuiet_nil ?_
        rintro w6 ⟨n, rfl⟩
        have HT := Hid.in (bstep HW.out (Nat.le_refl _) n.in)
        go_wp2
        go_ret
        exact ⟨rfl, HT.out⟩
      · obtain ⟨b, o, rfl, hc⟩ := (HI.out.step HB.out).cell 0 (by rw [lsI_length]; omega)
        have HF : Hid (firstS x = (lsI x)[0]'(by rw [lsI_length]; omega)) := Hid.in (by
          rw [first_cons (show 0 < (lst x).length from Nat.pos_of_ne_zero h0)]; simp [lsI, lsn, lst])
        generalize (lsI x)[0]'(by rw [lsI_length]; omega) = z at hc HF
        have hc0 : wr.cell? ⟨b, o, none⟩ = some (.int .i64 z) := hc
        have HC := Hid.in hc0
        have HLT : Hid (b < wr.heap.size) := Hid.in (lt_cell (q := ⟨b, o, none⟩) hc0)
        have hcd : ∀ n : Kin (fun W => Below wr.heap.size wr W), n.of.cell? ⟨b, o, none⟩ = some (.int .i64 z) := fun n => (n.in.cell (p := ⟨b, o, none⟩) HLT.out).trans HC.out
        have HFI : Hid (∀ w', Calls Try.prog 12 #[.int .u64 (x : Int)] w' fun r w'' => r = .returned (.int .i64 z) ∧ w'' = w') := Hid.in (fun w' => by rw [← HF.out]; exact first_any x HX.out w')
        have hx0 : ¬ x = 0 := fun e => h0 (by rw [e]; rfl)
        have d1 : ((cnt x : Int) == 0) = false := by simp [h0]
        have d2 : ((x : Int) == 0) = false := by simp [hx0]
        have n1 : (0 : Int) < (cnt x : Int) := by omega
        clear hc hx0 h0 hc0
        go_wp2_with fail
        refine wp_region_kin (C := fun W => Below wr.heap.size wr W) (by kernel_rfl) (by kernel_rfl) (Below.refl _ _).drew (fun hne => ?_)
        repeat (go_big_quiet_step (first | (go_at_call 12; exact Kin.same _ (HFI.out _)) | (go_at_call 11; exact Kin.same _ (count_any x HX.out _)) | (go_at_call 3; exact Kin.below (Nat.le_refl _) _ (bitsRuns_any _))))
        refine wpQuiet_nil ?_
        rintro w6 ⟨n, rfl⟩
        have HT := Hid.in (bstep HW.out (Nat.le_refl _) n.in)
        clear hcd
        go_wp2
        go_ret
        exact ⟨rfl, HT.out⟩

end Go.Proofs.Ythklcpoidefoiaa
