/- DERIVED of the program: StateKeeps returns true. Own work. -/
import Derived.Test.YtkdkbaplfgjkmaaStC
namespace Go.Proofs.Ytkdkbaplfgjkmaa
open Go.RowKit Go.Extern.Stop Go.Stop Go.Extern

/-- What StateKeeps says of one forward, of numbers. -/
def kpS (a k m : Int) : Bool :=
  let p := nxS a k m
  if k = 5 then (p.2 == dtS a) && lgS p.1 1 && !wrS p.1
  else if k = 9 then (p.2 == dtS a) && decide (p.1 = 1)
  else if k = 6 ∨ k = 10 then (p.2 == dtS a) && decide (p.1 = 0)
  else !p.2 && decide (p.1 = a)
theorem kpS_all : ∀ A : Fin 4, ∀ K : Fin 6, ∀ M : Fin 4, kpS (1 + (A.val : Int)) (5 + (K.val : Int)) (M.val : Int) = true := by decide +kernel

set_option maxHeartbeats 3200000 in
set_option maxRecDepth 20000 in
theorem stateKeeps_any (w : World) (n0 n1 : Int) : Calls Try.prog 5 #[.int .i64 n0, .int .i64 n1] w fun r w' => r = .returned (.bool true) ∧ Below w.heap.size w w' := by
  obtain ⟨a1, a4⟩ := wI_le n0 1 4 (by decide)
  obtain ⟨M, hM, hM3⟩ := wI_nat0 n1 3 (by decide)
  have HA : Hid (∀ y, Calls Try.prog 20 #[.int .i64 n0, .int .i64 1, .int .i64 4] y fun r w' => r = .returned (.int .i64 (wI n0 1 4)) ∧ w' = y) := Hid.in (fun y => within_i n0 1 4 y (by decide) (by decide) (by decide))
  have HM : Hid (∀ y, Calls Try.prog 20 #[.int .i64 n1, .int .i64 0, .int .i64 3] y fun r w' => r = .returned (.int .i64 (M : Int)) ∧ w' = y) := Hid.in (fun y => hM ▸ within_i n1 0 3 y (by decide) (by decide) (by decide))
  generalize wI n0 1 4 = a at a1 a4 HA
  have hall : ∀ K : Nat, K < 6 → kpS a (5 + (K : Int)) (M : Int) = true := fun K hK => by
    have h := kpS_all ⟨(a - 1).toNat, by omega⟩ ⟨K, hK⟩ ⟨M, by omega⟩
    simp only [show 1 + (((a - 1).toNat : Nat) : Int) = a by omega] at h
    exact h
  have HALL := Hid.in hall
  have b1 : ¬ a < 1 := by omega
  have b4 : ¬ a > 4 := by omega
  have b4' : ¬ 4 < a := by omega
  have HR : Hid (rdS a = true) := Hid.in (by simp [rdS]; omega)
  have HLW : Hid (wrS a = true → lgS a 1 = false) := Hid.in (fun h => lgS_alone a 1 (by simpa [wrS] using h) (by decide))
  obtain ⟨D, hD⟩ : ∃ D, dtS a = D := ⟨_, rfl⟩
  have HD := Hid.in hD
  clear hall hM hM3 a1 a4 hD
  go_enter Try.func5, Try.ntmps5
  go_wp2_with fail
  refine (HA.out _).mono ?_
  rintro r w' ⟨rfl, rfl⟩
  go_wp2_with fail
  refine (HM.out _).mono ?_
  rintro r w' ⟨rfl, rfl⟩
  rename World => w
  obtain ⟨W, hW⟩ : ∃ W, w.alloc (.cells #[.int .i64 5, .int .i64 6, .int .i64 7, .int .i64 8, .int .i64 9, .int .i64 10] 3) = W := ⟨_, rfl⟩
  have hBK : W.heap[w.heap.size]? = some (.cells #[.int .i64 5, .int .i64 6, .int .i64 7, .int .i64 8, .int .i64 9, .int .i64 10] 3 (0, 0)) := by rw [← hW]; exact heap_alloc_new _ _
  have HBW : Hid (Below w.heap.size w W) := Hid.in (by rw [← hW]; exact below_alloc _ _)
  have c0 : W.cell? ⟨w.heap.size, 0, none⟩ = some (.int .i64 5) := blk_cell hBK rfl
  have c1 : W.cell? ⟨w.heap.size, 1, none⟩ = some (.int .i64 6) := blk_cell hBK rfl
  have c2 : W.cell? ⟨w.heap.size, 2, none⟩ = some (.int .i64 7) := blk_cell hBK rfl
  have c3 : W.cell? ⟨w.heap.size, 3, none⟩ = some (.int .i64 8) := blk_cell hBK rfl
  have c4 : W.cell? ⟨w.heap.size, 4, none⟩ = some (.int .i64 9) := blk_cell hBK rfl
  have c5 : W.cell? ⟨w.heap.size, 5, none⟩ = some (.int .i64 10) := blk_cell hBK rfl
  have HW := Hid.in hW
  clear hBK hW
  go_wp2_with fail
  rw [HW.out]
  clear HW
  go_loopw [23] (fun v wr => ∃ j : Nat, j ≤ 6 ∧ v = .int .i64 (j : Int) ∧ wr = W) (fun v _ => 10 - (intOf v).toNat)
  case atStart => exact ⟨0, by decide, rfl, rfl⟩
  case round =>
    obtain ⟨j, hj, rfl, hwr⟩ := hrel
    subst hwr
    have hj7 : j = 0 ∨ j = 1 ∨ j = 2 ∨ j = 3 ∨ j = 4 ∨ j = 5 ∨ j = 6 := by omega
    clear hj
    rcases hj7 with rfl | rfl | rfl | rfl | rfl | rfl | rfl
    · have hk := HALL.out 0 (by decide)
      simp only [show (5 : Int) + ((0 : Nat) : Int) = 5 by decide] at hk
      obtain ⟨x, b, hx⟩ : ∃ x b, nxS a 5 (M : Int) = (x, b) := ⟨_, _, rfl⟩
      simp only [kpS, hx] at hk
      rw [HD.out] at hk
      have HX := Hid.in hx
      clear hx
      simp at hk
      obtain ⟨⟨rfl, hl⟩, hwx⟩ := hk
      have HLx := Hid.in hl
      have HWx := Hid.in hwx
      clear hl hwx
      cases b with
      | true =>
        as_aux_lemma =>
          clear c1 c2 c3 c4 c5
          go_wp2_with fail
          refine (stNext_c _ _ _ _ _ HX.out _).mono ?_
          rintro r w' ⟨rfl, rfl⟩
          go_wp2_with fail
          refine (stDirty_e _ true HD.out _).mono ?_
          rintro r w' ⟨rfl, rfl⟩
          go_wp2_with fail
          refine (stDirty_e _ true HD.out _).mono ?_
          rintro r w' ⟨rfl, rfl⟩
          go_wp2_with fail
          refine (stGrant_e 1 false 1 (by decide) _).mono ?_
          rintro r w' ⟨rfl, rfl⟩
          go_wp2_with fail
          refine (stLegal_e x 1 true HLx.out _).mono ?_
          rintro r w' ⟨rfl, rfl⟩
          go_wp2_with fail
          refine (stWrites_e x false HWx.out _).mono ?_
          rintro r w' ⟨rfl, rfl⟩
          go_wp2
          go_roundw
          case rel => exact ⟨1, by decide, by go_num, trivial⟩
          case measure => simp [intOf]
      | false =>
        as_aux_lemma =>
          clear c1 c2 c3 c4 c5
          go_wp2_with fail
          refine (stNext_c _ _ _ _ _ HX.out _).mono ?_
          rintro r w' ⟨rfl, rfl⟩
          go_wp2_with fail
          refine (stDirty_e _ false HD.out _).mono ?_
          rintro r w' ⟨rfl, rfl⟩
          go_wp2_with fail
          refine (stGrant_e 1 false 1 (by decide) _).mono ?_
          rintro r w' ⟨rfl, rfl⟩
          go_wp2_with fail
          refine (stLegal_e x 1 true HLx.out _).mono ?_
          rintro r w' ⟨rfl, rfl⟩
          go_wp2_with fail
          refine (stWrites_e x false HWx.out _).mono ?_
          rintro r w' ⟨rfl, rfl⟩
          go_wp2
          go_roundw
          case rel => exact ⟨1, by decide, by go_num, trivial⟩
          case measure => simp [intOf]
    · have hk := HALL.out 1 (by decide)
      simp only [show (5 : Int) + ((1 : Nat) : Int) = 6 by decide] at hk
      obtain ⟨x, b, hx⟩ : ∃ x b, nxS a 6 (M : Int) = (x, b) := ⟨_, _, rfl⟩
      simp only [kpS, hx] at hk
      rw [HD.out] at hk
      have HX := Hid.in hx
      clear hx
      simp at hk
      obtain ⟨rfl, rfl⟩ := hk
      cases b with
      | true =>
        as_aux_lemma =>
          clear c0 c2 c3 c4 c5
          go_wp2_with fail
          refine (stNext_c _ _ _ _ _ HX.out _).mono ?_
          rintro r w' ⟨rfl, rfl⟩
          go_wp2_with fail
          refine (stDirty_e _ true HD.out _).mono ?_
          rintro r w' ⟨rfl, rfl⟩
          go_wp2_with fail
          refine (stDirty_e _ true HD.out _).mono ?_
          rintro r w' ⟨rfl, rfl⟩
          go_wp2_with fail
          refine (stLegal_e 0 4 true (by decide) _).mono ?_
          rintro r w' ⟨rfl, rfl⟩
          go_wp2
          go_roundw
          case rel => exact ⟨2, by decide, by go_num, trivial⟩
          case measure => simp [intOf]
      | false =>
        as_aux_lemma =>
          clear c0 c2 c3 c4 c5
          go_wp2_with fail
          refine (stNext_c _ _ _ _ _ HX.out _).mono ?_
          rintro r w' ⟨rfl, rfl⟩
          go_wp2_with fail
          refine (stDirty_e _ false HD.out _).mono ?_
          rintro r w' ⟨rfl, rfl⟩
          go_wp2_with fail
          refine (stLegal_e 0 4 true (by decide) _).mono ?_
          rintro r w' ⟨rfl, rfl⟩
          go_wp2
          go_roundw
          case rel => exact ⟨2, by decide, by go_num, trivial⟩
          case measure => simp [intOf]
    · have hk := HALL.out 2 (by decide)
      simp only [show (5 : Int) + ((2 : Nat) : Int) = 7 by decide] at hk
      obtain ⟨x, b, hx⟩ : ∃ x b, nxS a 7 (M : Int) = (x, b) := ⟨_, _, rfl⟩
      simp only [kpS, hx] at hk
      rw [HD.out] at hk
      have HX := Hid.in hx
      clear hx
      simp at hk
      obtain ⟨rfl, rfl⟩ := hk
      cases D with
      | true =>
        as_aux_lemma =>
          clear c0 c1 c3 c4 c5
          go_wp2_with fail
          refine (stNext_c _ _ _ _ _ HX.out _).mono ?_
          rintro r w' ⟨rfl, rfl⟩
          go_wp2_with fail
          refine (stDirty_e _ true HD.out _).mono ?_
          rintro r w' ⟨rfl, rfl⟩
          go_wp2_with fail
          refine (stDirty_e _ true HD.out _).mono ?_
          rintro r w' ⟨rfl, rfl⟩
          go_wp2
          go_roundw
          case rel => exact ⟨3, by decide, by go_num, trivial⟩
          case measure => simp [intOf]
      | false =>
        as_aux_lemma =>
          clear c0 c1 c3 c4 c5
          go_wp2_with fail
          refine (stNext_c _ _ _ _ _ HX.out _).mono ?_
          rintro r w' ⟨rfl, rfl⟩
          go_wp2_with fail
          refine (stDirty_e _ false HD.out _).mono ?_
          rintro r w' ⟨rfl, rfl⟩
          go_wp2
          go_roundw
          case rel => exact ⟨3, by decide, by go_num, trivial⟩
          case measure => simp [intOf]
    · have hk := HALL.out 3 (by decide)
      simp only [show (5 : Int) + ((3 : Nat) : Int) = 8 by decide] at hk
      obtain ⟨x, b, hx⟩ : ∃ x b, nxS a 8 (M : Int) = (x, b) := ⟨_, _, rfl⟩
      simp only [kpS, hx] at hk
      rw [HD.out] at hk
      have HX := Hid.in hx
      clear hx
      simp at hk
      obtain ⟨rfl, rfl⟩ := hk
      cases D with
      | true =>
        as_aux_lemma =>
          clear c0 c1 c2 c4 c5
          go_wp2_with fail
          refine (stNext_c _ _ _ _ _ HX.out _).mono ?_
          rintro r w' ⟨rfl, rfl⟩
          go_wp2_with fail
          refine (stDirty_e _ true HD.out _).mono ?_
          rintro r w' ⟨rfl, rfl⟩
          go_wp2_with fail
          refine (stDirty_e _ true HD.out _).mono ?_
          rintro r w' ⟨rfl, rfl⟩
          go_wp2
          go_roundw
          case rel => exact ⟨4, by decide, by go_num, trivial⟩
          case measure => simp [intOf]
      | false =>
        as_aux_lemma =>
          clear c0 c1 c2 c4 c5
          go_wp2_with fail
          refine (stNext_c _ _ _ _ _ HX.out _).mono ?_
          rintro r w' ⟨rfl, rfl⟩
          go_wp2_with fail
          refine (stDirty_e _ false HD.out _).mono ?_
          rintro r w' ⟨rfl, rfl⟩
          go_wp2
          go_roundw
          case rel => exact ⟨4, by decide, by go_num, trivial⟩
          case measure => simp [intOf]
    · have hk := HALL.out 4 (by decide)
      simp only [show (5 : Int) + ((4 : Nat) : Int) = 9 by decide] at hk
      obtain ⟨x, b, hx⟩ : ∃ x b, nxS a 9 (M : Int) = (x, b) := ⟨_, _, rfl⟩
      simp only [kpS, hx] at hk
      rw [HD.out] at hk
      have HX := Hid.in hx
      clear hx
      simp at hk
      obtain ⟨rfl, rfl⟩ := hk
      cases b with
      | true =>
        as_aux_lemma =>
          clear c0 c1 c2 c3 c5
          go_wp2_with fail
          refine (stNext_c _ _ _ _ _ HX.out _).mono ?_
          rintro r w' ⟨rfl, rfl⟩
          go_wp2_with fail
          refine (stDirty_e _ true HD.out _).mono ?_
          rintro r w' ⟨rfl, rfl⟩
          go_wp2_with fail
          refine (stDirty_e _ true HD.out _).mono ?_
          rintro r w' ⟨rfl, rfl⟩
          go_wp2
          go_roundw
          case rel => exact ⟨5, by decide, by go_num, trivial⟩
          case measure => simp [intOf]
      | false =>
        as_aux_lemma =>
          clear c0 c1 c2 c3 c5
          go_wp2_with fail
          refine (stNext_c _ _ _ _ _ HX.out _).mono ?_
          rintro r w' ⟨rfl, rfl⟩
          go_wp2_with fail
          refine (stDirty_e _ false HD.out _).mono ?_
          rintro r w' ⟨rfl, rfl⟩
          go_wp2
          go_roundw
          case rel => exact ⟨5, by decide, by go_num, trivial⟩
          case measure => simp [intOf]
    · have hk := HALL.out 5 (by decide)
      simp only [show (5 : Int) + ((5 : Nat) : Int) = 10 by decide] at hk
      obtain ⟨x, b, hx⟩ : ∃ x b, nxS a 10 (M : Int) = (x, b) := ⟨_, _, rfl⟩
      simp only [kpS, hx] at hk
      rw [HD.out] at hk
      have HX := Hid.in hx
      clear hx
      simp at hk
      obtain ⟨rfl, rfl⟩ := hk
      cases b with
      | true =>
        as_aux_lemma =>
          clear c0 c1 c2 c3 c4
          go_wp2_with fail
          refine (stNext_c _ _ _ _ _ HX.out _).mono ?_
          rintro r w' ⟨rfl, rfl⟩
          go_wp2_with fail
          refine (stDirty_e _ true HD.out _).mono ?_
          rintro r w' ⟨rfl, rfl⟩
          go_wp2_with fail
          refine (stDirty_e _ true HD.out _).mono ?_
          rintro r w' ⟨rfl, rfl⟩
          go_wp2_with fail
          refine (stLegal_e 0 4 true (by decide) _).mono ?_
          rintro r w' ⟨rfl, rfl⟩
          go_wp2
          go_roundw
          case rel => exact ⟨6, by decide, by go_num, trivial⟩
          case measure => simp [intOf]
      | false =>
        as_aux_lemma =>
          clear c0 c1 c2 c3 c4
          go_wp2_with fail
          refine (stNext_c _ _ _ _ _ HX.out _).mono ?_
          rintro r w' ⟨rfl, rfl⟩
          go_wp2_with fail
          refine (stDirty_e _ false HD.out _).mono ?_
          rintro r w' ⟨rfl, rfl⟩
          go_wp2_with fail
          refine (stLegal_e 0 4 true (by decide) _).mono ?_
          rintro r w' ⟨rfl, rfl⟩
          go_wp2
          go_roundw
          case rel => exact ⟨6, by decide, by go_num, trivial⟩
          case measure => simp [intOf]
    · clear c0 c1 c2 c3 c4 c5 HALL
      cases hwa : wrS a with
      | true =>
        have HWA := Hid.in hwa
        have HLA := Hid.in (HLW.out hwa)
        clear hwa
        go_wp2_with fail
        refine (stReads_e a true HR.out _).mono ?_
        rintro r w' ⟨rfl, rfl⟩
        go_wp2_with fail
        refine (stWrites_e a true HWA.out _).mono ?_
        rintro r w' ⟨rfl, rfl⟩
        go_wp2_with fail
        refine (stLegal_e a 1 false HLA.out _).mono ?_
        rintro r w' ⟨rfl, rfl⟩
        go_wp2_with fail
        refine (stateRuns_any _).mono ?_
        rintro r w' ⟨rfl, rfl⟩
        go_wp2
        go_ret
        exact ⟨rfl, HBW.out⟩
      | false =>
        have HWA := Hid.in hwa
        clear hwa
        go_wp2_with fail
        refine (stReads_e a true HR.out _).mono ?_
        rintro r w' ⟨rfl, rfl⟩
        go_wp2_with fail
        refine (stWrites_e a false HWA.out _).mono ?_
        rintro r w' ⟨rfl, rfl⟩
        go_wp2_with fail
        refine (stateRuns_any _).mono ?_
        rintro r w' ⟨rfl, rfl⟩
        go_wp2
        go_ret
        exact ⟨rfl, HBW.out⟩

end Go.Proofs.Ytkdkbaplfgjkmaa
