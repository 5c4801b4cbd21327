/- DERIVED of the program: geom.Total; GeomRuns returns true. Own work. -/
import Derived.Test.YtgaajnefegjoeabDoorGeoB
namespace Go.Proofs.YtgaajnefegjoeabDoor
open Go.RowKit Go.Extern.Stop Go.Stop Go.Extern

/-- geom.Total of what Check takes, and of what it doesn't. -/
theorem total_yes (c0 c1 c2 c3 c4 c5 c6 c7 c8 : Int) (w : World) (sa : Nat → Addr) (hE : Env10 w sa) (h : fno (bs9 c0 c1 c2 c3 c4 c5 c6 c7 c8) 0 = -1) (hl : 1 ≤ c1 ∧ c1 ≤ 32) :
    Calls Tryd.prog 17 #[cfg c0 c1 c2 c3 c4 c5 c6 c7 c8] w fun r w' => r = .returned (.int .i64 (c1 * 4)) ∧ Below w.heap.size w w' := by
  have HC := Hid.in (check_any c0 c1 c2 c3 c4 c5 c6 c7 c8 (w.alloc (.cells #[.int .i64 c0, .int .i64 c1, .int .i64 c2, .int .i64 c3, .int .i64 c4, .int .i64 c5, .int .i64 c6, .int .i64 c7, .int .i64 c8] 26)) sa (hE.below ((Below.refl _ _).alloc (Nat.le_refl _) _)))
  rw [h] at HC
  obtain ⟨l1, l2⟩ := hl
  clear h hE
  go_enter Tryd.func17, Tryd.ntmps17
  go_wp2_with fail
  refine HC.out.mono ?_
  rintro r w1 ⟨rfl, hb⟩
  rw [show chkV (-1) (sa 1) = .nilIface from rfl]
  have k1 : w1.cell? ⟨w.heap.size, 1, none⟩ = some (.int .i64 c1) := (hb.cell (p := ⟨w.heap.size, 1, none⟩) (by simp)).trans (by simp)
  have HB : Hid (Below w.heap.size w w1) := Hid.in (((Below.refl _ _).alloc (Nat.le_refl _) _).trans (hb.mono (by simp)))
  clear hb
  go_wp2
  go_ret
  exact ⟨rfl, HB.out⟩
theorem total_no (c0 c1 c2 c3 c4 c5 c6 c7 c8 : Int) (w : World) (sa : Nat → Addr) (hE : Env10 w sa) (h : 0 ≤ fno (bs9 c0 c1 c2 c3 c4 c5 c6 c7 c8) 0) :
    Calls Tryd.prog 17 #[cfg c0 c1 c2 c3 c4 c5 c6 c7 c8] w fun r w' => r = .returned (.int .i64 0) ∧ Below w.heap.size w w' := by
  have HC := Hid.in (check_any c0 c1 c2 c3 c4 c5 c6 c7 c8 (w.alloc (.cells #[.int .i64 c0, .int .i64 c1, .int .i64 c2, .int .i64 c3, .int .i64 c4, .int .i64 c5, .int .i64 c6, .int .i64 c7, .int .i64 c8] 26)) sa (hE.below ((Below.refl _ _).alloc (Nat.le_refl _) _)))
  have HV : Hid (chkV (fno (bs9 c0 c1 c2 c3 c4 c5 c6 c7 c8) 0) (sa 1) = flt opC (fno (bs9 c0 c1 c2 c3 c4 c5 c6 c7 c8) 0) (snt (sa 1))) := Hid.in (by rw [chkV, if_neg (by omega)])
  clear h hE
  go_enter Tryd.func17, Tryd.ntmps17
  go_wp2_with fail
  refine HC.out.mono ?_
  rintro r w1 ⟨rfl, hb⟩
  rw [HV.out]
  have HB : Hid (Below w.heap.size w w1) := Hid.in (((Below.refl _ _).alloc (Nat.le_refl _) _).trans (hb.mono (by simp)))
  clear hb
  go_wp2
  go_ret
  exact ⟨rfl, HB.out⟩

theorem geomRuns_any (w : World) (sa : Nat → Addr) (hE : Env10 w sa) :
    Calls Tryd.prog 3 #[] w fun r w' => r = .returned (.bool true) ∧ Below w.heap.size w w' := by
  have HE := Hid.in hE
  clear hE
  go_enter Tryd.func3, Tryd.ntmps3
  go_wp2_with fail
  refine (check_any 1 1 3 1 1 1 1 1 0 _ sa HE.out).mono ?_
  rw [show chkV (fno (bs9 1 1 3 1 1 1 1 1 0) 0) (sa 1) = flt opC 2 (snt (sa 1)) from rfl]
  rintro r w1 ⟨rfl, hb⟩
  have HB := Hid.in hb
  clear hb
  go_wp2_with fail
  refine (line_any 9 _).mono ?_
  rw [show lineF 9 = 2 from rfl]
  rintro r w' ⟨rfl, rfl⟩
  go_wp2_with fail
  refine (word_any 9 _).mono ?_
  rw [show wordF 9 = 1 from rfl]
  rintro r w' ⟨rfl, rfl⟩
  go_wp2_with fail
  refine (addr_any 2 1 _).mono ?_
  rw [show addrF 2 1 = 9 from rfl]
  rintro r w' ⟨rfl, rfl⟩
  go_wp2_with fail
  refine (set_any 5 4 _).mono ?_
  rw [show setF 5 4 = 1 from rfl]
  rintro r w' ⟨rfl, rfl⟩
  go_wp2_with fail
  refine (area_any 5 _).mono ?_
  rw [show areaF 5 = 1 from rfl]
  rintro r w' ⟨rfl, rfl⟩
  go_wp2_with fail
  refine (line_any 128 _).mono ?_
  rw [show lineF 128 = -1 from rfl]
  rintro r w' ⟨rfl, rfl⟩
  go_wp2_with fail
  refine (kIs_flt opC 2 [] 1 (by omega) (by omega) _ sa (HE.out.below HB.out)).mono ?_
  rintro r w2 ⟨rfl, hb2⟩
  have HB2 := Hid.in (bstep HB.out (Nat.le_refl _) hb2)
  clear hb2
  go_wp2
  go_ret
  exact ⟨rfl, HB2.out⟩
end Go.Proofs.YtgaajnefegjoeabDoor
