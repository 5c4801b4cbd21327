/- DERIVED of the program: GeomRefuses returns true, for every configuration, number and bool. Own work. -/
import Derived.Test.YtgaajnefegjoeabDoorGeoE
namespace Go.Proofs.YtgaajnefegjoeabDoor
open Go.RowKit Go.Extern.Stop Go.Stop Go.Extern

section
variable {k0 k1 k2 k3 k4 k5 k6 k8 : Int}
theorem Small.bits (h : Small k0 k1 k2 k3 k4 k5 k6 k8) : wB k0 1 64 = true ∧ wB k1 1 32 = true ∧ pB k2 = true ∧ pB k3 = true ∧ wB k4 1 8 = true ∧ wB k5 1 8 = true ∧ wB k6 1 64 = true ∧ wB 2 1 15 = true ∧ wB k8 (-1) (IntKind.i64.wrap (2 - 1)) = true := by
  obtain ⟨p0, p1, p2, p3, p4, p5, p6, p8⟩ := h
  refine ⟨wB_yes (by omega), wB_yes (by omega), ?_, ?_, wB_yes (by omega), wB_yes (by omega), wB_yes (by omega), by decide, ?_⟩
  · rcases p2 with rfl | rfl <;> decide
  · rcases p3 with rfl | rfl <;> decide
  · rw [show IntKind.i64.wrap (2 - 1) = 1 from by decide]; exact wB_yes (by omega)
theorem ref0 (_ : Small k0 k1 k2 k3 k4 k5 k6 k8) (n : Int) (hn : wB n 1 64 = false) : fno (bs9 n k1 k2 k3 k4 k5 k6 2 k8) 0 = 0 := by
  simp [bs9, fno, hn]
theorem ref1 (h : Small k0 k1 k2 k3 k4 k5 k6 k8) (n : Int) (hn : wB n 1 32 = false) : fno (bs9 k0 n k2 k3 k4 k5 k6 2 k8) 0 = 1 := by
  obtain ⟨e0, e1, e2, e3, e4, e5, e6, e7, e8⟩ := h.bits
  simp [bs9, fno, hn, e0]
theorem ref2 (h : Small k0 k1 k2 k3 k4 k5 k6 k8) (n : Int) (hn : pB n = false) : fno (bs9 k0 k1 n k3 k4 k5 k6 2 k8) 0 = 2 := by
  obtain ⟨e0, e1, e2, e3, e4, e5, e6, e7, e8⟩ := h.bits
  simp [bs9, fno, hn, e0, e1]
theorem ref3 (h : Small k0 k1 k2 k3 k4 k5 k6 k8) (n : Int) (hn : pB n = false) : fno (bs9 k0 k1 k2 n k4 k5 k6 2 k8) 0 = 3 := by
  obtain ⟨e0, e1, e2, e3, e4, e5, e6, e7, e8⟩ := h.bits
  simp [bs9, fno, hn, e0, e1, e2]
theorem ref4 (h : Small k0 k1 k2 k3 k4 k5 k6 k8) (n : Int) (hn : wB n 1 8 = false) : fno (bs9 k0 k1 k2 k3 n k5 k6 2 k8) 0 = 4 := by
  obtain ⟨e0, e1, e2, e3, e4, e5, e6, e7, e8⟩ := h.bits
  simp [bs9, fno, hn, e0, e1, e2, e3]
theorem ref5 (h : Small k0 k1 k2 k3 k4 k5 k6 k8) (n : Int) (hn : wB n 1 8 = false) : fno (bs9 k0 k1 k2 k3 k4 n k6 2 k8) 0 = 5 := by
  obtain ⟨e0, e1, e2, e3, e4, e5, e6, e7, e8⟩ := h.bits
  simp [bs9, fno, hn, e0, e1, e2, e3, e4]
theorem ref6 (h : Small k0 k1 k2 k3 k4 k5 k6 k8) (n : Int) (hn : wB n 1 64 = false) : fno (bs9 k0 k1 k2 k3 k4 k5 n 2 k8) 0 = 6 := by
  obtain ⟨e0, e1, e2, e3, e4, e5, e6, e7, e8⟩ := h.bits
  simp [bs9, fno, hn, e0, e1, e2, e3, e4, e5]
theorem ref7 (h : Small k0 k1 k2 k3 k4 k5 k6 k8) (n : Int) (hn : wB n 1 15 = false) : fno (bs9 k0 k1 k2 k3 k4 k5 k6 n k8) 0 = 7 := by
  obtain ⟨e0, e1, e2, e3, e4, e5, e6, e7, e8⟩ := h.bits
  simp [bs9, fno, hn, e0, e1, e2, e3, e4, e5, e6]
theorem ref8 (h : Small k0 k1 k2 k3 k4 k5 k6 k8) (n : Int) (hn : wB n (-1) 1 = false) : fno (bs9 k0 k1 k2 k3 k4 k5 k6 2 n) 0 = 8 := by
  obtain ⟨e0, e1, e2, e3, e4, e5, e6, e7, e8⟩ := h.bits
  simp only [bs9, fno, e0, e1, e2, e3, e4, e5, e6, e7, if_true]
  rw [show IntKind.i64.wrap (2 - 1) = 1 from by decide, hn]
  rfl
end

theorem three {w W : World} (h : Below w.heap.size w W) (a b c : Obj) : Below w.heap.size w (((W.alloc a).alloc b).alloc c) :=
  ((h.alloc h.size _).alloc (by have := h.size; simp; omega) _).alloc (by have := h.size; simp; omega) _

set_option maxHeartbeats 8000000 in
set_option maxRecDepth 100000 in
theorem geomRefuses_any (w : World) (sa : Nat → Addr) (hE : Env10 w sa) (c0 c1 c2 c3 c4 c5 c6 c7 c8 which : Int) (high : Bool) :
    Calls Tryd.prog 7 #[cfg c0 c1 c2 c3 c4 c5 c6 c7 c8, .int .i64 which, .bool high] w fun r w' => r = .returned (.bool true) ∧ Below w.heap.size w w' := by
  have HE := Hid.in hE
  clear hE
  obtain ⟨k0, k1, k2, k3, k4, k5, k6, k8, hS, hk⟩ := kConfig_any c0 c1 c2 c3 c4 c5 c6 c7 c8
  have HK := Hid.in hk
  have HS := Hid.in hS
  clear hk hS
  have b1 := wi_le which 0 8 (by omega) (by omega)
  generalize h1 : wi which 0 8 = k at b1
  have H1 := Hid.in h1
  clear h1
  go_enter Tryd.func7, Tryd.ntmps7
  go_wp2_with fail
  refine (HK.out _).mono ?_
  rintro r w1 ⟨rfl, hb1⟩
  have HB1 : Hid (Below w.heap.size w w1) := Hid.in (((Below.refl _ _).alloc (Nat.le_refl _) _).trans (hb1.mono (by simp)))
  clear hb1
  go_wp2_with fail
  refine (within_any which 0 8 _ (by omega) (by omega) (by omega)).mono ?_
  rw [H1.out]
  rintro r w2 ⟨rfl, rfl⟩
  have h9 : k = 0 ∨ k = 1 ∨ k = 2 ∨ k = 3 ∨ k = 4 ∨ k = 5 ∨ k = 6 ∨ k = 7 ∨ k = 8 := by omega
  clear b1 H1 HK
  rcases h9 with rfl | rfl | rfl | rfl | rfl | rfl | rfl | rfl | rfl <;> cases high
  · go_wp2_with fail
    refine (check_any 0 k1 k2 k3 k4 k5 k6 2 k8 _ sa (HE.out.below (three HB1.out _ _ _))).mono ?_
    rw [ref0 HS.out 0 (by decide), show chkV 0 (sa 1) = flt opC 0 (snt (sa 1)) from rfl]
    rintro r w2 ⟨rfl, hb2⟩
    have HB2 := Hid.in (bstep (three HB1.out _ _ _) (Nat.le_refl _) hb2)
    have HC2 := Hid.in (fun o => hb2.cell (p := ⟨w1.heap.size, o, none⟩) (by simp; omega))
    have HL2 : Hid (w1.heap.size < w2.heap.size) := Hid.in (by have := hb2.size; simp at this; omega)
    clear hb2
    go_wp2_with fail
    refine (kIs_flt opC 0 [] 1 (by omega) (by omega) _ sa (HE.out.below HB2.out)).mono ?_
    rintro r w3 ⟨rfl, hb3⟩
    have HB3 := Hid.in (bstep HB2.out (Nat.le_refl _) hb3)
    have hc3 := fun o => (hb3.cell (p := ⟨w1.heap.size, o, none⟩) HL2.out).trans (HC2.out o)
    clear hb3
    go_wp2_with fail
    refine (total_no 0 k1 k2 k3 k4 k5 k6 2 k8 _ sa (HE.out.below HB3.out) (by rw [ref0 HS.out 0 (by decide)]; decide)).mono ?_
    rintro r w4 ⟨rfl, hb4⟩
    have HB4 := Hid.in (bstep HB3.out (Nat.le_refl _) hb4)
    clear hb4 hc3
    go_wp2_with fail
    refine (geomRuns_any _ sa (HE.out.below HB4.out)).mono ?_
    rintro r w5 ⟨rfl, hb5⟩
    have HB5 := Hid.in (bstep HB4.out (Nat.le_refl _) hb5)
    clear hb5
    go_wp2
    go_ret
    exact ⟨rfl, HB5.out⟩
  · go_wp2_with fail
    refine (check_any 65 k1 k2 k3 k4 k5 k6 2 k8 _ sa (HE.out.below (three HB1.out _ _ _))).mono ?_
    rw [ref0 HS.out 65 (by decide), show chkV 0 (sa 1) = flt opC 0 (snt (sa 1)) from rfl]
    rintro r w2 ⟨rfl, hb2⟩
    have HB2 := Hid.in (bstep (three HB1.out _ _ _) (Nat.le_refl _) hb2)
    have HC2 := Hid.in (fun o => hb2.cell (p := ⟨w1.heap.size, o, none⟩) (by simp; omega))
    have HL2 : Hid (w1.heap.size < w2.heap.size) := Hid.in (by have := hb2.size; simp at this; omega)
    clear hb2
    go_wp2_with fail
    refine (kIs_flt opC 0 [] 1 (by omega) (by omega) _ sa (HE.out.below HB2.out)).mono ?_
    rintro r w3 ⟨rfl, hb3⟩
    have HB3 := Hid.in (bstep HB2.out (Nat.le_refl _) hb3)
    have hc3 := fun o => (hb3.cell (p := ⟨w1.heap.size, o, none⟩) HL2.out).trans (HC2.out o)
    clear hb3
    go_wp2_with fail
    refine (total_no 65 k1 k2 k3 k4 k5 k6 2 k8 _ sa (HE.out.below HB3.out) (by rw [ref0 HS.out 65 (by decide)]; decide)).mono ?_
    rintro r w4 ⟨rfl, hb4⟩
    have HB4 := Hid.in (bstep HB3.out (Nat.le_refl _) hb4)
    clear hb4 hc3
    go_wp2_with fail
    refine (geomRuns_any _ sa (HE.out.below HB4.out)).mono ?_
    rintro r w5 ⟨rfl, hb5⟩
    have HB5 := Hid.in (bstep HB4.out (Nat.le_refl _) hb5)
    clear hb5
    go_wp2
    go_ret
    exact ⟨rfl, HB5.out⟩
  · go_wp2_with fail
    refine (check_any k0 0 k2 k3 k4 k5 k6 2 k8 _ sa (HE.out.below (three HB1.out _ _ _))).mono ?_
    rw [ref1 HS.out 0 (by decide), show chkV 1 (sa 1) = flt opC 1 (snt (sa 1)) from rfl]
    rintro r w2 ⟨rfl, hb2⟩
    have HB2 := Hid.in (bstep (three HB1.out _ _ _) (Nat.le_refl _) hb2)
    have HC2 := Hid.in (fun o => hb2.cell (p := ⟨w1.heap.size, o, none⟩) (by simp; omega))
    have HL2 : Hid (w1.heap.size < w2.heap.size) := Hid.in (by have := hb2.size; simp at this; omega)
    clear hb2
    go_wp2_with fail
    refine (kIs_flt opC 1 [] 1 (by omega) (by omega) _ sa (HE.out.below HB2.out)).mono ?_
    rintro r w3 ⟨rfl, hb3⟩
    have HB3 := Hid.in (bstep HB2.out (Nat.le_refl _) hb3)
    have hc3 := fun o => (hb3.cell (p := ⟨w1.heap.size, o, none⟩) HL2.out).trans (HC2.out o)
    clear hb3
    go_wp2_with fail
    refine (total_no k0 0 k2 k3 k4 k5 k6 2 k8 _ sa (HE.out.below HB3.out) (by rw [ref1 HS.out 0 (by decide)]; decide)).mono ?_
    rintro r w4 ⟨rfl, hb4⟩
    have HB4 := Hid.in (bstep HB3.out (Nat.le_refl _) hb4)
    clear hb4 hc3
    go_wp2_with fail
    refine (geomRuns_any _ sa (HE.out.below HB4.out)).mono ?_
    rintro r w5 ⟨rfl, hb5⟩
    have HB5 := Hid.in (bstep HB4.out (Nat.le_refl _) hb5)
    clear hb5
    go_wp2
    go_ret
    exact ⟨rfl, HB5.out⟩
  · go_wp2_with fail
    refine (check_any k0 33 k2 k3 k4 k5 k6 2 k8 _ sa (HE.out.below (three HB1.out _ _ _))).mono ?_
    rw [ref1 HS.out 33 (by decide), show chkV 1 (sa 1) = flt opC 1 (snt (sa 1)) from rfl]
    rintro r w2 ⟨rfl, hb2⟩
    have HB2 := Hid.in (bstep (three HB1.out _ _ _) (Nat.le_refl _) hb2)
    have HC2 := Hid.in (fun o => hb2.cell (p := ⟨w1.heap.size, o, none⟩) (by simp; omega))
    have HL2 : Hid (w1.heap.size < w2.heap.size) := Hid.in (by have := hb2.size; simp at this; omega)
    clear hb2
    go_wp2_with fail
    refine (kIs_flt opC 1 [] 1 (by omega) (by omega) _ sa (HE.out.below HB2.out)).mono ?_
    rintro r w3 ⟨rfl, hb3⟩
    have HB3 := Hid.in (bstep HB2.out (Nat.le_refl _) hb3)
    have hc3 := fun o => (hb3.cell (p := ⟨w1.heap.size, o, none⟩) HL2.out).trans (HC2.out o)
    clear hb3
    go_wp2_with fail
    refine (total_no k0 33 k2 k3 k4 k5 k6 2 k8 _ sa (HE.out.below HB3.out) (by rw [ref1 HS.out 33 (by decide)]; decide)).mono ?_
    rintro r w4 ⟨rfl, hb4⟩
    have HB4 := Hid.in (bstep HB3.out (Nat.le_refl _) hb4)
    clear hb4 hc3
    go_wp2_with fail
    refine (geomRuns_any _ sa (HE.out.below HB4.out)).mono ?_
    rintro r w5 ⟨rfl, hb5⟩
    have HB5 := Hid.in (bstep HB4.out (Nat.le_refl _) hb5)
    clear hb5
    go_wp2
    go_ret
    exact ⟨rfl, HB5.out⟩
  · go_wp2_with fail
    refine (check_any k0 k1 0 k3 k4 k5 k6 2 k8 _ sa (HE.out.below (three HB1.out _ _ _))).mono ?_
    rw [ref2 HS.out 0 (by decide), show chkV 2 (sa 1) = flt opC 2 (snt (sa 1)) from rfl]
    rintro r w2 ⟨rfl, hb2⟩
    have HB2 := Hid.in (bstep (three HB1.out _ _ _) (Nat.le_refl _) hb2)
    have HC2 := Hid.in (fun o => hb2.cell (p := ⟨w1.heap.size, o, none⟩) (by simp; omega))
    have HL2 : Hid (w1.heap.size < w2.heap.size) := Hid.in (by have := hb2.size; simp at this; omega)
    clear hb2
    go_wp2_with fail
    refine (kIs_flt opC 2 [] 1 (by omega) (by omega) _ sa (HE.out.below HB2.out)).mono ?_
    rintro r w3 ⟨rfl, hb3⟩
    have HB3 := Hid.in (bstep HB2.out (Nat.le_refl _) hb3)
    have hc3 := fun o => (hb3.cell (p := ⟨w1.heap.size, o, none⟩) HL2.out).trans (HC2.out o)
    clear hb3
    go_wp2_with fail
    refine (total_no k0 k1 0 k3 k4 k5 k6 2 k8 _ sa (HE.out.below HB3.out) (by rw [ref2 HS.out 0 (by decide)]; decide)).mono ?_
    rintro r w4 ⟨rfl, hb4⟩
    have HB4 := Hid.in (bstep HB3.out (Nat.le_refl _) hb4)
    clear hb4 hc3
    go_wp2_with fail
    refine (geomRuns_any _ sa (HE.out.below HB4.out)).mono ?_
    rintro r w5 ⟨rfl, hb5⟩
    have HB5 := Hid.in (bstep HB4.out (Nat.le_refl _) hb5)
    clear hb5
    go_wp2
    go_ret
    exact ⟨rfl, HB5.out⟩
  · go_wp2_with fail
    refine (check_any k0 k1 16 k3 k4 k5 k6 2 k8 _ sa (HE.out.below (three HB1.out _ _ _))).mono ?_
    rw [ref2 HS.out 16 (by decide), show chkV 2 (sa 1) = flt opC 2 (snt (sa 1)) from rfl]
    rintro r w2 ⟨rfl, hb2⟩
    have HB2 := Hid.in (bstep (three HB1.out _ _ _) (Nat.le_refl _) hb2)
    have HC2 := Hid.in (fun o => hb2.cell (p := ⟨w1.heap.size, o, none⟩) (by simp; omega))
    have HL2 : Hid (w1.heap.size < w2.heap.size) := Hid.in (by have := hb2.size; simp at this; omega)
    clear hb2
    go_wp2_with fail
    refine (kIs_flt opC 2 [] 1 (by omega) (by omega) _ sa (HE.out.below HB2.out)).mono ?_
    rintro r w3 ⟨rfl, hb3⟩
    have HB3 := Hid.in (bstep HB2.out (Nat.le_refl _) hb3)
    have hc3 := fun o => (hb3.cell (p := ⟨w1.heap.size, o, none⟩) HL2.out).trans (HC2.out o)
    clear hb3
    go_wp2_with fail
    refine (total_no k0 k1 16 k3 k4 k5 k6 2 k8 _ sa (HE.out.below HB3.out) (by rw [ref2 HS.out 16 (by decide)]; decide)).mono ?_
    rintro r w4 ⟨rfl, hb4⟩
    have HB4 := Hid.in (bstep HB3.out (Nat.le_refl _) hb4)
    clear hb4 hc3
    go_wp2_with fail
    refine (geomRuns_any _ sa (HE.out.below HB4.out)).mono ?_
    rintro r w5 ⟨rfl, hb5⟩
    have HB5 := Hid.in (bstep HB4.out (Nat.le_refl _) hb5)
    clear hb5
    go_wp2
    go_ret
    exact ⟨rfl, HB5.out⟩
  · go_wp2_with fail
    refine (check_any k0 k1 k2 3 k4 k5 k6 2 k8 _ sa (HE.out.below (three HB1.out _ _ _))).mono ?_
    rw [ref3 HS.out 3 (by decide), show chkV 3 (sa 1) = flt opC 3 (snt (sa 1)) from rfl]
    rintro r w2 ⟨rfl, hb2⟩
    have HB2 := Hid.in (bstep (three HB1.out _ _ _) (Nat.le_refl _) hb2)
    have HC2 := Hid.in (fun o => hb2.cell (p := ⟨w1.heap.size, o, none⟩) (by simp; omega))
    have HL2 : Hid (w1.heap.size < w2.heap.size) := Hid.in (by have := hb2.size; simp at this; omega)
    clear hb2
    go_wp2_with fail
    refine (kIs_flt opC 3 [] 1 (by omega) (by omega) _ sa (HE.out.below HB2.out)).mono ?_
    rintro r w3 ⟨rfl, hb3⟩
    have HB3 := Hid.in (bstep HB2.out (Nat.le_refl _) hb3)
    have hc3 := fun o => (hb3.cell (p := ⟨w1.heap.size, o, none⟩) HL2.out).trans (HC2.out o)
    clear hb3
    go_wp2_with fail
    refine (total_no k0 k1 k2 3 k4 k5 k6 2 k8 _ sa (HE.out.below HB3.out) (by rw [ref3 HS.out 3 (by decide)]; decide)).mono ?_
    rintro r w4 ⟨rfl, hb4⟩
    have HB4 := Hid.in (bstep HB3.out (Nat.le_refl _) hb4)
    clear hb4 hc3
    go_wp2_with fail
    refine (geomRuns_any _ sa (HE.out.below HB4.out)).mono ?_
    rintro r w5 ⟨rfl, hb5⟩
    have HB5 := Hid.in (bstep HB4.out (Nat.le_refl _) hb5)
    clear hb5
    go_wp2
    go_ret
    exact ⟨rfl, HB5.out⟩
  · go_wp2_with fail
    refine (check_any k0 k1 k2 16 k4 k5 k6 2 k8 _ sa (HE.out.below (three HB1.out _ _ _))).mono ?_
    rw [ref3 HS.out 16 (by decide), show chkV 3 (sa 1) = flt opC 3 (snt (sa 1)) from rfl]
    rintro r w2 ⟨rfl, hb2⟩
    have HB2 := Hid.in (bstep (three HB1.out _ _ _) (Nat.le_refl _) hb2)
    have HC2 := Hid.in (fun o => hb2.cell (p := ⟨w1.heap.size, o, none⟩) (by simp; omega))
    have HL2 : Hid (w1.heap.size < w2.heap.size) := Hid.in (by have := hb2.size; simp at this; omega)
    clear hb2
    go_wp2_with fail
    refine (kIs_flt opC 3 [] 1 (by omega) (by omega) _ sa (HE.out.below HB2.out)).mono ?_
    rintro r w3 ⟨rfl, hb3⟩
    have HB3 := Hid.in (bstep HB2.out (Nat.le_refl _) hb3)
    have hc3 := fun o => (hb3.cell (p := ⟨w1.heap.size, o, none⟩) HL2.out).trans (HC2.out o)
    clear hb3
    go_wp2_with fail
    refine (total_no k0 k1 k2 16 k4 k5 k6 2 k8 _ sa (HE.out.below HB3.out) (by rw [ref3 HS.out 16 (by decide)]; decide)).mono ?_
    rintro r w4 ⟨rfl, hb4⟩
    have HB4 := Hid.in (bstep HB3.out (Nat.le_refl _) hb4)
    clear hb4 hc3
    go_wp2_with fail
    refine (geomRuns_any _ sa (HE.out.below HB4.out)).mono ?_
    rintro r w5 ⟨rfl, hb5⟩
    have HB5 := Hid.in (bstep HB4.out (Nat.le_refl _) hb5)
    clear hb5
    go_wp2
    go_ret
    exact ⟨rfl, HB5.out⟩
  · go_wp2_with fail
    refine (check_any k0 k1 k2 k3 0 k5 k6 2 k8 _ sa (HE.out.below (three HB1.out _ _ _))).mono ?_
    rw [ref4 HS.out 0 (by decide), show chkV 4 (sa 1) = flt opC 4 (snt (sa 1)) from rfl]
    rintro r w2 ⟨rfl, hb2⟩
    have HB2 := Hid.in (bstep (three HB1.out _ _ _) (Nat.le_refl _) hb2)
    have HC2 := Hid.in (fun o => hb2.cell (p := ⟨w1.heap.size, o, none⟩) (by simp; omega))
    have HL2 : Hid (w1.heap.size < w2.heap.size) := Hid.in (by have := hb2.size; simp at this; omega)
    clear hb2
    go_wp2_with fail
    refine (kIs_flt opC 4 [] 1 (by omega) (by omega) _ sa (HE.out.below HB2.out)).mono ?_
    rintro r w3 ⟨rfl, hb3⟩
    have HB3 := Hid.in (bstep HB2.out (Nat.le_refl _) hb3)
    have hc3 := fun o => (hb3.cell (p := ⟨w1.heap.size, o, none⟩) HL2.out).trans (HC2.out o)
    clear hb3
    go_wp2_with fail
    refine (total_no k0 k1 k2 k3 0 k5 k6 2 k8 _ sa (HE.out.below HB3.out) (by rw [ref4 HS.out 0 (by decide)]; decide)).mono ?_
    rintro r w4 ⟨rfl, hb4⟩
    have HB4 := Hid.in (bstep HB3.out (Nat.le_refl _) hb4)
    clear hb4 hc3
    go_wp2_with fail
    refine (geomRuns_any _ sa (HE.out.below HB4.out)).mono ?_
    rintro r w5 ⟨rfl, hb5⟩
    have HB5 := Hid.in (bstep HB4.out (Nat.le_refl _) hb5)
    clear hb5
    go_wp2
    go_ret
    exact ⟨rfl, HB5.out⟩
  · go_wp2_with fail
    refine (check_any k0 k1 k2 k3 9 k5 k6 2 k8 _ sa (HE.out.below (three HB1.out _ _ _))).mono ?_
    rw [ref4 HS.out 9 (by decide), show chkV 4 (sa 1) = flt opC 4 (snt (sa 1)) from rfl]
    rintro r w2 ⟨rfl, hb2⟩
    have HB2 := Hid.in (bstep (three HB1.out _ _ _) (Nat.le_refl _) hb2)
    have HC2 := Hid.in (fun o => hb2.cell (p := ⟨w1.heap.size, o, none⟩) (by simp; omega))
    have HL2 : Hid (w1.heap.size < w2.heap.size) := Hid.in (by have := hb2.size; simp at this; omega)
    clear hb2
    go_wp2_with fail
    refine (kIs_flt opC 4 [] 1 (by omega) (by omega) _ sa (HE.out.below HB2.out)).mono ?_
    rintro r w3 ⟨rfl, hb3⟩
    have HB3 := Hid.in (bstep HB2.out (Nat.le_refl _) hb3)
    have hc3 := fun o => (hb3.cell (p := ⟨w1.heap.size, o, none⟩) HL2.out).trans (HC2.out o)
    clear hb3
    go_wp2_with fail
    refine (total_no k0 k1 k2 k3 9 k5 k6 2 k8 _ sa (HE.out.below HB3.out) (by rw [ref4 HS.out 9 (by decide)]; decide)).mono ?_
    rintro r w4 ⟨rfl, hb4⟩
    have HB4 := Hid.in (bstep HB3.out (Nat.le_refl _) hb4)
    clear hb4 hc3
    go_wp2_with fail
    refine (geomRuns_any _ sa (HE.out.below HB4.out)).mono ?_
    rintro r w5 ⟨rfl, hb5⟩
    have HB5 := Hid.in (bstep HB4.out (Nat.le_refl _) hb5)
    clear hb5
    go_wp2
    go_ret
    exact ⟨rfl, HB5.out⟩
  · go_wp2_with fail
    refine (check_any k0 k1 k2 k3 k4 0 k6 2 k8 _ sa (HE.out.below (three HB1.out _ _ _))).mono ?_
    rw [ref5 HS.out 0 (by decide), show chkV 5 (sa 1) = flt opC 5 (snt (sa 1)) from rfl]
    rintro r w2 ⟨rfl, hb2⟩
    have HB2 := Hid.in (bstep (three HB1.out _ _ _) (Nat.le_refl _) hb2)
    have HC2 := Hid.in (fun o => hb2.cell (p := ⟨w1.heap.size, o, none⟩) (by simp; omega))
    have HL2 : Hid (w1.heap.size < w2.heap.size) := Hid.in (by have := hb2.size; simp at this; omega)
    clear hb2
    go_wp2_with fail
    refine (kIs_flt opC 5 [] 1 (by omega) (by omega) _ sa (HE.out.below HB2.out)).mono ?_
    rintro r w3 ⟨rfl, hb3⟩
    have HB3 := Hid.in (bstep HB2.out (Nat.le_refl _) hb3)
    have hc3 := fun o => (hb3.cell (p := ⟨w1.heap.size, o, none⟩) HL2.out).trans (HC2.out o)
    clear hb3
    go_wp2_with fail
    refine (total_no k0 k1 k2 k3 k4 0 k6 2 k8 _ sa (HE.out.below HB3.out) (by rw [ref5 HS.out 0 (by decide)]; decide)).mono ?_
    rintro r w4 ⟨rfl, hb4⟩
    have HB4 := Hid.in (bstep HB3.out (Nat.le_refl _) hb4)
    clear hb4 hc3
    go_wp2_with fail
    refine (geomRuns_any _ sa (HE.out.below HB4.out)).mono ?_
    rintro r w5 ⟨rfl, hb5⟩
    have HB5 := Hid.in (bstep HB4.out (Nat.le_refl _) hb5)
    clear hb5
    go_wp2
    go_ret
    exact ⟨rfl, HB5.out⟩
  · go_wp2_with fail
    refine (check_any k0 k1 k2 k3 k4 9 k6 2 k8 _ sa (HE.out.below (three HB1.out _ _ _))).mono ?_
    rw [ref5 HS.out 9 (by decide), show chkV 5 (sa 1) = flt opC 5 (snt (sa 1)) from rfl]
    rintro r w2 ⟨rfl, hb2⟩
    have HB2 := Hid.in (bstep (three HB1.out _ _ _) (Nat.le_refl _) hb2)
    have HC2 := Hid.in (fun o => hb2.cell (p := ⟨w1.heap.size, o, none⟩) (by simp; omega))
    have HL2 : Hid (w1.heap.size < w2.heap.size) := Hid.in (by have := hb2.size; simp at this; omega)
    clear hb2
    go_wp2_with fail
    refine (kIs_flt opC 5 [] 1 (by omega) (by omega) _ sa (HE.out.below HB2.out)).mono ?_
    rintro r w3 ⟨rfl, hb3⟩
    have HB3 := Hid.in (bstep HB2.out (Nat.le_refl _) hb3)
    have hc3 := fun o => (hb3.cell (p := ⟨w1.heap.size, o, none⟩) HL2.out).trans (HC2.out o)
    clear hb3
    go_wp2_with fail
    refine (total_no k0 k1 k2 k3 k4 9 k6 2 k8 _ sa (HE.out.below HB3.out) (by rw [ref5 HS.out 9 (by decide)]; decide)).mono ?_
    rintro r w4 ⟨rfl, hb4⟩
    have HB4 := Hid.in (bstep HB3.out (Nat.le_refl _) hb4)
    clear hb4 hc3
    go_wp2_with fail
    refine (geomRuns_any _ sa (HE.out.below HB4.out)).mono ?_
    rintro r w5 ⟨rfl, hb5⟩
    have HB5 := Hid.in (bstep HB4.out (Nat.le_refl _) hb5)
    clear hb5
    go_wp2
    go_ret
    exact ⟨rfl, HB5.out⟩
  · go_wp2_with fail
    refine (check_any k0 k1 k2 k3 k4 k5 0 2 k8 _ sa (HE.out.below (three HB1.out _ _ _))).mono ?_
    rw [ref6 HS.out 0 (by decide), show chkV 6 (sa 1) = flt opC 6 (snt (sa 1)) from rfl]
    rintro r w2 ⟨rfl, hb2⟩
    have HB2 := Hid.in (bstep (three HB1.out _ _ _) (Nat.le_refl _) hb2)
    have HC2 := Hid.in (fun o => hb2.cell (p := ⟨w1.heap.size, o, none⟩) (by simp; omega))
    have HL2 : Hid (w1.heap.size < w2.heap.size) := Hid.in (by have := hb2.size; simp at this; omega)
    clear hb2
    go_wp2_with fail
    refine (kIs_flt opC 6 [] 1 (by omega) (by omega) _ sa (HE.out.below HB2.out)).mono ?_
    rintro r w3 ⟨rfl, hb3⟩
    have HB3 := Hid.in (bstep HB2.out (Nat.le_refl _) hb3)
    have hc3 := fun o => (hb3.cell (p := ⟨w1.heap.size, o, none⟩) HL2.out).trans (HC2.out o)
    clear hb3
    go_wp2_with fail
    refine (total_no k0 k1 k2 k3 k4 k5 0 2 k8 _ sa (HE.out.below HB3.out) (by rw [ref6 HS.out 0 (by decide)]; decide)).mono ?_
    rintro r w4 ⟨rfl, hb4⟩
    have HB4 := Hid.in (bstep HB3.out (Nat.le_refl _) hb4)
    clear hb4 hc3
    go_wp2_with fail
    refine (geomRuns_any _ sa (HE.out.below HB4.out)).mono ?_
    rintro r w5 ⟨rfl, hb5⟩
    have HB5 := Hid.in (bstep HB4.out (Nat.le_refl _) hb5)
    clear hb5
    go_wp2
    go_ret
    exact ⟨rfl, HB5.out⟩
  · go_wp2_with fail
    refine (check_any k0 k1 k2 k3 k4 k5 65 2 k8 _ sa (HE.out.below (three HB1.out _ _ _))).mono ?_
    rw [ref6 HS.out 65 (by decide), show chkV 6 (sa 1) = flt opC 6 (snt (sa 1)) from rfl]
    rintro r w2 ⟨rfl, hb2⟩
    have HB2 := Hid.in (bstep (three HB1.out _ _ _) (Nat.le_refl _) hb2)
    have HC2 := Hid.in (fun o => hb2.cell (p := ⟨w1.heap.size, o, none⟩) (by simp; omega))
    have HL2 : Hid (w1.heap.size < w2.heap.size) := Hid.in (by have := hb2.size; simp at this; omega)
    clear hb2
    go_wp2_with fail
    refine (kIs_flt opC 6 [] 1 (by omega) (by omega) _ sa (HE.out.below HB2.out)).mono ?_
    rintro r w3 ⟨rfl, hb3⟩
    have HB3 := Hid.in (bstep HB2.out (Nat.le_refl _) hb3)
    have hc3 := fun o => (hb3.cell (p := ⟨w1.heap.size, o, none⟩) HL2.out).trans (HC2.out o)
    clear hb3
    go_wp2_with fail
    refine (total_no k0 k1 k2 k3 k4 k5 65 2 k8 _ sa (HE.out.below HB3.out) (by rw [ref6 HS.out 65 (by decide)]; decide)).mono ?_
    rintro r w4 ⟨rfl, hb4⟩
    have HB4 := Hid.in (bstep HB3.out (Nat.le_refl _) hb4)
    clear hb4 hc3
    go_wp2_with fail
    refine (geomRuns_any _ sa (HE.out.below HB4.out)).mono ?_
    rintro r w5 ⟨rfl, hb5⟩
    have HB5 := Hid.in (bstep HB4.out (Nat.le_refl _) hb5)
    clear hb5
    go_wp2
    go_ret
    exact ⟨rfl, HB5.out⟩
  · go_wp2_with fail
    refine (check_any k0 k1 k2 k3 k4 k5 k6 0 k8 _ sa (HE.out.below (three HB1.out _ _ _))).mono ?_
    rw [ref7 HS.out 0 (by decide), show chkV 7 (sa 1) = flt opC 7 (snt (sa 1)) from rfl]
    rintro r w2 ⟨rfl, hb2⟩
    have HB2 := Hid.in (bstep (three HB1.out _ _ _) (Nat.le_refl _) hb2)
    have HC2 := Hid.in (fun o => hb2.cell (p := ⟨w1.heap.size, o, none⟩) (by simp; omega))
    have HL2 : Hid (w1.heap.size < w2.heap.size) := Hid.in (by have := hb2.size; simp at this; omega)
    clear hb2
    go_wp2_with fail
    refine (kIs_flt opC 7 [] 1 (by omega) (by omega) _ sa (HE.out.below HB2.out)).mono ?_
    rintro r w3 ⟨rfl, hb3⟩
    have HB3 := Hid.in (bstep HB2.out (Nat.le_refl _) hb3)
    have hc3 := fun o => (hb3.cell (p := ⟨w1.heap.size, o, none⟩) HL2.out).trans (HC2.out o)
    clear hb3
    go_wp2_with fail
    refine (total_no k0 k1 k2 k3 k4 k5 k6 0 k8 _ sa (HE.out.below HB3.out) (by rw [ref7 HS.out 0 (by decide)]; decide)).mono ?_
    rintro r w4 ⟨rfl, hb4⟩
    have HB4 := Hid.in (bstep HB3.out (Nat.le_refl _) hb4)
    clear hb4 hc3
    go_wp2_with fail
    refine (geomRuns_any _ sa (HE.out.below HB4.out)).mono ?_
    rintro r w5 ⟨rfl, hb5⟩
    have HB5 := Hid.in (bstep HB4.out (Nat.le_refl _) hb5)
    clear hb5
    go_wp2
    go_ret
    exact ⟨rfl, HB5.out⟩
  · go_wp2_with fail
    refine (check_any k0 k1 k2 k3 k4 k5 k6 16 k8 _ sa (HE.out.below (three HB1.out _ _ _))).mono ?_
    rw [ref7 HS.out 16 (by decide), show chkV 7 (sa 1) = flt opC 7 (snt (sa 1)) from rfl]
    rintro r w2 ⟨rfl, hb2⟩
    have HB2 := Hid.in (bstep (three HB1.out _ _ _) (Nat.le_refl _) hb2)
    have HC2 := Hid.in (fun o => hb2.cell (p := ⟨w1.heap.size, o, none⟩) (by simp; omega))
    have HL2 : Hid (w1.heap.size < w2.heap.size) := Hid.in (by have := hb2.size; simp at this; omega)
    clear hb2
    go_wp2_with fail
    refine (kIs_flt opC 7 [] 1 (by omega) (by omega) _ sa (HE.out.below HB2.out)).mono ?_
    rintro r w3 ⟨rfl, hb3⟩
    have HB3 := Hid.in (bstep HB2.out (Nat.le_refl _) hb3)
    have hc3 := fun o => (hb3.cell (p := ⟨w1.heap.size, o, none⟩) HL2.out).trans (HC2.out o)
    clear hb3
    go_wp2_with fail
    refine (total_no k0 k1 k2 k3 k4 k5 k6 16 k8 _ sa (HE.out.below HB3.out) (by rw [ref7 HS.out 16 (by decide)]; decide)).mono ?_
    rintro r w4 ⟨rfl, hb4⟩
    have HB4 := Hid.in (bstep HB3.out (Nat.le_refl _) hb4)
    clear hb4 hc3
    go_wp2_with fail
    refine (geomRuns_any _ sa (HE.out.below HB4.out)).mono ?_
    rintro r w5 ⟨rfl, hb5⟩
    have HB5 := Hid.in (bstep HB4.out (Nat.le_refl _) hb5)
    clear hb5
    go_wp2
    go_ret
    exact ⟨rfl, HB5.out⟩
  · go_wp2_with fail
    refine (check_any k0 k1 k2 k3 k4 k5 k6 2 (-2) _ sa (HE.out.below (three HB1.out _ _ _))).mono ?_
    rw [ref8 HS.out (-2) (by decide), show chkV 8 (sa 1) = flt opC 8 (snt (sa 1)) from rfl]
    rintro r w2 ⟨rfl, hb2⟩
    have HB2 := Hid.in (bstep (three HB1.out _ _ _) (Nat.le_refl _) hb2)
    have HC2 := Hid.in (fun o => hb2.cell (p := ⟨w1.heap.size, o, none⟩) (by simp; omega))
    have HL2 : Hid (w1.heap.size < w2.heap.size) := Hid.in (by have := hb2.size; simp at this; omega)
    clear hb2
    go_wp2_with fail
    refine (kIs_flt opC 8 [] 1 (by omega) (by omega) _ sa (HE.out.below HB2.out)).mono ?_
    rintro r w3 ⟨rfl, hb3⟩
    have HB3 := Hid.in (bstep HB2.out (Nat.le_refl _) hb3)
    have hc3 := fun o => (hb3.cell (p := ⟨w1.heap.size, o, none⟩) HL2.out).trans (HC2.out o)
    clear hb3
    go_wp2_with fail
    refine (total_no k0 k1 k2 k3 k4 k5 k6 2 (-2) _ sa (HE.out.below HB3.out) (by rw [ref8 HS.out (-2) (by decide)]; decide)).mono ?_
    rintro r w4 ⟨rfl, hb4⟩
    have HB4 := Hid.in (bstep HB3.out (Nat.le_refl _) hb4)
    clear hb4 hc3
    go_wp2_with fail
    refine (geomRuns_any _ sa (HE.out.below HB4.out)).mono ?_
    rintro r w5 ⟨rfl, hb5⟩
    have HB5 := Hid.in (bstep HB4.out (Nat.le_refl _) hb5)
    clear hb5
    go_wp2
    go_ret
    exact ⟨rfl, HB5.out⟩
  · go_wp2_with fail
    refine (check_any k0 k1 k2 k3 k4 k5 k6 2 2 _ sa (HE.out.below (three HB1.out _ _ _))).mono ?_
    rw [ref8 HS.out 2 (by decide), show chkV 8 (sa 1) = flt opC 8 (snt (sa 1)) from rfl]
    rintro r w2 ⟨rfl, hb2⟩
    have HB2 := Hid.in (bstep (three HB1.out _ _ _) (Nat.le_refl _) hb2)
    have HC2 := Hid.in (fun o => hb2.cell (p := ⟨w1.heap.size, o, none⟩) (by simp; omega))
    have HL2 : Hid (w1.heap.size < w2.heap.size) := Hid.in (by have := hb2.size; simp at this; omega)
    clear hb2
    go_wp2_with fail
    refine (kIs_flt opC 8 [] 1 (by omega) (by omega) _ sa (HE.out.below HB2.out)).mono ?_
    rintro r w3 ⟨rfl, hb3⟩
    have HB3 := Hid.in (bstep HB2.out (Nat.le_refl _) hb3)
    have hc3 := fun o => (hb3.cell (p := ⟨w1.heap.size, o, none⟩) HL2.out).trans (HC2.out o)
    clear hb3
    go_wp2_with fail
    refine (total_no k0 k1 k2 k3 k4 k5 k6 2 2 _ sa (HE.out.below HB3.out) (by rw [ref8 HS.out 2 (by decide)]; decide)).mono ?_
    rintro r w4 ⟨rfl, hb4⟩
    have HB4 := Hid.in (bstep HB3.out (Nat.le_refl _) hb4)
    clear hb4 hc3
    go_wp2_with fail
    refine (geomRuns_any _ sa (HE.out.below HB4.out)).mono ?_
    rintro r w5 ⟨rfl, hb5⟩
    have HB5 := Hid.in (bstep HB4.out (Nat.le_refl _) hb5)
    clear hb5
    go_wp2
    go_ret
    exact ⟨rfl, HB5.out⟩
end Go.Proofs.YtgaajnefegjoeabDoor
