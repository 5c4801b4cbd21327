/- DERIVED of the program: MsgRuns returns true. Own work. -/
import Derived.Test.YtgepfbaojogccaaDoorSgG
import Derived.Test.YtgepfbaojogccaaDoorSgH
namespace Go.Proofs.YtgepfbaojogccaaDoor
open Go.RowKit Go.Extern.Stop Go.Stop Go.Extern

theorem sPut_ok (m : M13) (w : World) (h32 : M32 m) (hr : rtP m) : Calls Tryd.prog 9 #[.agg (mv m)] w fun r w' => ∃ ao N cap, r = .returned (.slice ao N cap) ∧ N = (encM m).length ∧ Lie w' ao cap (encM m) ∧ Below w.heap.size w w' := by
  have h := sPut_any m w h32 (rtP_64 m hr)
  rw [if_pos ((rtB_iff m).2 hr)] at h
  exact h

theorem runs_bytes : encM (3, 1, 2, 0, 0, 0, 3, 4, 0, 0, 0, 0, false) = [6, 2, 4, 6, 8] := by
  have h1 : enc (zz 1) = [2] := enc_lt (by decide)
  have h2 : enc (zz 2) = [4] := enc_lt (by decide)
  have h3 : enc (zz 3) = [6] := enc_lt (by decide)
  have h4 : enc (zz 4) = [8] := enc_lt (by decide)
  rw [encM_U (.inl rfl)]
  simp [h1, h2, h3, h4]
theorem runs_right : rtP (3, 1, 2, 0, 0, 0, 3, 4, 0, 0, 0, 0, false) := by simp [rtP]
theorem runs_short : gotM [6, 2, 4, 6] = (3, zero13) := by
  have h : endS [6, 2, 4, 6] (getM [6, 2, 4, 6]).1.2 (getM [6, 2, 4, 6]).1.1 = 3 := by decide +kernel
  unfold gotM
  rw [h, if_pos (by decide)]
theorem runs_form : gotM [26, 2, 4, 0, 0, 6, 0] = (4, zero13) := by
  have h : endS [26, 2, 4, 0, 0, 6, 0] (getM [26, 2, 4, 0, 0, 6, 0]).1.2 (getM [26, 2, 4, 0, 0, 6, 0]).1.1 = 0 := by decide +kernel
  have h2 : (getM [26, 2, 4, 0, 0, 6, 0]).2 = (13, 1, 2, 3, 0, 0, 0, 0, 0, 0, 0, 0, false) := by kernel_rfl
  unfold gotM
  rw [h, if_neg (by decide), rtB_no _ (by rw [h2]; simp [rtP]), if_neg (by decide)]

set_option maxHeartbeats 1600000 in
set_option maxRecDepth 20000 in
theorem msgRuns_any (w : World) (sa : Nat → Addr) (hE : Env10 w sa) : Calls Tryd.prog 3 #[] w fun r w' => r = .returned (.bool true) ∧ Below w.heap.size w w' := by
  have HE := Hid.in hE
  have h1 := sPut_ok _ w (by simp [M32]) runs_right
  rw [runs_bytes] at h1
  simp only [mv] at h1
  clear hE
  go_enter Tryd.func3, Tryd.ntmps3
  go_wp2_with fail
  refine h1.mono ?_
  rintro r w1 ⟨a1, M1, c1, rfl, hM1, hL1, hb1⟩
  have HM1 := Hid.in hM1
  have HL1 := Hid.in hL1
  have HB1 := Hid.in hb1
  clear h1 hM1 hL1 hb1
  have h2 := fun w2 hE2 hL2 => sGet_any (some ⟨w1.heap.size, 0, none⟩) 4 4 [6, 2, 4, 6] w2 sa hE2 rfl hL2 (by decide) (by decide)
  rw [runs_short] at h2
  simp only [mv, zero13] at h2
  go_wp2_with fail
  refine (h2 _ (HE.out.below (bstep HB1.out (Nat.le_refl _) (below_alloc _ _))) (Lie.lit _ _ _ _ rfl)).mono ?_
  rintro r w2 ⟨l2, rfl, hb2, _⟩
  have HL2 := Hid.in (HL1.out.step (bstep (below_alloc w1 _) (Nat.le_refl _) hb2))
  have HB2 := Hid.in (bstep HB1.out (Nat.le_refl _) (bstep (below_alloc w1 _) (Nat.le_refl _) hb2))
  clear h2 hb2 HL1 HB1
  have HL3 := Hid.in (HL2.out.step (below_alloc w2 (.cells #[.int .i64 0, .int .i64 0, .int .i64 0, .int .i64 0, .int .i64 0, .int .i64 0, .int .i64 0, .int .u32 0, .int .u32 0, .int .u32 0, .int .u32 0, .int .u32 0, .bool false] 28)))
  have HB3 := Hid.in (bstep HB2.out (Nat.le_refl _) (below_alloc w2 (.cells #[.int .i64 0, .int .i64 0, .int .i64 0, .int .i64 0, .int .i64 0, .int .i64 0, .int .i64 0, .int .u32 0, .int .u32 0, .int .u32 0, .int .u32 0, .int .u32 0, .bool false] 28)))
  have h3 := fun w2 a hE2 hL2 => sGet_any (some ⟨a, 0, none⟩) 7 7 [26, 2, 4, 0, 0, 6, 0] w2 sa hE2 rfl hL2 (by decide) (by decide)
  rw [runs_form] at h3
  simp only [mv, zero13] at h3
  go_upto_region 3 with fail
  generalize hX : w2.alloc (.cells #[.int .i64 0, .int .i64 0, .int .i64 0, .int .i64 0, .int .i64 0, .int .i64 0, .int .i64 0, .int .u32 0, .int .u32 0, .int .u32 0, .int .u32 0, .int .u32 0, .bool false] 28) = X at *
  clear hX
  go_wp2_with fail
  refine (h3 _ X.heap.size (HE.out.below (bstep HB3.out (Nat.le_refl _) (below_alloc _ _))) (Lie.lit _ _ _ _ rfl)).mono ?_
  rintro r w4 ⟨l4, rfl, hb4, _⟩
  have HL4 := Hid.in (HL3.out.step (bstep (below_alloc X _) (Nat.le_refl _) hb4))
  have HB4 := Hid.in (bstep HB3.out (Nat.le_refl _) (bstep (below_alloc X _) (Nat.le_refl _) hb4))
  clear h3 hb4 HL3 HB3 HL2 HB2
  have HL5 := Hid.in (HL4.out.step (below_alloc w4 (.cells #[.int .i64 0, .int .i64 0, .int .i64 0, .int .i64 0, .int .i64 0, .int .i64 0, .int .i64 0, .int .u32 0, .int .u32 0, .int .u32 0, .int .u32 0, .int .u32 0, .bool false] 28)))
  have HB5 := Hid.in (bstep HB4.out (Nat.le_refl _) (below_alloc w4 (.cells #[.int .i64 0, .int .i64 0, .int .i64 0, .int .i64 0, .int .i64 0, .int .i64 0, .int .i64 0, .int .u32 0, .int .u32 0, .int .u32 0, .int .u32 0, .int .u32 0, .bool false] 28)))
  go_upto_region 4 with fail
  generalize hX : w4.alloc (.cells #[.int .i64 0, .int .i64 0, .int .i64 0, .int .i64 0, .int .i64 0, .int .i64 0, .int .i64 0, .int .u32 0, .int .u32 0, .int .u32 0, .int .u32 0, .int .u32 0, .bool false] 28) = Y at *
  clear hX HL4 HB4
  go_wp2_with fail
  refine (same_any _ _ _ _ _ _ [6, 2, 4, 6, 8] [6, 2, 4, 6, 8] _ HM1.out rfl (HL5.out.step (below_alloc _ _)) (Lie.lit _ _ _ _ rfl) (by decide)).mono ?_
  rintro r w6 ⟨rfl, hb6⟩
  have HB6 := Hid.in (bstep HB5.out (Nat.le_refl _) (bstep (below_alloc Y _) (Nat.le_refl _) hb6))
  clear hb6
  go_wp2_with fail
  refine (kIs_flt opSGet 0 l2 3 (by omega) (by omega) w6 sa (HE.out.below HB6.out)).mono ?_
  rintro r w7 ⟨rfl, hb7⟩
  have HB7 := Hid.in (bstep HB6.out (Nat.le_refl _) hb7)
  clear hb7
  go_wp2_with fail
  refine (kIs_flt opSGet 0 l4 4 (by omega) (by omega) w7 sa (HE.out.below HB7.out)).mono ?_
  rintro r w8 ⟨rfl, hb8⟩
  have HB8 := Hid.in (bstep HB7.out (Nat.le_refl _) hb8)
  clear hb8
  go_wp2
  go_ret
  exact ⟨rfl, HB8.out⟩

end Go.Proofs.YtgepfbaojogccaaDoor
