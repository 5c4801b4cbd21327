/- DERIVED of the program: FabricRuns answers true. Own work. -/
import Derived.Test.YtmgmjklnibmacaaDoorFbI
namespace Go.Proofs.YtmgmjklnibmacaaDoor
open Go.RowKit Go.Extern.Stop Go.Stop Go.Extern

theorem inB1 {m : M13} (h : M32 m ∧ M64 m) : InB [m] := fun x hx => by obtain rfl := List.mem_singleton.1 hx; exact h
theorem runs_a : fitsF 2 1 (noneF 2) [ofM 1 0] = (0, 0) :=
  fitsF_ok (badF_none (fun j m hm => by
    have := List.mem_of_getElem? hm
    obtain rfl := List.mem_singleton.1 this
    exact ofM_ok (.inl rfl) (by omega) (by omega) (by omega))) (by rfl)
theorem runs_a' : sentF 2 1 (noneF 2) [ofM 1 0] = [[ofM 1 0], [], [], [], [], []] := by rw [sentF_ok (by rw [runs_a])]; rfl
theorem runs_b : fitsF 2 1 [[ofM 1 0], [], [], [], [], []] [ofM 1 1] = (6, 0) :=
  fitsF_full (badF_none (fun j m hm => by
    have := List.mem_of_getElem? hm
    obtain rfl := List.mem_singleton.1 this
    exact ofM_ok (.inl rfl) (by omega) (by omega) (by omega))) (by rfl)
theorem runs_b' : sentF 2 1 [[ofM 1 0], [], [], [], [], []] [ofM 1 1] = [[ofM 1 0], [], [], [], [], []] := sentF_no (by rw [runs_b]; decide)
theorem runs_c : fitsF 2 1 [[], [], [], [], [], []] [ofM 6 0, ofM 6 1, ofM 6 0] = (6, 2) :=
  fitsF_full (badF_none (fun j m hm => by
    have := List.mem_of_getElem? hm
    simp only [List.mem_cons, List.not_mem_nil, or_false] at this
    rcases this with rfl | rfl | rfl <;> exact ofM_ok (by simp) (by omega) (by omega) (by omega))) (by rfl)
theorem runs_c' : sentF 2 1 [[], [], [], [], [], []] [ofM 6 0, ofM 6 1, ofM 6 0] = [[], [], [], [], [], []] := sentF_no (by rw [runs_c]; decide)
theorem runs_in : InB [ofM 6 0, ofM 6 1, ofM 6 0] := fun m hm => by
  simp only [List.mem_cons, List.not_mem_nil, or_false] at hm
  rcases hm with rfl | rfl | rfl <;> exact ofM_in _ _ (by omega) (by omega) (by omega)

set_option maxHeartbeats 1600000 in
set_option maxRecDepth 20000 in
theorem fabricRuns_any (w : World) (sa : Nat → Addr) (hE : Env10 w sa) : Calls Tryd.prog 3 #[] w fun r w' => r = .returned (.bool true) ∧ Below w.heap.size w w' := by
  have HE := Hid.in hE
  clear hE
  go_enter Tryd.func3, Tryd.ntmps3
  go_wp2_with fail
  refine (lvnew_c w 2 1 (by omega) (by omega) (by omega) (by omega)).mono ?_
  rintro r w1 ⟨q, S1, rfl, h1⟩
  have H1 := Hid.in h1
  clear h1
  go_wp2_with fail
  refine (fbof_c 1 0 _).mono ?_
  rintro r w2 ⟨rfl, hb2⟩
  have H2 := Hid.in (H1.out.step hb2)
  clear hb2 H1
  go_wp2_with (first | (refine wpList_build1 rfl (.tmp 20) rfl (ofM 1 0) rfl ?_) | fail)
  refine (lvsend_c w w2 sa HE.out q 2 1 S1 _ H2.out [ofM 1 0] (inB1 (ofM_in _ _ (by omega) (by omega) (by omega))) 1 rfl (by omega) 0 0 0 rfl _ runs_a runs_a').mono ?_
  rintro r w3 ⟨rfl, S3, h3, _⟩
  rw [perr_none]
  have H3 := Hid.in h3
  clear h3 H2
  go_wp2_with fail
  refine (fbof_c 1 1 _).mono ?_
  rintro r w4 ⟨rfl, hb4⟩
  have H4 := Hid.in (H3.out.step hb4)
  clear hb4 H3
  go_wp2_with (first | (refine wpList_build1 rfl (.tmp 24) rfl (ofM 1 1) rfl ?_) | fail)
  refine (lvsend_c w w4 sa HE.out q 2 1 S3 _ H4.out [ofM 1 1] (inB1 (ofM_in _ _ (by omega) (by omega) (by omega))) 1 rfl (by omega) 6 0 0 rfl _ runs_b runs_b').mono ?_
  rintro r w5 ⟨rfl, S5, h5, _⟩
  have H5 := Hid.in h5
  clear h5 H4
  obtain ⟨vb, hvb⟩ : ∃ v, perr sa 6 opFSend 0 = v := ⟨_, rfl⟩
  have HVb := Hid.in hvb
  rw [hvb]
  clear hvb
  go_wp2_with fail
  refine (lvtake_c w w5 q 2 1 S5 _ H5.out 0 5 0 (ofM 1 0) true rfl [[], [], [], [], [], []] rfl).mono ?_
  rintro r w6 ⟨rfl, S6, h6, _⟩
  have H6 := Hid.in h6
  clear h6 H5
  go_upto_region 6 with (first | (refine wpList_store_mid rfl 32 (.tmp 5) (.tmp 30) rfl w6.heap.size 0 (mv (ofM 1 0)) rfl rfl (there_zero w6 (ofM 1 0)) (Tryd.sizeMv _) (mv_one _) ?_; generalize hW : (w6.alloc _).setCells w6.heap.size 0 (mv (ofM 1 0)).toList = W) | fail)
  have HR : Hid (W.rangeAt w6.heap.size 0 (mc (ofM 1 0))) := Hid.in (by rw [← hW]; exact World.rangeAt_setCells_same _ _ _ _ (by rw [Array.length_toList]; exact there_zero w6 (ofM 1 0)))
  have hg : w6.grownBy W (some w6.heap.size) := by rw [← hW]; exact grown_trans' (grown_of_below (below_alloc _ _) _) (grown_setCells _ _ _ _)
  have H7 := Hid.in (H6.out.step ⟨hg.os, hg.tape, hg.output, hg.size, fun k hk => hg.block k hk (fun e => by cases e; omega)⟩)
  have HN6 : Hid (w6.heap.size ∉ S6) := Hid.in (H6.out.f.far (Nat.le_refl _))
  clear hW hg H6
  have hA : Calls Tryd.prog 13 #[.pointer (some ⟨q, 0, none⟩)] W fun r w' => r = .returned (.int .i64 0) ∧ w' = W := fball_c W q 2 1 S6 _ H7.out.f 0 rfl
  have HA := Hid.in hA
  clear hA
  go_wp2_with fail
  refine HA.out.mono ?_
  rintro r w8 ⟨rfl, rfl⟩
  clear HA
  go_wp2_with fail
  refine (fbof_c 6 0 _).mono ?_
  rintro r w9 ⟨rfl, hb9⟩
  go_wp2_with fail
  refine (fbof_c 6 1 _).mono ?_
  rintro r w10 ⟨rfl, hb10⟩
  go_wp2_with fail
  refine (fbof_c 6 0 _).mono ?_
  rintro r w11 ⟨rfl, hb11⟩
  have hbs := bstep (bstep hb9 (Nat.le_refl _) hb10) (Nat.le_refl _) hb11
  have HR2 := Hid.in (rangeAt_step HR.out hbs)
  have H11 := Hid.in (H7.out.step hbs)
  clear hb9 hb10 hb11 hbs HR H7
  go_wp2_with (first | (refine wpList_build3 rfl (.tmp 35) (.tmp 36) (.tmp 37) rfl (ofM 6 0) (ofM 6 1) (ofM 6 0) rfl rfl rfl ?_) | fail)
  refine (lvsend_c w w11 sa HE.out q 2 1 S6 _ H11.out [ofM 6 0, ofM 6 1, ofM 6 0] runs_in 3 rfl (by omega) 6 2 2 rfl _ runs_c runs_c').mono ?_
  rintro r w12 ⟨rfl, S12, h12, hf12⟩
  have HR3 : Hid (w12.rangeAt w6.heap.size 0 (mc (ofM 1 0))) := Hid.in (rangeAt_fr HR2.out hf12 HN6.out)
  have H12 := Hid.in h12
  clear h12 HR2 H11
  obtain ⟨vc, hvc⟩ : ∃ v, perr sa 6 opFSend 2 = v := ⟨_, rfl⟩
  have HVc := Hid.in hvc
  rw [hvc]
  clear hvc
  go_upto_region 8 with fail
  have n0 : ∀ n : Kin (fun X => Below w12.heap.size w12 X), n.of.cell? ⟨w6.heap.size, 0, none⟩ = some (.int .i64 1) := fun n => (n.in.cell (p := ⟨w6.heap.size, 0, none⟩) (lt_cell (HR3.out 0 _ rfl))).trans (by have h := HR3.out 0 _ rfl; rw [Nat.zero_add] at h; exact h)
  have n1 : ∀ n : Kin (fun X => Below w12.heap.size w12 X), n.of.cell? ⟨w6.heap.size, 1, none⟩ = some (.int .i64 0) := fun n => (n.in.cell (p := ⟨w6.heap.size, 1, none⟩) (lt_cell (HR3.out 1 _ rfl))).trans (by have h := HR3.out 1 _ rfl; rw [Nat.zero_add] at h; exact h)
  have n2 : ∀ n : Kin (fun X => Below w12.heap.size w12 X), n.of.cell? ⟨w6.heap.size, 2, none⟩ = some (.int .i64 0) := fun n => (n.in.cell (p := ⟨w6.heap.size, 2, none⟩) (lt_cell (HR3.out 2 _ rfl))).trans (by have h := HR3.out 2 _ rfl; rw [Nat.zero_add] at h; exact h)
  have n3 : ∀ n : Kin (fun X => Below w12.heap.size w12 X), n.of.cell? ⟨w6.heap.size, 3, none⟩ = some (.int .i64 0) := fun n => (n.in.cell (p := ⟨w6.heap.size, 3, none⟩) (lt_cell (HR3.out 3 _ rfl))).trans (by have h := HR3.out 3 _ rfl; rw [Nat.zero_add] at h; exact h)
  have n4 : ∀ n : Kin (fun X => Below w12.heap.size w12 X), n.of.cell? ⟨w6.heap.size, 4, none⟩ = some (.int .i64 0) := fun n => (n.in.cell (p := ⟨w6.heap.size, 4, none⟩) (lt_cell (HR3.out 4 _ rfl))).trans (by have h := HR3.out 4 _ rfl; rw [Nat.zero_add] at h; exact h)
  have n5 : ∀ n : Kin (fun X => Below w12.heap.size w12 X), n.of.cell? ⟨w6.heap.size, 5, none⟩ = some (.int .i64 0) := fun n => (n.in.cell (p := ⟨w6.heap.size, 5, none⟩) (lt_cell (HR3.out 5 _ rfl))).trans (by have h := HR3.out 5 _ rfl; rw [Nat.zero_add] at h; exact h)
  have n6 : ∀ n : Kin (fun X => Below w12.heap.size w12 X), n.of.cell? ⟨w6.heap.size, 6, none⟩ = some (.int .i64 0) := fun n => (n.in.cell (p := ⟨w6.heap.size, 6, none⟩) (lt_cell (HR3.out 6 _ rfl))).trans (by have h := HR3.out 6 _ rfl; rw [Nat.zero_add] at h; exact h)
  have n7 : ∀ n : Kin (fun X => Below w12.heap.size w12 X), n.of.cell? ⟨w6.heap.size, 7, none⟩ = some (.int .u32 0) := fun n => (n.in.cell (p := ⟨w6.heap.size, 7, none⟩) (lt_cell (HR3.out 7 _ rfl))).trans (by have h := HR3.out 7 _ rfl; rw [Nat.zero_add] at h; exact h)
  have n8 : ∀ n : Kin (fun X => Below w12.heap.size w12 X), n.of.cell? ⟨w6.heap.size, 8, none⟩ = some (.int .u32 0) := fun n => (n.in.cell (p := ⟨w6.heap.size, 8, none⟩) (lt_cell (HR3.out 8 _ rfl))).trans (by have h := HR3.out 8 _ rfl; rw [Nat.zero_add] at h; exact h)
  have n9 : ∀ n : Kin (fun X => Below w12.heap.size w12 X), n.of.cell? ⟨w6.heap.size, 9, none⟩ = some (.int .u32 0) := fun n => (n.in.cell (p := ⟨w6.heap.size, 9, none⟩) (lt_cell (HR3.out 9 _ rfl))).trans (by have h := HR3.out 9 _ rfl; rw [Nat.zero_add] at h; exact h)
  have n10 : ∀ n : Kin (fun X => Below w12.heap.size w12 X), n.of.cell? ⟨w6.heap.size, 10, none⟩ = some (.int .u32 0) := fun n => (n.in.cell (p := ⟨w6.heap.size, 10, none⟩) (lt_cell (HR3.out 10 _ rfl))).trans (by have h := HR3.out 10 _ rfl; rw [Nat.zero_add] at h; exact h)
  have n11 : ∀ n : Kin (fun X => Below w12.heap.size w12 X), n.of.cell? ⟨w6.heap.size, 11, none⟩ = some (.int .u32 0) := fun n => (n.in.cell (p := ⟨w6.heap.size, 11, none⟩) (lt_cell (HR3.out 11 _ rfl))).trans (by have h := HR3.out 11 _ rfl; rw [Nat.zero_add] at h; exact h)
  have n12 : ∀ n : Kin (fun X => Below w12.heap.size w12 X), n.of.cell? ⟨w6.heap.size, 12, none⟩ = some (.bool false) := fun n => (n.in.cell (p := ⟨w6.heap.size, 12, none⟩) (lt_cell (HR3.out 12 _ rfl))).trans (by have h := HR3.out 12 _ rfl; rw [Nat.zero_add] at h; exact h)
  have HIb : Hid (∀ n : Kin (fun X => Below w12.heap.size w12 X), Calls Tryd.prog 14 #[vb, .int .i64 6, .string opFSend, .int .i64 0] n.of fun r w' => r = .returned (.bool true) ∧ Below n.of.heap.size n.of w') := Hid.in (fun n => by rw [← HVb.out]; exact kIs_perr _ _ 6 (by omega) _ sa (HE.out.below (bstep H12.out.b (Nat.le_refl _) n.in)))
  have HIc : Hid (∀ n : Kin (fun X => Below w12.heap.size w12 X), Calls Tryd.prog 14 #[vc, .int .i64 6, .string opFSend, .int .i64 2] n.of fun r w' => r = .returned (.bool true) ∧ Below n.of.heap.size n.of w') := Hid.in (fun n => by rw [← HVc.out]; exact kIs_perr _ _ 6 (by omega) _ sa (HE.out.below (bstep H12.out.b (Nat.le_refl _) n.in)))
  have HOf : Hid (∀ n : Kin (fun X => Below w12.heap.size w12 X), Calls Tryd.prog 11 #[.int .i64 1, .int .i64 0] n.of fun r w' => r = .returned (.agg #[.int .i64 1, .int .i64 0, .int .i64 0, .int .i64 0, .int .i64 0, .int .i64 0, .int .i64 0, .int .u32 0, .int .u32 0, .int .u32 0, .int .u32 0, .int .u32 0, .bool false]) ∧ Below n.of.heap.size n.of w') := Hid.in (fun n => fbof_c 1 0 n.of)
  have HLn : Hid (∀ n : Kin (fun X => Below w12.heap.size w12 X), Calls Tryd.prog 15 #[.pointer (some ⟨q, 0, none⟩), .int .i64 1, .int .i64 0] n.of fun r w' => r = .returned (.int .i64 0) ∧ w' = n.of) := Hid.in (fun n => fblen_c n.of q 2 1 S12 _ (H12.out.step n.in).f 1 0 0 rfl)
  have hne : ∀ w', (binOp .eql 32 (.agg #[.int .i64 1, .int .i64 0, .int .i64 0, .int .i64 0, .int .i64 0, .int .i64 0, .int .i64 0, .int .u32 0, .int .u32 0, .int .u32 0, .int .u32 0, .int .u32 0, .bool false]) (.agg #[.int .i64 1, .int .i64 0, .int .i64 0, .int .i64 0, .int .i64 0, .int .i64 0, .int .i64 0, .int .u32 0, .int .u32 0, .int .u32 0, .int .u32 0, .int .u32 0, .bool false])).run Tryd.prog w' = .ok (.bool true) w' := fun w' => by
    have h := eq_msg (ofM 1 0) (ofM 1 0) w'
    rw [(eqB_iff _ _).2 rfl] at h
    exact h
  refine wp_region_kin (C := fun X => Below w12.heap.size w12 X) (by kernel_rfl) (by kernel_rfl) (Below.refl _ _).drew (fun hne' => ?_)
  repeat (go_big_quiet_step (first | (go_at_call 14; first | (with_reducible exact Kin.below (Nat.le_refl _) _ (HIb.out _)) | (with_reducible exact Kin.below (Nat.le_refl _) _ (HIc.out _))) | (go_at_call 11; exact Kin.below (Nat.le_refl _) _ (HOf.out _)) | (go_at_call 15; exact Kin.same _ (HLn.out _))))
  refine wpQuiet_nil ?_
  rintro w13 ⟨n, rfl⟩
  have HT := Hid.in n.in
  clear hne n0 n1 n2 n3 n4 n5 n6 n7 n8 n9 n10 n11 n12
  go_wp2
  go_ret
  exact ⟨rfl, bstep H12.out.b (Nat.le_refl _) HT.out⟩

end Go.Proofs.YtmgmjklnibmacaaDoor
