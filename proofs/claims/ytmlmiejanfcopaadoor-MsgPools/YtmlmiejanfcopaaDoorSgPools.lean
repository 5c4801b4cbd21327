/- DERIVED of the program: MsgPools returns true. Own work. -/
import Derived.Test.YtmlmiejanfcopaaDoorSgRuns
namespace Go.Proofs.YtmlmiejanfcopaaDoor
open Go.RowKit Go.Extern.Stop Go.Stop Go.Extern

theorem Tryd.infoI64 : ∃ i, Tryd.prog.info? 3 = some i := by
  have h : (Tryd.prog.info? 3).isSome = true := by kernel_rfl
  exact Option.isSome_iff_exists.1 h
theorem Tryd.cellsI64 : Tryd.prog.cellsOf 3 = 1 := by kernel_rfl
theorem eq_arr4 (w : World) : (Op.equalIn 10000 47 (.agg #[.int .i64 4, .int .i64 6, .int .i64 2, .int .i64 3]) (.agg #[.int .i64 4, .int .i64 6, .int .i64 2, .int .i64 3])).run Tryd.prog w = .ok true w := by
  obtain ⟨i, hi⟩ := Tryd.infoI64
  rw [run_equalIn_array w 9999 _ _ Tryd.underlying47 hi, Tryd.cellsI64]
  simp [List.range_succ, Op.eqItems, go_sem]
theorem pool_in (k : Int) (h1 : 1 ≤ k) (h2 : k ≤ 15) : 0 ≤ poolS k ∧ poolS k ≤ 3 := by
  unfold poolS
  split
  · omega
  · split
    · omega
    · split
      · omega
      · split
        · omega
        · omega
theorem pool_out (k : Int) (h : ¬ (1 ≤ k ∧ k ≤ 15)) : poolS k = -1 := by
  unfold poolS
  rw [if_neg (by omega), if_neg (by omega), if_neg (by omega), if_neg (by omega)]
theorem kind_out (k c l t o e w_ v d0 d1 d2 d3 : Int) (h : Bool) (hk : ¬ (1 ≤ k ∧ k ≤ 15)) : rtB (k, c, l, t, o, e, w_, v, d0, d1, d2, d3, h) = false := by
  apply rtB_no
  intro hr
  exact hk hr.1

set_option maxHeartbeats 6400000 in
set_option maxRecDepth 20000 in
theorem msgPools_in (w : World) (sa : Nat → Addr) (hE : Env10 w sa) (kd k c l t o e w_ v d0 d1 d2 d3 : Int) (h : Bool) (h32 : M32 (kd, c, l, t, o, e, w_, v, d0, d1, d2, d3, h)) (h64 : M64 (kd, c, l, t, o, e, w_, v, d0, d1, d2, d3, h)) (k1 : 1 ≤ kd) (k2 : kd ≤ 15) :
    Calls Tryd.prog 7 #[.int .i64 kd, .agg #[.int .i64 k, .int .i64 c, .int .i64 l, .int .i64 t, .int .i64 o, .int .i64 e, .int .i64 w_, .int .u32 v, .int .u32 d0, .int .u32 d1, .int .u32 d2, .int .u32 d3, .bool h]] w fun r w' => r = .returned (.bool true) ∧ Below w.heap.size w w' := by
  have HE := Hid.in hE
  have HQ := Hid.in h32
  have HQ4 := Hid.in h64
  clear hE h32 h64
  have hp0 := sPool_any kd
  obtain ⟨p, hp, p0, p1⟩ : ∃ p, poolS kd = p ∧ 0 ≤ p ∧ p ≤ 3 := ⟨_, rfl, (pool_in kd k1 k2).1, (pool_in kd k1 k2).2⟩
  rw [hp] at hp0
  clear hp
  have HM : Hid (((w.alloc (.cells #[.int .i64 k, .int .i64 c, .int .i64 l, .int .i64 t, .int .i64 o, .int .i64 e, .int .i64 w_, .int .u32 v, .int .u32 d0, .int .u32 d1, .int .u32 d2, .int .u32 d3, .bool h] 28)).alloc (.cells #[.int .i64 0, .int .i64 0, .int .i64 0, .int .i64 0] 47)).heap[w.heap.size]? = some (.cells #[.int .i64 k, .int .i64 c, .int .i64 l, .int .i64 t, .int .i64 o, .int .i64 e, .int .i64 w_, .int .u32 v, .int .u32 d0, .int .u32 d1, .int .u32 d2, .int .u32 d3, .bool h] 28 (0, 0))) := Hid.in (blk_step (heap_alloc_new _ _) (below_alloc _ _))
  have HC : Hid (((w.alloc (.cells #[.int .i64 k, .int .i64 c, .int .i64 l, .int .i64 t, .int .i64 o, .int .i64 e, .int .i64 w_, .int .u32 v, .int .u32 d0, .int .u32 d1, .int .u32 d2, .int .u32 d3, .bool h] 28)).alloc (.cells #[.int .i64 0, .int .i64 0, .int .i64 0, .int .i64 0] 47)).heap[w.heap.size + 1]? = some (.cells #[.int .i64 0, .int .i64 0, .int .i64 0, .int .i64 0] 47 (0, 0))) := Hid.in (by
    have hn := heap_alloc_new (w.alloc (.cells #[.int .i64 k, .int .i64 c, .int .i64 l, .int .i64 t, .int .i64 o, .int .i64 e, .int .i64 w_, .int .u32 v, .int .u32 d0, .int .u32 d1, .int .u32 d2, .int .u32 d3, .bool h] 28)) (.cells #[.int .i64 0, .int .i64 0, .int .i64 0, .int .i64 0] 47)
    rwa [show (w.alloc (.cells #[.int .i64 k, .int .i64 c, .int .i64 l, .int .i64 t, .int .i64 o, .int .i64 e, .int .i64 w_, .int .u32 v, .int .u32 d0, .int .u32 d1, .int .u32 d2, .int .u32 d3, .bool h] 28)).heap.size = w.heap.size + 1 by simp] at hn)
  have HB : Hid (Below w.heap.size w ((w.alloc (.cells #[.int .i64 k, .int .i64 c, .int .i64 l, .int .i64 t, .int .i64 o, .int .i64 e, .int .i64 w_, .int .u32 v, .int .u32 d0, .int .u32 d1, .int .u32 d2, .int .u32 d3, .bool h] 28)).alloc (.cells #[.int .i64 0, .int .i64 0, .int .i64 0, .int .i64 0] 47))) := Hid.in (bstep (below_alloc _ _) (Nat.le_refl _) (below_alloc _ _))
  go_enter Tryd.func7, Tryd.ntmps7
  go_wp2_with fail
  refine (hp0 _).mono ?_
  rintro r w1 ⟨rfl, rfl⟩
  clear hp0
  go_upto_region 6 with fail
  generalize hX : (w.alloc (.cells #[.int .i64 k, .int .i64 c, .int .i64 l, .int .i64 t, .int .i64 o, .int .i64 e, .int .i64 w_, .int .u32 v, .int .u32 d0, .int .u32 d1, .int .u32 d2, .int .u32 d3, .bool h] 28)).alloc (.cells #[.int .i64 0, .int .i64 0, .int .i64 0, .int .i64 0] 47) = W2 at *
  clear hX
  go_wp2_with fail
  refine wp_loop_rounds 16 ?_
  rw [rounds_succ]
  go_wp2_with fail
  refine (sPool_any 1 _).mono ?_
  rw [show poolS 1 = 0 from by decide]
  rintro r w0 ⟨rfl, rfl⟩
  have z : w0.cell? ⟨w.heap.size + 1, 0, none⟩ = some (.int .i64 0) := blk_cell HC.out rfl
  have y : w0.frozen? ⟨w.heap.size + 1, 0, none⟩ = false := blk_free HC.out
  have HC2 : Hid ((w0.setCell ⟨w.heap.size + 1, 0, none⟩ (.int .i64 1)).heap[w.heap.size + 1]? = some (.cells #[.int .i64 1, .int .i64 0, .int .i64 0, .int .i64 0] 47 (0, 0))) := Hid.in (blk_set (.int .i64 1) HC.out)
  have HM2 : Hid ((w0.setCell ⟨w.heap.size + 1, 0, none⟩ (.int .i64 1)).heap[w.heap.size]? = some (.cells #[.int .i64 k, .int .i64 c, .int .i64 l, .int .i64 t, .int .i64 o, .int .i64 e, .int .i64 w_, .int .u32 v, .int .u32 d0, .int .u32 d1, .int .u32 d2, .int .u32 d3, .bool h] 28 (0, 0))) := Hid.in ((Below.heap_setCell _ _ _ _ (by show w.heap.size ≠ w.heap.size + 1; omega)).trans HM.out)
  have HB2 : Hid (Below w.heap.size w (w0.setCell ⟨w.heap.size + 1, 0, none⟩ (.int .i64 1))) := Hid.in (HB.out.setCell (p := ⟨w.heap.size + 1, 0, none⟩) (by show w.heap.size ≤ w.heap.size + 1; omega) _)
  go_upto_region 8 with fail
  generalize hX : w0.setCell ⟨w.heap.size + 1, 0, none⟩ (.int .i64 1) = X at *
  clear hX z y HC HM HB
  have HC := HC2
  have HM := HM2
  have HB := HB2
  clear HC2 HM2 HB2
  go_wp2_with fail
  rw [rounds_succ]
  go_wp2_with fail
  refine (sPool_any 2 _).mono ?_
  rw [show poolS 2 = 0 from by decide]
  rintro r w0 ⟨rfl, rfl⟩
  have z : w0.cell? ⟨w.heap.size + 1, 0, none⟩ = some (.int .i64 1) := blk_cell HC.out rfl
  have y : w0.frozen? ⟨w.heap.size + 1, 0, none⟩ = false := blk_free HC.out
  have HC2 : Hid ((w0.setCell ⟨w.heap.size + 1, 0, none⟩ (.int .i64 2)).heap[w.heap.size + 1]? = some (.cells #[.int .i64 2, .int .i64 0, .int .i64 0, .int .i64 0] 47 (0, 0))) := Hid.in (blk_set (.int .i64 2) HC.out)
  have HM2 : Hid ((w0.setCell ⟨w.heap.size + 1, 0, none⟩ (.int .i64 2)).heap[w.heap.size]? = some (.cells #[.int .i64 k, .int .i64 c, .int .i64 l, .int .i64 t, .int .i64 o, .int .i64 e, .int .i64 w_, .int .u32 v, .int .u32 d0, .int .u32 d1, .int .u32 d2, .int .u32 d3, .bool h] 28 (0, 0))) := Hid.in ((Below.heap_setCell _ _ _ _ (by show w.heap.size ≠ w.heap.size + 1; omega)).trans HM.out)
  have HB2 : Hid (Below w.heap.size w (w0.setCell ⟨w.heap.size + 1, 0, none⟩ (.int .i64 2))) := Hid.in (HB.out.setCell (p := ⟨w.heap.size + 1, 0, none⟩) (by show w.heap.size ≤ w.heap.size + 1; omega) _)
  go_upto_region 8 with fail
  generalize hX : w0.setCell ⟨w.heap.size + 1, 0, none⟩ (.int .i64 2) = X at *
  clear hX z y HC HM HB
  have HC := HC2
  have HM := HM2
  have HB := HB2
  clear HC2 HM2 HB2
  go_wp2_with fail
  rw [rounds_succ]
  go_wp2_with fail
  refine (sPool_any 3 _).mono ?_
  rw [show poolS 3 = 0 from by decide]
  rintro r w0 ⟨rfl, rfl⟩
  have z : w0.cell? ⟨w.heap.size + 1, 0, none⟩ = some (.int .i64 2) := blk_cell HC.out rfl
  have y : w0.frozen? ⟨w.heap.size + 1, 0, none⟩ = false := blk_free HC.out
  have HC2 : Hid ((w0.setCell ⟨w.heap.size + 1, 0, none⟩ (.int .i64 3)).heap[w.heap.size + 1]? = some (.cells #[.int .i64 3, .int .i64 0, .int .i64 0, .int .i64 0] 47 (0, 0))) := Hid.in (blk_set (.int .i64 3) HC.out)
  have HM2 : Hid ((w0.setCell ⟨w.heap.size + 1, 0, none⟩ (.int .i64 3)).heap[w.heap.size]? = some (.cells #[.int .i64 k, .int .i64 c, .int .i64 l, .int .i64 t, .int .i64 o, .int .i64 e, .int .i64 w_, .int .u32 v, .int .u32 d0, .int .u32 d1, .int .u32 d2, .int .u32 d3, .bool h] 28 (0, 0))) := Hid.in ((Below.heap_setCell _ _ _ _ (by show w.heap.size ≠ w.heap.size + 1; omega)).trans HM.out)
  have HB2 : Hid (Below w.heap.size w (w0.setCell ⟨w.heap.size + 1, 0, none⟩ (.int .i64 3))) := Hid.in (HB.out.setCell (p := ⟨w.heap.size + 1, 0, none⟩) (by show w.heap.size ≤ w.heap.size + 1; omega) _)
  go_upto_region 8 with fail
  generalize hX : w0.setCell ⟨w.heap.size + 1, 0, none⟩ (.int .i64 3) = X at *
  clear hX z y HC HM HB
  have HC := HC2
  have HM := HM2
  have HB := HB2
  clear HC2 HM2 HB2
  go_wp2_with fail
  rw [rounds_succ]
  go_wp2_with fail
  refine (sPool_any 4 _).mono ?_
  rw [show poolS 4 = 0 from by decide]
  rintro r w0 ⟨rfl, rfl⟩
  have z : w0.cell? ⟨w.heap.size + 1, 0, none⟩ = some (.int .i64 3) := blk_cell HC.out rfl
  have y : w0.frozen? ⟨w.heap.size + 1, 0, none⟩ = false := blk_free HC.out
  have HC2 : Hid ((w0.setCell ⟨w.heap.size + 1, 0, none⟩ (.int .i64 4)).heap[w.heap.size + 1]? = some (.cells #[.int .i64 4, .int .i64 0, .int .i64 0, .int .i64 0] 47 (0, 0))) := Hid.in (blk_set (.int .i64 4) HC.out)
  have HM2 : Hid ((w0.setCell ⟨w.heap.size + 1, 0, none⟩ (.int .i64 4)).heap[w.heap.size]? = some (.cells #[.int .i64 k, .int .i64 c, .int .i64 l, .int .i64 t, .int .i64 o, .int .i64 e, .int .i64 w_, .int .u32 v, .int .u32 d0, .int .u32 d1, .int .u32 d2, .int .u32 d3, .bool h] 28 (0, 0))) := Hid.in ((Below.heap_setCell _ _ _ _ (by show w.heap.size ≠ w.heap.size + 1; omega)).trans HM.out)
  have HB2 : Hid (Below w.heap.size w (w0.setCell ⟨w.heap.size + 1, 0, none⟩ (.int .i64 4))) := Hid.in (HB.out.setCell (p := ⟨w.heap.size + 1, 0, none⟩) (by show w.heap.size ≤ w.heap.size + 1; omega) _)
  go_upto_region 8 with fail
  generalize hX : w0.setCell ⟨w.heap.size + 1, 0, none⟩ (.int .i64 4) = X at *
  clear hX z y HC HM HB
  have HC := HC2
  have HM := HM2
  have HB := HB2
  clear HC2 HM2 HB2
  go_wp2_with fail
  rw [rounds_succ]
  go_wp2_with fail
  refine (sPool_any 5 _).mono ?_
  rw [show poolS 5 = 1 from by decide]
  rintro r w0 ⟨rfl, rfl⟩
  have z : w0.cell? ⟨w.heap.size + 1, 1, none⟩ = some (.int .i64 0) := blk_cell HC.out rfl
  have y : w0.frozen? ⟨w.heap.size + 1, 1, none⟩ = false := blk_free HC.out
  have HC2 : Hid ((w0.setCell ⟨w.heap.size + 1, 1, none⟩ (.int .i64 1)).heap[w.heap.size + 1]? = some (.cells #[.int .i64 4, .int .i64 1, .int .i64 0, .int .i64 0] 47 (0, 0))) := Hid.in (blk_set (.int .i64 1) HC.out)
  have HM2 : Hid ((w0.setCell ⟨w.heap.size + 1, 1, none⟩ (.int .i64 1)).heap[w.heap.size]? = some (.cells #[.int .i64 k, .int .i64 c, .int .i64 l, .int .i64 t, .int .i64 o, .int .i64 e, .int .i64 w_, .int .u32 v, .int .u32 d0, .int .u32 d1, .int .u32 d2, .int .u32 d3, .bool h] 28 (0, 0))) := Hid.in ((Below.heap_setCell _ _ _ _ (by show w.heap.size ≠ w.heap.size + 1; omega)).trans HM.out)
  have HB2 : Hid (Below w.heap.size w (w0.setCell ⟨w.heap.size + 1, 1, none⟩ (.int .i64 1))) := Hid.in (HB.out.setCell (p := ⟨w.heap.size + 1, 1, none⟩) (by show w.heap.size ≤ w.heap.size + 1; omega) _)
  go_upto_region 8 with fail
  generalize hX : w0.setCell ⟨w.heap.size + 1, 1, none⟩ (.int .i64 1) = X at *
  clear hX z y HC HM HB
  have HC := HC2
  have HM := HM2
  have HB := HB2
  clear HC2 HM2 HB2
  go_wp2_with fail
  rw [rounds_succ]
  go_wp2_with fail
  refine (sPool_any 6 _).mono ?_
  rw [show poolS 6 = 1 from by decide]
  rintro r w0 ⟨rfl, rfl⟩
  have z : w0.cell? ⟨w.heap.size + 1, 1, none⟩ = some (.int .i64 1) := blk_cell HC.out rfl
  have y : w0.frozen? ⟨w.heap.size + 1, 1, none⟩ = false := blk_free HC.out
  have HC2 : Hid ((w0.setCell ⟨w.heap.size + 1, 1, none⟩ (.int .i64 2)).heap[w.heap.size + 1]? = some (.cells #[.int .i64 4, .int .i64 2, .int .i64 0, .int .i64 0] 47 (0, 0))) := Hid.in (blk_set (.int .i64 2) HC.out)
  have HM2 : Hid ((w0.setCell ⟨w.heap.size + 1, 1, none⟩ (.int .i64 2)).heap[w.heap.size]? = some (.cells #[.int .i64 k, .int .i64 c, .int .i64 l, .int .i64 t, .int .i64 o, .int .i64 e, .int .i64 w_, .int .u32 v, .int .u32 d0, .int .u32 d1, .int .u32 d2, .int .u32 d3, .bool h] 28 (0, 0))) := Hid.in ((Below.heap_setCell _ _ _ _ (by show w.heap.size ≠ w.heap.size + 1; omega)).trans HM.out)
  have HB2 : Hid (Below w.heap.size w (w0.setCell ⟨w.heap.size + 1, 1, none⟩ (.int .i64 2))) := Hid.in (HB.out.setCell (p := ⟨w.heap.size + 1, 1, none⟩) (by show w.heap.size ≤ w.heap.size + 1; omega) _)
  go_upto_region 8 with fail
  generalize hX : w0.setCell ⟨w.heap.size + 1, 1, none⟩ (.int .i64 2) = X at *
  clear hX z y HC HM HB
  have HC := HC2
  have HM := HM2
  have HB := HB2
  clear HC2 HM2 HB2
  go_wp2_with fail
  rw [rounds_succ]
  go_wp2_with fail
  refine (sPool_any 7 _).mono ?_
  rw [show poolS 7 = 1 from by decide]
  rintro r w0 ⟨rfl, rfl⟩
  have z : w0.cell? ⟨w.heap.size + 1, 1, none⟩ = some (.int .i64 2) := blk_cell HC.out rfl
  have y : w0.frozen? ⟨w.heap.size + 1, 1, none⟩ = false := blk_free HC.out
  have HC2 : Hid ((w0.setCell ⟨w.heap.size + 1, 1, none⟩ (.int .i64 3)).heap[w.heap.size + 1]? = some (.cells #[.int .i64 4, .int .i64 3, .int .i64 0, .int .i64 0] 47 (0, 0))) := Hid.in (blk_set (.int .i64 3) HC.out)
  have HM2 : Hid ((w0.setCell ⟨w.heap.size + 1, 1, none⟩ (.int .i64 3)).heap[w.heap.size]? = some (.cells #[.int .i64 k, .int .i64 c, .int .i64 l, .int .i64 t, .int .i64 o, .int .i64 e, .int .i64 w_, .int .u32 v, .int .u32 d0, .int .u32 d1, .int .u32 d2, .int .u32 d3, .bool h] 28 (0, 0))) := Hid.in ((Below.heap_setCell _ _ _ _ (by show w.heap.size ≠ w.heap.size + 1; omega)).trans HM.out)
  have HB2 : Hid (Below w.heap.size w (w0.setCell ⟨w.heap.size + 1, 1, none⟩ (.int .i64 3))) := Hid.in (HB.out.setCell (p := ⟨w.heap.size + 1, 1, none⟩) (by show w.heap.size ≤ w.heap.size + 1; omega) _)
  go_upto_region 8 with fail
  generalize hX : w0.setCell ⟨w.heap.size + 1, 1, none⟩ (.int .i64 3) = X at *
  clear hX z y HC HM HB
  have HC := HC2
  have HM := HM2
  have HB := HB2
  clear HC2 HM2 HB2
  go_wp2_with fail
  rw [rounds_succ]
  go_wp2_with fail
  refine (sPool_any 8 _).mono ?_
  rw [show poolS 8 = 1 from by decide]
  rintro r w0 ⟨rfl, rfl⟩
  have z : w0.cell? ⟨w.heap.size + 1, 1, none⟩ = some (.int .i64 3) := blk_cell HC.out rfl
  have y : w0.frozen? ⟨w.heap.size + 1, 1, none⟩ = false := blk_free HC.out
  have HC2 : Hid ((w0.setCell ⟨w.heap.size + 1, 1, none⟩ (.int .i64 4)).heap[w.heap.size + 1]? = some (.cells #[.int .i64 4, .int .i64 4, .int .i64 0, .int .i64 0] 47 (0, 0))) := Hid.in (blk_set (.int .i64 4) HC.out)
  have HM2 : Hid ((w0.setCell ⟨w.heap.size + 1, 1, none⟩ (.int .i64 4)).heap[w.heap.size]? = some (.cells #[.int .i64 k, .int .i64 c, .int .i64 l, .int .i64 t, .int .i64 o, .int .i64 e, .int .i64 w_, .int .u32 v, .int .u32 d0, .int .u32 d1, .int .u32 d2, .int .u32 d3, .bool h] 28 (0, 0))) := Hid.in ((Below.heap_setCell _ _ _ _ (by show w.heap.size ≠ w.heap.size + 1; omega)).trans HM.out)
  have HB2 : Hid (Below w.heap.size w (w0.setCell ⟨w.heap.size + 1, 1, none⟩ (.int .i64 4))) := Hid.in (HB.out.setCell (p := ⟨w.heap.size + 1, 1, none⟩) (by show w.heap.size ≤ w.heap.size + 1; omega) _)
  go_upto_region 8 with fail
  generalize hX : w0.setCell ⟨w.heap.size + 1, 1, none⟩ (.int .i64 4) = X at *
  clear hX z y HC HM HB
  have HC := HC2
  have HM := HM2
  have HB := HB2
  clear HC2 HM2 HB2
  go_wp2_with fail
  rw [rounds_succ]
  go_wp2_with fail
  refine (sPool_any 9 _).mono ?_
  rw [show poolS 9 = 1 from by decide]
  rintro r w0 ⟨rfl, rfl⟩
  have z : w0.cell? ⟨w.heap.size + 1, 1, none⟩ = some (.int .i64 4) := blk_cell HC.out rfl
  have y : w0.frozen? ⟨w.heap.size + 1, 1, none⟩ = false := blk_free HC.out
  have HC2 : Hid ((w0.setCell ⟨w.heap.size + 1, 1, none⟩ (.int .i64 5)).heap[w.heap.size + 1]? = some (.cells #[.int .i64 4, .int .i64 5, .int .i64 0, .int .i64 0] 47 (0, 0))) := Hid.in (blk_set (.int .i64 5) HC.out)
  have HM2 : Hid ((w0.setCell ⟨w.heap.size + 1, 1, none⟩ (.int .i64 5)).heap[w.heap.size]? = some (.cells #[.int .i64 k, .int .i64 c, .int .i64 l, .int .i64 t, .int .i64 o, .int .i64 e, .int .i64 w_, .int .u32 v, .int .u32 d0, .int .u32 d1, .int .u32 d2, .int .u32 d3, .bool h] 28 (0, 0))) := Hid.in ((Below.heap_setCell _ _ _ _ (by show w.heap.size ≠ w.heap.size + 1; omega)).trans HM.out)
  have HB2 : Hid (Below w.heap.size w (w0.setCell ⟨w.heap.size + 1, 1, none⟩ (.int .i64 5))) := Hid.in (HB.out.setCell (p := ⟨w.heap.size + 1, 1, none⟩) (by show w.heap.size ≤ w.heap.size + 1; omega) _)
  go_upto_region 8 with fail
  generalize hX : w0.setCell ⟨w.heap.size + 1, 1, none⟩ (.int .i64 5) = X at *
  clear hX z y HC HM HB
  have HC := HC2
  have HM := HM2
  have HB := HB2
  clear HC2 HM2 HB2
  go_wp2_with fail
  rw [rounds_succ]
  go_wp2_with fail
  refine (sPool_any 10 _).mono ?_
  rw [show poolS 10 = 1 from by decide]
  rintro r w0 ⟨rfl, rfl⟩
  have z : w0.cell? ⟨w.heap.size + 1, 1, none⟩ = some (.int .i64 5) := blk_cell HC.out rfl
  have y : w0.frozen? ⟨w.heap.size + 1, 1, none⟩ = false := blk_free HC.out
  have HC2 : Hid ((w0.setCell ⟨w.heap.size + 1, 1, none⟩ (.int .i64 6)).heap[w.heap.size + 1]? = some (.cells #[.int .i64 4, .int .i64 6, .int .i64 0, .int .i64 0] 47 (0, 0))) := Hid.in (blk_set (.int .i64 6) HC.out)
  have HM2 : Hid ((w0.setCell ⟨w.heap.size + 1, 1, none⟩ (.int .i64 6)).heap[w.heap.size]? = some (.cells #[.int .i64 k, .int .i64 c, .int .i64 l, .int .i64 t, .int .i64 o, .int .i64 e, .int .i64 w_, .int .u32 v, .int .u32 d0, .int .u32 d1, .int .u32 d2, .int .u32 d3, .bool h] 28 (0, 0))) := Hid.in ((Below.heap_setCell _ _ _ _ (by show w.heap.size ≠ w.heap.size + 1; omega)).trans HM.out)
  have HB2 : Hid (Below w.heap.size w (w0.setCell ⟨w.heap.size + 1, 1, none⟩ (.int .i64 6))) := Hid.in (HB.out.setCell (p := ⟨w.heap.size + 1, 1, none⟩) (by show w.heap.size ≤ w.heap.size + 1; omega) _)
  go_upto_region 8 with fail
  generalize hX : w0.setCell ⟨w.heap.size + 1, 1, none⟩ (.int .i64 6) = X at *
  clear hX z y HC HM HB
  have HC := HC2
  have HM := HM2
  have HB := HB2
  clear HC2 HM2 HB2
  go_wp2_with fail
  rw [rounds_succ]
  go_wp2_with fail
  refine (sPool_any 11 _).mono ?_
  rw [show poolS 11 = 2 from by decide]
  rintro r w0 ⟨rfl, rfl⟩
  have z : w0.cell? ⟨w.heap.size + 1, 2, none⟩ = some (.int .i64 0) := blk_cell HC.out rfl
  have y : w0.frozen? ⟨w.heap.size + 1, 2, none⟩ = false := blk_free HC.out
  have HC2 : Hid ((w0.setCell ⟨w.heap.size + 1, 2, none⟩ (.int .i64 1)).heap[w.heap.size + 1]? = some (.cells #[.int .i64 4, .int .i64 6, .int .i64 1, .int .i64 0] 47 (0, 0))) := Hid.in (blk_set (.int .i64 1) HC.out)
  have HM2 : Hid ((w0.setCell ⟨w.heap.size + 1, 2, none⟩ (.int .i64 1)).heap[w.heap.size]? = some (.cells #[.int .i64 k, .int .i64 c, .int .i64 l, .int .i64 t, .int .i64 o, .int .i64 e, .int .i64 w_, .int .u32 v, .int .u32 d0, .int .u32 d1, .int .u32 d2, .int .u32 d3, .bool h] 28 (0, 0))) := Hid.in ((Below.heap_setCell _ _ _ _ (by show w.heap.size ≠ w.heap.size + 1; omega)).trans HM.out)
  have HB2 : Hid (Below w.heap.size w (w0.setCell ⟨w.heap.size + 1, 2, none⟩ (.int .i64 1))) := Hid.in (HB.out.setCell (p := ⟨w.heap.size + 1, 2, none⟩) (by show w.heap.size ≤ w.heap.size + 1; omega) _)
  go_upto_region 8 with fail
  generalize hX : w0.setCell ⟨w.heap.size + 1, 2, none⟩ (.int .i64 1) = X at *
  clear hX z y HC HM HB
  have HC := HC2
  have HM := HM2
  have HB := HB2
  clear HC2 HM2 HB2
  go_wp2_with fail
  rw [rounds_succ]
  go_wp2_with fail
  refine (sPool_any 12 _).mono ?_
  rw [show poolS 12 = 2 from by decide]
  rintro r w0 ⟨rfl, rfl⟩
  have z : w0.cell? ⟨w.heap.size + 1, 2, none⟩ = some (.int .i64 1) := blk_cell HC.out rfl
  have y : w0.frozen? ⟨w.heap.size + 1, 2, none⟩ = false := blk_free HC.out
  have HC2 : Hid ((w0.setCell ⟨w.heap.size + 1, 2, none⟩ (.int .i64 2)).heap[w.heap.size + 1]? = some (.cells #[.int .i64 4, .int .i64 6, .int .i64 2, .int .i64 0] 47 (0, 0))) := Hid.in (blk_set (.int .i64 2) HC.out)
  have HM2 : Hid ((w0.setCell ⟨w.heap.size + 1, 2, none⟩ (.int .i64 2)).heap[w.heap.size]? = some (.cells #[.int .i64 k, .int .i64 c, .int .i64 l, .int .i64 t, .int .i64 o, .int .i64 e, .int .i64 w_, .int .u32 v, .int .u32 d0, .int .u32 d1, .int .u32 d2, .int .u32 d3, .bool h] 28 (0, 0))) := Hid.in ((Below.heap_setCell _ _ _ _ (by show w.heap.size ≠ w.heap.size + 1; omega)).trans HM.out)
  have HB2 : Hid (Below w.heap.size w (w0.setCell ⟨w.heap.size + 1, 2, none⟩ (.int .i64 2))) := Hid.in (HB.out.setCell (p := ⟨w.heap.size + 1, 2, none⟩) (by show w.heap.size ≤ w.heap.size + 1; omega) _)
  go_upto_region 8 with fail
  generalize hX : w0.setCell ⟨w.heap.size + 1, 2, none⟩ (.int .i64 2) = X at *
  clear hX z y HC HM HB
  have HC := HC2
  have HM := HM2
  have HB := HB2
  clear HC2 HM2 HB2
  go_wp2_with fail
  rw [rounds_succ]
  go_wp2_with fail
  refine (sPool_any 13 _).mono ?_
  rw [show poolS 13 = 3 from by decide]
  rintro r w0 ⟨rfl, rfl⟩
  have z : w0.cell? ⟨w.heap.size + 1, 3, none⟩ = some (.int .i64 0) := blk_cell HC.out rfl
  have y : w0.frozen? ⟨w.heap.size + 1, 3, none⟩ = false := blk_free HC.out
  have HC2 : Hid ((w0.setCell ⟨w.heap.size + 1, 3, none⟩ (.int .i64 1)).heap[w.heap.size + 1]? = some (.cells #[.int .i64 4, .int .i64 6, .int .i64 2, .int .i64 1] 47 (0, 0))) := Hid.in (blk_set (.int .i64 1) HC.out)
  have HM2 : Hid ((w0.setCell ⟨w.heap.size + 1, 3, none⟩ (.int .i64 1)).heap[w.heap.size]? = some (.cells #[.int .i64 k, .int .i64 c, .int .i64 l, .int .i64 t, .int .i64 o, .int .i64 e, .int .i64 w_, .int .u32 v, .int .u32 d0, .int .u32 d1, .int .u32 d2, .int .u32 d3, .bool h] 28 (0, 0))) := Hid.in ((Below.heap_setCell _ _ _ _ (by show w.heap.size ≠ w.heap.size + 1; omega)).trans HM.out)
  have HB2 : Hid (Below w.heap.size w (w0.setCell ⟨w.heap.size + 1, 3, none⟩ (.int .i64 1))) := Hid.in (HB.out.setCell (p := ⟨w.heap.size + 1, 3, none⟩) (by show w.heap.size ≤ w.heap.size + 1; omega) _)
  go_upto_region 8 with fail
  generalize hX : w0.setCell ⟨w.heap.size + 1, 3, none⟩ (.int .i64 1) = X at *
  clear hX z y HC HM HB
  have HC := HC2
  have HM := HM2
  have HB := HB2
  clear HC2 HM2 HB2
  go_wp2_with fail
  rw [rounds_succ]
  go_wp2_with fail
  refine (sPool_any 14 _).mono ?_
  rw [show poolS 14 = 3 from by decide]
  rintro r w0 ⟨rfl, rfl⟩
  have z : w0.cell? ⟨w.heap.size + 1, 3, none⟩ = some (.int .i64 1) := blk_cell HC.out rfl
  have y : w0.frozen? ⟨w.heap.size + 1, 3, none⟩ = false := blk_free HC.out
  have HC2 : Hid ((w0.setCell ⟨w.heap.size + 1, 3, none⟩ (.int .i64 2)).heap[w.heap.size + 1]? = some (.cells #[.int .i64 4, .int .i64 6, .int .i64 2, .int .i64 2] 47 (0, 0))) := Hid.in (blk_set (.int .i64 2) HC.out)
  have HM2 : Hid ((w0.setCell ⟨w.heap.size + 1, 3, none⟩ (.int .i64 2)).heap[w.heap.size]? = some (.cells #[.int .i64 k, .int .i64 c, .int .i64 l, .int .i64 t, .int .i64 o, .int .i64 e, .int .i64 w_, .int .u32 v, .int .u32 d0, .int .u32 d1, .int .u32 d2, .int .u32 d3, .bool h] 28 (0, 0))) := Hid.in ((Below.heap_setCell _ _ _ _ (by show w.heap.size ≠ w.heap.size + 1; omega)).trans HM.out)
  have HB2 : Hid (Below w.heap.size w (w0.setCell ⟨w.heap.size + 1, 3, none⟩ (.int .i64 2))) := Hid.in (HB.out.setCell (p := ⟨w.heap.size + 1, 3, none⟩) (by show w.heap.size ≤ w.heap.size + 1; omega) _)
  go_upto_region 8 with fail
  generalize hX : w0.setCell ⟨w.heap.size + 1, 3, none⟩ (.int .i64 2) = X at *
  clear hX z y HC HM HB
  have HC := HC2
  have HM := HM2
  have HB := HB2
  clear HC2 HM2 HB2
  go_wp2_with fail
  rw [rounds_succ]
  go_wp2_with fail
  refine (sPool_any 15 _).mono ?_
  rw [show poolS 15 = 3 from by decide]
  rintro r w0 ⟨rfl, rfl⟩
  have z : w0.cell? ⟨w.heap.size + 1, 3, none⟩ = some (.int .i64 2) := blk_cell HC.out rfl
  have y : w0.frozen? ⟨w.heap.size + 1, 3, none⟩ = false := blk_free HC.out
  have HC2 : Hid ((w0.setCell ⟨w.heap.size + 1, 3, none⟩ (.int .i64 3)).heap[w.heap.size + 1]? = some (.cells #[.int .i64 4, .int .i64 6, .int .i64 2, .int .i64 3] 47 (0, 0))) := Hid.in (blk_set (.int .i64 3) HC.out)
  have HM2 : Hid ((w0.setCell ⟨w.heap.size + 1, 3, none⟩ (.int .i64 3)).heap[w.heap.size]? = some (.cells #[.int .i64 k, .int .i64 c, .int .i64 l, .int .i64 t, .int .i64 o, .int .i64 e, .int .i64 w_, .int .u32 v, .int .u32 d0, .int .u32 d1, .int .u32 d2, .int .u32 d3, .bool h] 28 (0, 0))) := Hid.in ((Below.heap_setCell _ _ _ _ (by show w.heap.size ≠ w.heap.size + 1; omega)).trans HM.out)
  have HB2 : Hid (Below w.heap.size w (w0.setCell ⟨w.heap.size + 1, 3, none⟩ (.int .i64 3))) := Hid.in (HB.out.setCell (p := ⟨w.heap.size + 1, 3, none⟩) (by show w.heap.size ≤ w.heap.size + 1; omega) _)
  go_upto_region 8 with fail
  generalize hX : w0.setCell ⟨w.heap.size + 1, 3, none⟩ (.int .i64 3) = X at *
  clear hX z y HC HM HB
  have HC := HC2
  have HM := HM2
  have HB := HB2
  clear HC2 HM2 HB2
  go_wp2_with fail
  rw [rounds_succ]
  have z : X.cell? ⟨w.heap.size, 0, none⟩ = some (.int .i64 k) := blk_cell HM.out rfl
  have y : X.frozen? ⟨w.heap.size, 0, none⟩ = false := blk_free HM.out
  have HC2 : Hid ((X.setCell ⟨w.heap.size, 0, none⟩ (.int .i64 kd)).heap[w.heap.size + 1]? = some (.cells #[.int .i64 4, .int .i64 6, .int .i64 2, .int .i64 3] 47 (0, 0))) := Hid.in ((Below.heap_setCell _ _ _ _ (by show w.heap.size + 1 ≠ w.heap.size; omega)).trans HC.out)
  have HM2 : Hid ((X.setCell ⟨w.heap.size, 0, none⟩ (.int .i64 kd)).heap[w.heap.size]? = some (.cells #[.int .i64 kd, .int .i64 c, .int .i64 l, .int .i64 t, .int .i64 o, .int .i64 e, .int .i64 w_, .int .u32 v, .int .u32 d0, .int .u32 d1, .int .u32 d2, .int .u32 d3, .bool h] 28 (0, 0))) := Hid.in (blk_set (.int .i64 kd) HM.out)
  have HB2 : Hid (Below w.heap.size w (X.setCell ⟨w.heap.size, 0, none⟩ (.int .i64 kd))) := Hid.in (HB.out.setCell (p := ⟨w.heap.size, 0, none⟩) (Nat.le_refl _) _)
  go_upto_region 14 with fail
  generalize hX : X.setCell ⟨w.heap.size, 0, none⟩ (.int .i64 kd) = Y at *
  clear hX z y HC HM HB
  have z0 : Y.cell? ⟨w.heap.size + 1, 0, none⟩ = some (.int .i64 4) := blk_cell HC2.out rfl
  have z1 : Y.cell? ⟨w.heap.size + 1, 1, none⟩ = some (.int .i64 6) := blk_cell HC2.out rfl
  have z2 : Y.cell? ⟨w.heap.size + 1, 2, none⟩ = some (.int .i64 2) := blk_cell HC2.out rfl
  have z3 : Y.cell? ⟨w.heap.size + 1, 3, none⟩ = some (.int .i64 3) := blk_cell HC2.out rfl
  have ha := eq_arr4 Y
  go_wp2_with fail
  refine (msgRuns_any _ sa (HE.out.below HB2.out)).mono ?_
  rintro r Z ⟨rfl, hb⟩
  have HB4 := Hid.in (bstep HB2.out (Nat.le_refl _) hb)
  clear hb
  go_wp2
  go_ret
  exact ⟨rfl, HB4.out⟩

set_option maxHeartbeats 6400000 in
set_option maxRecDepth 20000 in
theorem msgPools_low (w : World) (sa : Nat → Addr) (hE : Env10 w sa) (kd k c l t o e w_ v d0 d1 d2 d3 : Int) (h : Bool) (h32 : M32 (kd, c, l, t, o, e, w_, v, d0, d1, d2, d3, h)) (h64 : M64 (kd, c, l, t, o, e, w_, v, d0, d1, d2, d3, h)) (k1 : kd < 1) :
    Calls Tryd.prog 7 #[.int .i64 kd, .agg #[.int .i64 k, .int .i64 c, .int .i64 l, .int .i64 t, .int .i64 o, .int .i64 e, .int .i64 w_, .int .u32 v, .int .u32 d0, .int .u32 d1, .int .u32 d2, .int .u32 d3, .bool h]] w fun r w' => r = .returned (.bool true) ∧ Below w.heap.size w w' := by
  have HE := Hid.in hE
  have HQ := Hid.in h32
  have HQ4 := Hid.in h64
  clear hE h32 h64
  have hp0 := sPool_any kd
  have HK : Hid (¬ (1 ≤ kd ∧ kd ≤ 15)) := Hid.in (by omega)
  rw [pool_out kd HK.out] at hp0
  have HM : Hid (((w.alloc (.cells #[.int .i64 k, .int .i64 c, .int .i64 l, .int .i64 t, .int .i64 o, .int .i64 e, .int .i64 w_, .int .u32 v, .int .u32 d0, .int .u32 d1, .int .u32 d2, .int .u32 d3, .bool h] 28)).alloc (.cells #[.int .i64 0, .int .i64 0, .int .i64 0, .int .i64 0] 47)).heap[w.heap.size]? = some (.cells #[.int .i64 k, .int .i64 c, .int .i64 l, .int .i64 t, .int .i64 o, .int .i64 e, .int .i64 w_, .int .u32 v, .int .u32 d0, .int .u32 d1, .int .u32 d2, .int .u32 d3, .bool h] 28 (0, 0))) := Hid.in (blk_step (heap_alloc_new _ _) (below_alloc _ _))
  have HC : Hid (((w.alloc (.cells #[.int .i64 k, .int .i64 c, .int .i64 l, .int .i64 t, .int .i64 o, .int .i64 e, .int .i64 w_, .int .u32 v, .int .u32 d0, .int .u32 d1, .int .u32 d2, .int .u32 d3, .bool h] 28)).alloc (.cells #[.int .i64 0, .int .i64 0, .int .i64 0, .int .i64 0] 47)).heap[w.heap.size + 1]? = some (.cells #[.int .i64 0, .int .i64 0, .int .i64 0, .int .i64 0] 47 (0, 0))) := Hid.in (by
    have hn := heap_alloc_new (w.alloc (.cells #[.int .i64 k, .int .i64 c, .int .i64 l, .int .i64 t, .int .i64 o, .int .i64 e, .int .i64 w_, .int .u32 v, .int .u32 d0, .int .u32 d1, .int .u32 d2, .int .u32 d3, .bool h] 28)) (.cells #[.int .i64 0, .int .i64 0, .int .i64 0, .int .i64 0] 47)
    rwa [show (w.alloc (.cells #[.int .i64 k, .int .i64 c, .int .i64 l, .int .i64 t, .int .i64 o, .int .i64 e, .int .i64 w_, .int .u32 v, .int .u32 d0, .int .u32 d1, .int .u32 d2, .int .u32 d3, .bool h] 28)).heap.size = w.heap.size + 1 by simp] at hn)
  have HB : Hid (Below w.heap.size w ((w.alloc (.cells #[.int .i64 k, .int .i64 c, .int .i64 l, .int .i64 t, .int .i64 o, .int .i64 e, .int .i64 w_, .int .u32 v, .int .u32 d0, .int .u32 d1, .int .u32 d2, .int .u32 d3, .bool h] 28)).alloc (.cells #[.int .i64 0, .int .i64 0, .int .i64 0, .int .i64 0] 47))) := Hid.in (bstep (below_alloc _ _) (Nat.le_refl _) (below_alloc _ _))
  go_enter Tryd.func7, Tryd.ntmps7
  go_wp2_with fail
  refine (hp0 _).mono ?_
  rintro r w1 ⟨rfl, rfl⟩
  clear hp0
  go_upto_region 6 with fail
  generalize hX : (w.alloc (.cells #[.int .i64 k, .int .i64 c, .int .i64 l, .int .i64 t, .int .i64 o, .int .i64 e, .int .i64 w_, .int .u32 v, .int .u32 d0, .int .u32 d1, .int .u32 d2, .int .u32 d3, .bool h] 28)).alloc (.cells #[.int .i64 0, .int .i64 0, .int .i64 0, .int .i64 0] 47) = W2 at *
  clear hX
  go_wp2_with fail
  refine wp_loop_rounds 16 ?_
  rw [rounds_succ]
  go_wp2_with fail
  refine (sPool_any 1 _).mono ?_
  rw [show poolS 1 = 0 from by decide]
  rintro r w0 ⟨rfl, rfl⟩
  have z : w0.cell? ⟨w.heap.size + 1, 0, none⟩ = some (.int .i64 0) := blk_cell HC.out rfl
  have y : w0.frozen? ⟨w.heap.size + 1, 0, none⟩ = false := blk_free HC.out
  have HC2 : Hid ((w0.setCell ⟨w.heap.size + 1, 0, none⟩ (.int .i64 1)).heap[w.heap.size + 1]? = some (.cells #[.int .i64 1, .int .i64 0, .int .i64 0, .int .i64 0] 47 (0, 0))) := Hid.in (blk_set (.int .i64 1) HC.out)
  have HM2 : Hid ((w0.setCell ⟨w.heap.size + 1, 0, none⟩ (.int .i64 1)).heap[w.heap.size]? = some (.cells #[.int .i64 k, .int .i64 c, .int .i64 l, .int .i64 t, .int .i64 o, .int .i64 e, .int .i64 w_, .int .u32 v, .int .u32 d0, .int .u32 d1, .int .u32 d2, .int .u32 d3, .bool h] 28 (0, 0))) := Hid.in ((Below.heap_setCell _ _ _ _ (by show w.heap.size ≠ w.heap.size + 1; omega)).trans HM.out)
  have HB2 : Hid (Below w.heap.size w (w0.setCell ⟨w.heap.size + 1, 0, none⟩ (.int .i64 1))) := Hid.in (HB.out.setCell (p := ⟨w.heap.size + 1, 0, none⟩) (by show w.heap.size ≤ w.heap.size + 1; omega) _)
  go_upto_region 8 with fail
  generalize hX : w0.setCell ⟨w.heap.size + 1, 0, none⟩ (.int .i64 1) = X at *
  clear hX z y HC HM HB
  have HC := HC2
  have HM := HM2
  have HB := HB2
  clear HC2 HM2 HB2
  go_wp2_with fail
  rw [rounds_succ]
  go_wp2_with fail
  refine (sPool_any 2 _).mono ?_
  rw [show poolS 2 = 0 from by decide]
  rintro r w0 ⟨rfl, rfl⟩
  have z : w0.cell? ⟨w.heap.size + 1, 0, none⟩ = some (.int .i64 1) := blk_cell HC.out rfl
  have y : w0.frozen? ⟨w.heap.size + 1, 0, none⟩ = false := blk_free HC.out
  have HC2 : Hid ((w0.setCell ⟨w.heap.size + 1, 0, none⟩ (.int .i64 2)).heap[w.heap.size + 1]? = some (.cells #[.int .i64 2, .int .i64 0, .int .i64 0, .int .i64 0] 47 (0, 0))) := Hid.in (blk_set (.int .i64 2) HC.out)
  have HM2 : Hid ((w0.setCell ⟨w.heap.size + 1, 0, none⟩ (.int .i64 2)).heap[w.heap.size]? = some (.cells #[.int .i64 k, .int .i64 c, .int .i64 l, .int .i64 t, .int .i64 o, .int .i64 e, .int .i64 w_, .int .u32 v, .int .u32 d0, .int .u32 d1, .int .u32 d2, .int .u32 d3, .bool h] 28 (0, 0))) := Hid.in ((Below.heap_setCell _ _ _ _ (by show w.heap.size ≠ w.heap.size + 1; omega)).trans HM.out)
  have HB2 : Hid (Below w.heap.size w (w0.setCell ⟨w.heap.size + 1, 0, none⟩ (.int .i64 2))) := Hid.in (HB.out.setCell (p := ⟨w.heap.size + 1, 0, none⟩) (by show w.heap.size ≤ w.heap.size + 1; omega) _)
  go_upto_region 8 with fail
  generalize hX : w0.setCell ⟨w.heap.size + 1, 0, none⟩ (.int .i64 2) = X at *
  clear hX z y HC HM HB
  have HC := HC2
  have HM := HM2
  have HB := HB2
  clear HC2 HM2 HB2
  go_wp2_with fail
  rw [rounds_succ]
  go_wp2_with fail
  refine (sPool_any 3 _).mono ?_
  rw [show poolS 3 = 0 from by decide]
  rintro r w0 ⟨rfl, rfl⟩
  have z : w0.cell? ⟨w.heap.size + 1, 0, none⟩ = some (.int .i64 2) := blk_cell HC.out rfl
  have y : w0.frozen? ⟨w.heap.size + 1, 0, none⟩ = false := blk_free HC.out
  have HC2 : Hid ((w0.setCell ⟨w.heap.size + 1, 0, none⟩ (.int .i64 3)).heap[w.heap.size + 1]? = some (.cells #[.int .i64 3, .int .i64 0, .int .i64 0, .int .i64 0] 47 (0, 0))) := Hid.in (blk_set (.int .i64 3) HC.out)
  have HM2 : Hid ((w0.setCell ⟨w.heap.size + 1, 0, none⟩ (.int .i64 3)).heap[w.heap.size]? = some (.cells #[.int .i64 k, .int .i64 c, .int .i64 l, .int .i64 t, .int .i64 o, .int .i64 e, .int .i64 w_, .int .u32 v, .int .u32 d0, .int .u32 d1, .int .u32 d2, .int .u32 d3, .bool h] 28 (0, 0))) := Hid.in ((Below.heap_setCell _ _ _ _ (by show w.heap.size ≠ w.heap.size + 1; omega)).trans HM.out)
  have HB2 : Hid (Below w.heap.size w (w0.setCell ⟨w.heap.size + 1, 0, none⟩ (.int .i64 3))) := Hid.in (HB.out.setCell (p := ⟨w.heap.size + 1, 0, none⟩) (by show w.heap.size ≤ w.heap.size + 1; omega) _)
  go_upto_region 8 with fail
  generalize hX : w0.setCell ⟨w.heap.size + 1, 0, none⟩ (.int .i64 3) = X at *
  clear hX z y HC HM HB
  have HC := HC2
  have HM := HM2
  have HB := HB2
  clear HC2 HM2 HB2
  go_wp2_with fail
  rw [rounds_succ]
  go_wp2_with fail
  refine (sPool_any 4 _).mono ?_
  rw [show poolS 4 = 0 from by decide]
  rintro r w0 ⟨rfl, rfl⟩
  have z : w0.cell? ⟨w.heap.size + 1, 0, none⟩ = some (.int .i64 3) := blk_cell HC.out rfl
  have y : w0.frozen? ⟨w.heap.size + 1, 0, none⟩ = false := blk_free HC.out
  have HC2 : Hid ((w0.setCell ⟨w.heap.size + 1, 0, none⟩ (.int .i64 4)).heap[w.heap.size + 1]? = some (.cells #[.int .i64 4, .int .i64 0, .int .i64 0, .int .i64 0] 47 (0, 0))) := Hid.in (blk_set (.int .i64 4) HC.out)
  have HM2 : Hid ((w0.setCell ⟨w.heap.size + 1, 0, none⟩ (.int .i64 4)).heap[w.heap.size]? = some (.cells #[.int .i64 k, .int .i64 c, .int .i64 l, .int .i64 t, .int .i64 o, .int .i64 e, .int .i64 w_, .int .u32 v, .int .u32 d0, .int .u32 d1, .int .u32 d2, .int .u32 d3, .bool h] 28 (0, 0))) := Hid.in ((Below.heap_setCell _ _ _ _ (by show w.heap.size ≠ w.heap.size + 1; omega)).trans HM.out)
  have HB2 : Hid (Below w.heap.size w (w0.setCell ⟨w.heap.size + 1, 0, none⟩ (.int .i64 4))) := Hid.in (HB.out.setCell (p := ⟨w.heap.size + 1, 0, none⟩) (by show w.heap.size ≤ w.heap.size + 1; omega) _)
  go_upto_region 8 with fail
  generalize hX : w0.setCell ⟨w.heap.size + 1, 0, none⟩ (.int .i64 4) = X at *
  clear hX z y HC HM HB
  have HC := HC2
  have HM := HM2
  have HB := HB2
  clear HC2 HM2 HB2
  go_wp2_with fail
  rw [rounds_succ]
  go_wp2_with fail
  refine (sPool_any 5 _).mono ?_
  rw [show poolS 5 = 1 from by decide]
  rintro r w0 ⟨rfl, rfl⟩
  have z : w0.cell? ⟨w.heap.size + 1, 1, none⟩ = some (.int .i64 0) := blk_cell HC.out rfl
  have y : w0.frozen? ⟨w.heap.size + 1, 1, none⟩ = false := blk_free HC.out
  have HC2 : Hid ((w0.setCell ⟨w.heap.size + 1, 1, none⟩ (.int .i64 1)).heap[w.heap.size + 1]? = some (.cells #[.int .i64 4, .int .i64 1, .int .i64 0, .int .i64 0] 47 (0, 0))) := Hid.in (blk_set (.int .i64 1) HC.out)
  have HM2 : Hid ((w0.setCell ⟨w.heap.size + 1, 1, none⟩ (.int .i64 1)).heap[w.heap.size]? = some (.cells #[.int .i64 k, .int .i64 c, .int .i64 l, .int .i64 t, .int .i64 o, .int .i64 e, .int .i64 w_, .int .u32 v, .int .u32 d0, .int .u32 d1, .int .u32 d2, .int .u32 d3, .bool h] 28 (0, 0))) := Hid.in ((Below.heap_setCell _ _ _ _ (by show w.heap.size ≠ w.heap.size + 1; omega)).trans HM.out)
  have HB2 : Hid (Below w.heap.size w (w0.setCell ⟨w.heap.size + 1, 1, none⟩ (.int .i64 1))) := Hid.in (HB.out.setCell (p := ⟨w.heap.size + 1, 1, none⟩) (by show w.heap.size ≤ w.heap.size + 1; omega) _)
  go_upto_region 8 with fail
  generalize hX : w0.setCell ⟨w.heap.size + 1, 1, none⟩ (.int .i64 1) = X at *
  clear hX z y HC HM HB
  have HC := HC2
  have HM := HM2
  have HB := HB2
  clear HC2 HM2 HB2
  go_wp2_with fail
  rw [rounds_succ]
  go_wp2_with fail
  refine (sPool_any 6 _).mono ?_
  rw [show poolS 6 = 1 from by decide]
  rintro r w0 ⟨rfl, rfl⟩
  have z : w0.cell? ⟨w.heap.size + 1, 1, none⟩ = some (.int .i64 1) := blk_cell HC.out rfl
  have y : w0.frozen? ⟨w.heap.size + 1, 1, none⟩ = false := blk_free HC.out
  have HC2 : Hid ((w0.setCell ⟨w.heap.size + 1, 1, none⟩ (.int .i64 2)).heap[w.heap.size + 1]? = some (.cells #[.int .i64 4, .int .i64 2, .int .i64 0, .int .i64 0] 47 (0, 0))) := Hid.in (blk_set (.int .i64 2) HC.out)
  have HM2 : Hid ((w0.setCell ⟨w.heap.size + 1, 1, none⟩ (.int .i64 2)).heap[w.heap.size]? = some (.cells #[.int .i64 k, .int .i64 c, .int .i64 l, .int .i64 t, .int .i64 o, .int .i64 e, .int .i64 w_, .int .u32 v, .int .u32 d0, .int .u32 d1, .int .u32 d2, .int .u32 d3, .bool h] 28 (0, 0))) := Hid.in ((Below.heap_setCell _ _ _ _ (by show w.heap.size ≠ w.heap.size + 1; omega)).trans HM.out)
  have HB2 : Hid (Below w.heap.size w (w0.setCell ⟨w.heap.size + 1, 1, none⟩ (.int .i64 2))) := Hid.in (HB.out.setCell (p := ⟨w.heap.size + 1, 1, none⟩) (by show w.heap.size ≤ w.heap.size + 1; omega) _)
  go_upto_region 8 with fail
  generalize hX : w0.setCell ⟨w.heap.size + 1, 1, none⟩ (.int .i64 2) = X at *
  clear hX z y HC HM HB
  have HC := HC2
  have HM := HM2
  have HB := HB2
  clear HC2 HM2 HB2
  go_wp2_with fail
  rw [rounds_succ]
  go_wp2_with fail
  refine (sPool_any 7 _).mono ?_
  rw [show poolS 7 = 1 from by decide]
  rintro r w0 ⟨rfl, rfl⟩
  have z : w0.cell? ⟨w.heap.size + 1, 1, none⟩ = some (.int .i64 2) := blk_cell HC.out rfl
  have y : w0.frozen? ⟨w.heap.size + 1, 1, none⟩ = false := blk_free HC.out
  have HC2 : Hid ((w0.setCell ⟨w.heap.size + 1, 1, none⟩ (.int .i64 3)).heap[w.heap.size + 1]? = some (.cells #[.int .i64 4, .int .i64 3, .int .i64 0, .int .i64 0] 47 (0, 0))) := Hid.in (blk_set (.int .i64 3) HC.out)
  have HM2 : Hid ((w0.setCell ⟨w.heap.size + 1, 1, none⟩ (.int .i64 3)).heap[w.heap.size]? = some (.cells #[.int .i64 k, .int .i64 c, .int .i64 l, .int .i64 t, .int .i64 o, .int .i64 e, .int .i64 w_, .int .u32 v, .int .u32 d0, .int .u32 d1, .int .u32 d2, .int .u32 d3, .bool h] 28 (0, 0))) := Hid.in ((Below.heap_setCell _ _ _ _ (by show w.heap.size ≠ w.heap.size + 1; omega)).trans HM.out)
  have HB2 : Hid (Below w.heap.size w (w0.setCell ⟨w.heap.size + 1, 1, none⟩ (.int .i64 3))) := Hid.in (HB.out.setCell (p := ⟨w.heap.size + 1, 1, none⟩) (by show w.heap.size ≤ w.heap.size + 1; omega) _)
  go_upto_region 8 with fail
  generalize hX : w0.setCell ⟨w.heap.size + 1, 1, none⟩ (.int .i64 3) = X at *
  clear hX z y HC HM HB
  have HC := HC2
  have HM := HM2
  have HB := HB2
  clear HC2 HM2 HB2
  go_wp2_with fail
  rw [rounds_succ]
  go_wp2_with fail
  refine (sPool_any 8 _).mono ?_
  rw [show poolS 8 = 1 from by decide]
  rintro r w0 ⟨rfl, rfl⟩
  have z : w0.cell? ⟨w.heap.size + 1, 1, none⟩ = some (.int .i64 3) := blk_cell HC.out rfl
  have y : w0.frozen? ⟨w.heap.size + 1, 1, none⟩ = false := blk_free HC.out
  have HC2 : Hid ((w0.setCell ⟨w.heap.size + 1, 1, none⟩ (.int .i64 4)).heap[w.heap.size + 1]? = some (.cells #[.int .i64 4, .int .i64 4, .int .i64 0, .int .i64 0] 47 (0, 0))) := Hid.in (blk_set (.int .i64 4) HC.out)
  have HM2 : Hid ((w0.setCell ⟨w.heap.size + 1, 1, none⟩ (.int .i64 4)).heap[w.heap.size]? = some (.cells #[.int .i64 k, .int .i64 c, .int .i64 l, .int .i64 t, .int .i64 o, .int .i64 e, .int .i64 w_, .int .u32 v, .int .u32 d0, .int .u32 d1, .int .u32 d2, .int .u32 d3, .bool h] 28 (0, 0))) := Hid.in ((Below.heap_setCell _ _ _ _ (by show w.heap.size ≠ w.heap.size + 1; omega)).trans HM.out)
  have HB2 : Hid (Below w.heap.size w (w0.setCell ⟨w.heap.size + 1, 1, none⟩ (.int .i64 4))) := Hid.in (HB.out.setCell (p := ⟨w.heap.size + 1, 1, none⟩) (by show w.heap.size ≤ w.heap.size + 1; omega) _)
  go_upto_region 8 with fail
  generalize hX : w0.setCell ⟨w.heap.size + 1, 1, none⟩ (.int .i64 4) = X at *
  clear hX z y HC HM HB
  have HC := HC2
  have HM := HM2
  have HB := HB2
  clear HC2 HM2 HB2
  go_wp2_with fail
  rw [rounds_succ]
  go_wp2_with fail
  refine (sPool_any 9 _).mono ?_
  rw [show poolS 9 = 1 from by decide]
  rintro r w0 ⟨rfl, rfl⟩
  have z : w0.cell? ⟨w.heap.size + 1, 1, none⟩ = some (.int .i64 4) := blk_cell HC.out rfl
  have y : w0.frozen? ⟨w.heap.size + 1, 1, none⟩ = false := blk_free HC.out
  have HC2 : Hid ((w0.setCell ⟨w.heap.size + 1, 1, none⟩ (.int .i64 5)).heap[w.heap.size + 1]? = some (.cells #[.int .i64 4, .int .i64 5, .int .i64 0, .int .i64 0] 47 (0, 0))) := Hid.in (blk_set (.int .i64 5) HC.out)
  have HM2 : Hid ((w0.setCell ⟨w.heap.size + 1, 1, none⟩ (.int .i64 5)).heap[w.heap.size]? = some (.cells #[.int .i64 k, .int .i64 c, .int .i64 l, .int .i64 t, .int .i64 o, .int .i64 e, .int .i64 w_, .int .u32 v, .int .u32 d0, .int .u32 d1, .int .u32 d2, .int .u32 d3, .bool h] 28 (0, 0))) := Hid.in ((Below.heap_setCell _ _ _ _ (by show w.heap.size ≠ w.heap.size + 1; omega)).trans HM.out)
  have HB2 : Hid (Below w.heap.size w (w0.setCell ⟨w.heap.size + 1, 1, none⟩ (.int .i64 5))) := Hid.in (HB.out.setCell (p := ⟨w.heap.size + 1, 1, none⟩) (by show w.heap.size ≤ w.heap.size + 1; omega) _)
  go_upto_region 8 with fail
  generalize hX : w0.setCell ⟨w.heap.size + 1, 1, none⟩ (.int .i64 5) = X at *
  clear hX z y HC HM HB
  have HC := HC2
  have HM := HM2
  have HB := HB2
  clear HC2 HM2 HB2
  go_wp2_with fail
  rw [rounds_succ]
  go_wp2_with fail
  refine (sPool_any 10 _).mono ?_
  rw [show poolS 10 = 1 from by decide]
  rintro r w0 ⟨rfl, rfl⟩
  have z : w0.cell? ⟨w.heap.size + 1, 1, none⟩ = some (.int .i64 5) := blk_cell HC.out rfl
  have y : w0.frozen? ⟨w.heap.size + 1, 1, none⟩ = false := blk_free HC.out
  have HC2 : Hid ((w0.setCell ⟨w.heap.size + 1, 1, none⟩ (.int .i64 6)).heap[w.heap.size + 1]? = some (.cells #[.int .i64 4, .int .i64 6, .int .i64 0, .int .i64 0] 47 (0, 0))) := Hid.in (blk_set (.int .i64 6) HC.out)
  have HM2 : Hid ((w0.setCell ⟨w.heap.size + 1, 1, none⟩ (.int .i64 6)).heap[w.heap.size]? = some (.cells #[.int .i64 k, .int .i64 c, .int .i64 l, .int .i64 t, .int .i64 o, .int .i64 e, .int .i64 w_, .int .u32 v, .int .u32 d0, .int .u32 d1, .int .u32 d2, .int .u32 d3, .bool h] 28 (0, 0))) := Hid.in ((Below.heap_setCell _ _ _ _ (by show w.heap.size ≠ w.heap.size + 1; omega)).trans HM.out)
  have HB2 : Hid (Below w.heap.size w (w0.setCell ⟨w.heap.size + 1, 1, none⟩ (.int .i64 6))) := Hid.in (HB.out.setCell (p := ⟨w.heap.size + 1, 1, none⟩) (by show w.heap.size ≤ w.heap.size + 1; omega) _)
  go_upto_region 8 with fail
  generalize hX : w0.setCell ⟨w.heap.size + 1, 1, none⟩ (.int .i64 6) = X at *
  clear hX z y HC HM HB
  have HC := HC2
  have HM := HM2
  have HB := HB2
  clear HC2 HM2 HB2
  go_wp2_with fail
  rw [rounds_succ]
  go_wp2_with fail
  refine (sPool_any 11 _).mono ?_
  rw [show poolS 11 = 2 from by decide]
  rintro r w0 ⟨rfl, rfl⟩
  have z : w0.cell? ⟨w.heap.size + 1, 2, none⟩ = some (.int .i64 0) := blk_cell HC.out rfl
  have y : w0.frozen? ⟨w.heap.size + 1, 2, none⟩ = false := blk_free HC.out
  have HC2 : Hid ((w0.setCell ⟨w.heap.size + 1, 2, none⟩ (.int .i64 1)).heap[w.heap.size + 1]? = some (.cells #[.int .i64 4, .int .i64 6, .int .i64 1, .int .i64 0] 47 (0, 0))) := Hid.in (blk_set (.int .i64 1) HC.out)
  have HM2 : Hid ((w0.setCell ⟨w.heap.size + 1, 2, none⟩ (.int .i64 1)).heap[w.heap.size]? = some (.cells #[.int .i64 k, .int .i64 c, .int .i64 l, .int .i64 t, .int .i64 o, .int .i64 e, .int .i64 w_, .int .u32 v, .int .u32 d0, .int .u32 d1, .int .u32 d2, .int .u32 d3, .bool h] 28 (0, 0))) := Hid.in ((Below.heap_setCell _ _ _ _ (by show w.heap.size ≠ w.heap.size + 1; omega)).trans HM.out)
  have HB2 : Hid (Below w.heap.size w (w0.setCell ⟨w.heap.size + 1, 2, none⟩ (.int .i64 1))) := Hid.in (HB.out.setCell (p := ⟨w.heap.size + 1, 2, none⟩) (by show w.heap.size ≤ w.heap.size + 1; omega) _)
  go_upto_region 8 with fail
  generalize hX : w0.setCell ⟨w.heap.size + 1, 2, none⟩ (.int .i64 1) = X at *
  clear hX z y HC HM HB
  have HC := HC2
  have HM := HM2
  have HB := HB2
  clear HC2 HM2 HB2
  go_wp2_with fail
  rw [rounds_succ]
  go_wp2_with fail
  refine (sPool_any 12 _).mono ?_
  rw [show poolS 12 = 2 from by decide]
  rintro r w0 ⟨rfl, rfl⟩
  have z : w0.cell? ⟨w.heap.size + 1, 2, none⟩ = some (.int .i64 1) := blk_cell HC.out rfl
  have y : w0.frozen? ⟨w.heap.size + 1, 2, none⟩ = false := blk_free HC.out
  have HC2 : Hid ((w0.setCell ⟨w.heap.size + 1, 2, none⟩ (.int .i64 2)).heap[w.heap.size + 1]? = some (.cells #[.int .i64 4, .int .i64 6, .int .i64 2, .int .i64 0] 47 (0, 0))) := Hid.in (blk_set (.int .i64 2) HC.out)
  have HM2 : Hid ((w0.setCell ⟨w.heap.size + 1, 2, none⟩ (.int .i64 2)).heap[w.heap.size]? = some (.cells #[.int .i64 k, .int .i64 c, .int .i64 l, .int .i64 t, .int .i64 o, .int .i64 e, .int .i64 w_, .int .u32 v, .int .u32 d0, .int .u32 d1, .int .u32 d2, .int .u32 d3, .bool h] 28 (0, 0))) := Hid.in ((Below.heap_setCell _ _ _ _ (by show w.heap.size ≠ w.heap.size + 1; omega)).trans HM.out)
  have HB2 : Hid (Below w.heap.size w (w0.setCell ⟨w.heap.size + 1, 2, none⟩ (.int .i64 2))) := Hid.in (HB.out.setCell (p := ⟨w.heap.size + 1, 2, none⟩) (by show w.heap.size ≤ w.heap.size + 1; omega) _)
  go_upto_region 8 with fail
  generalize hX : w0.setCell ⟨w.heap.size + 1, 2, none⟩ (.int .i64 2) = X at *
  clear hX z y HC HM HB
  have HC := HC2
  have HM := HM2
  have HB := HB2
  clear HC2 HM2 HB2
  go_wp2_with fail
  rw [rounds_succ]
  go_wp2_with fail
  refine (sPool_any 13 _).mono ?_
  rw [show poolS 13 = 3 from by decide]
  rintro r w0 ⟨rfl, rfl⟩
  have z : w0.cell? ⟨w.heap.size + 1, 3, none⟩ = some (.int .i64 0) := blk_cell HC.out rfl
  have y : w0.frozen? ⟨w.heap.size + 1, 3, none⟩ = false := blk_free HC.out
  have HC2 : Hid ((w0.setCell ⟨w.heap.size + 1, 3, none⟩ (.int .i64 1)).heap[w.heap.size + 1]? = some (.cells #[.int .i64 4, .int .i64 6, .int .i64 2, .int .i64 1] 47 (0, 0))) := Hid.in (blk_set (.int .i64 1) HC.out)
  have HM2 : Hid ((w0.setCell ⟨w.heap.size + 1, 3, none⟩ (.int .i64 1)).heap[w.heap.size]? = some (.cells #[.int .i64 k, .int .i64 c, .int .i64 l, .int .i64 t, .int .i64 o, .int .i64 e, .int .i64 w_, .int .u32 v, .int .u32 d0, .int .u32 d1, .int .u32 d2, .int .u32 d3, .bool h] 28 (0, 0))) := Hid.in ((Below.heap_setCell _ _ _ _ (by show w.heap.size ≠ w.heap.size + 1; omega)).trans HM.out)
  have HB2 : Hid (Below w.heap.size w (w0.setCell ⟨w.heap.size + 1, 3, none⟩ (.int .i64 1))) := Hid.in (HB.out.setCell (p := ⟨w.heap.size + 1, 3, none⟩) (by show w.heap.size ≤ w.heap.size + 1; omega) _)
  go_upto_region 8 with fail
  generalize hX : w0.setCell ⟨w.heap.size + 1, 3, none⟩ (.int .i64 1) = X at *
  clear hX z y HC HM HB
  have HC := HC2
  have HM := HM2
  have HB := HB2
  clear HC2 HM2 HB2
  go_wp2_with fail
  rw [rounds_succ]
  go_wp2_with fail
  refine (sPool_any 14 _).mono ?_
  rw [show poolS 14 = 3 from by decide]
  rintro r w0 ⟨rfl, rfl⟩
  have z : w0.cell? ⟨w.heap.size + 1, 3, none⟩ = some (.int .i64 1) := blk_cell HC.out rfl
  have y : w0.frozen? ⟨w.heap.size + 1, 3, none⟩ = false := blk_free HC.out
  have HC2 : Hid ((w0.setCell ⟨w.heap.size + 1, 3, none⟩ (.int .i64 2)).heap[w.heap.size + 1]? = some (.cells #[.int .i64 4, .int .i64 6, .int .i64 2, .int .i64 2] 47 (0, 0))) := Hid.in (blk_set (.int .i64 2) HC.out)
  have HM2 : Hid ((w0.setCell ⟨w.heap.size + 1, 3, none⟩ (.int .i64 2)).heap[w.heap.size]? = some (.cells #[.int .i64 k, .int .i64 c, .int .i64 l, .int .i64 t, .int .i64 o, .int .i64 e, .int .i64 w_, .int .u32 v, .int .u32 d0, .int .u32 d1, .int .u32 d2, .int .u32 d3, .bool h] 28 (0, 0))) := Hid.in ((Below.heap_setCell _ _ _ _ (by show w.heap.size ≠ w.heap.size + 1; omega)).trans HM.out)
  have HB2 : Hid (Below w.heap.size w (w0.setCell ⟨w.heap.size + 1, 3, none⟩ (.int .i64 2))) := Hid.in (HB.out.setCell (p := ⟨w.heap.size + 1, 3, none⟩) (by show w.heap.size ≤ w.heap.size + 1; omega) _)
  go_upto_region 8 with fail
  generalize hX : w0.setCell ⟨w.heap.size + 1, 3, none⟩ (.int .i64 2) = X at *
  clear hX z y HC HM HB
  have HC := HC2
  have HM := HM2
  have HB := HB2
  clear HC2 HM2 HB2
  go_wp2_with fail
  rw [rounds_succ]
  go_wp2_with fail
  refine (sPool_any 15 _).mono ?_
  rw [show poolS 15 = 3 from by decide]
  rintro r w0 ⟨rfl, rfl⟩
  have z : w0.cell? ⟨w.heap.size + 1, 3, none⟩ = some (.int .i64 2) := blk_cell HC.out rfl
  have y : w0.frozen? ⟨w.heap.size + 1, 3, none⟩ = false := blk_free HC.out
  have HC2 : Hid ((w0.setCell ⟨w.heap.size + 1, 3, none⟩ (.int .i64 3)).heap[w.heap.size + 1]? = some (.cells #[.int .i64 4, .int .i64 6, .int .i64 2, .int .i64 3] 47 (0, 0))) := Hid.in (blk_set (.int .i64 3) HC.out)
  have HM2 : Hid ((w0.setCell ⟨w.heap.size + 1, 3, none⟩ (.int .i64 3)).heap[w.heap.size]? = some (.cells #[.int .i64 k, .int .i64 c, .int .i64 l, .int .i64 t, .int .i64 o, .int .i64 e, .int .i64 w_, .int .u32 v, .int .u32 d0, .int .u32 d1, .int .u32 d2, .int .u32 d3, .bool h] 28 (0, 0))) := Hid.in ((Below.heap_setCell _ _ _ _ (by show w.heap.size ≠ w.heap.size + 1; omega)).trans HM.out)
  have HB2 : Hid (Below w.heap.size w (w0.setCell ⟨w.heap.size + 1, 3, none⟩ (.int .i64 3))) := Hid.in (HB.out.setCell (p := ⟨w.heap.size + 1, 3, none⟩) (by show w.heap.size ≤ w.heap.size + 1; omega) _)
  go_upto_region 8 with fail
  generalize hX : w0.setCell ⟨w.heap.size + 1, 3, none⟩ (.int .i64 3) = X at *
  clear hX z y HC HM HB
  have HC := HC2
  have HM := HM2
  have HB := HB2
  clear HC2 HM2 HB2
  go_wp2_with fail
  rw [rounds_succ]
  have z : X.cell? ⟨w.heap.size, 0, none⟩ = some (.int .i64 k) := blk_cell HM.out rfl
  have y : X.frozen? ⟨w.heap.size, 0, none⟩ = false := blk_free HM.out
  have HC2 : Hid ((X.setCell ⟨w.heap.size, 0, none⟩ (.int .i64 kd)).heap[w.heap.size + 1]? = some (.cells #[.int .i64 4, .int .i64 6, .int .i64 2, .int .i64 3] 47 (0, 0))) := Hid.in ((Below.heap_setCell _ _ _ _ (by show w.heap.size + 1 ≠ w.heap.size; omega)).trans HC.out)
  have HM2 : Hid ((X.setCell ⟨w.heap.size, 0, none⟩ (.int .i64 kd)).heap[w.heap.size]? = some (.cells #[.int .i64 kd, .int .i64 c, .int .i64 l, .int .i64 t, .int .i64 o, .int .i64 e, .int .i64 w_, .int .u32 v, .int .u32 d0, .int .u32 d1, .int .u32 d2, .int .u32 d3, .bool h] 28 (0, 0))) := Hid.in (blk_set (.int .i64 kd) HM.out)
  have HB2 : Hid (Below w.heap.size w (X.setCell ⟨w.heap.size, 0, none⟩ (.int .i64 kd))) := Hid.in (HB.out.setCell (p := ⟨w.heap.size, 0, none⟩) (Nat.le_refl _) _)
  go_upto_region 14 with fail
  generalize hX : X.setCell ⟨w.heap.size, 0, none⟩ (.int .i64 kd) = Y at *
  clear hX z y HC HM HB
  have z0 : Y.cell? ⟨w.heap.size + 1, 0, none⟩ = some (.int .i64 4) := blk_cell HC2.out rfl
  have z1 : Y.cell? ⟨w.heap.size + 1, 1, none⟩ = some (.int .i64 6) := blk_cell HC2.out rfl
  have z2 : Y.cell? ⟨w.heap.size + 1, 2, none⟩ = some (.int .i64 2) := blk_cell HC2.out rfl
  have z3 : Y.cell? ⟨w.heap.size + 1, 3, none⟩ = some (.int .i64 3) := blk_cell HC2.out rfl
  have ha := eq_arr4 Y
  have x0 : Y.cell? ⟨w.heap.size, 0, none⟩ = some (.int .i64 kd) := blk_cell HM2.out rfl
  have x1 : Y.cell? ⟨w.heap.size, 1, none⟩ = some (.int .i64 c) := blk_cell HM2.out rfl
  have x2 : Y.cell? ⟨w.heap.size, 2, none⟩ = some (.int .i64 l) := blk_cell HM2.out rfl
  have x3 : Y.cell? ⟨w.heap.size, 3, none⟩ = some (.int .i64 t) := blk_cell HM2.out rfl
  have x4 : Y.cell? ⟨w.heap.size, 4, none⟩ = some (.int .i64 o) := blk_cell HM2.out rfl
  have x5 : Y.cell? ⟨w.heap.size, 5, none⟩ = some (.int .i64 e) := blk_cell HM2.out rfl
  have x6 : Y.cell? ⟨w.heap.size, 6, none⟩ = some (.int .i64 w_) := blk_cell HM2.out rfl
  have x7 : Y.cell? ⟨w.heap.size, 7, none⟩ = some (.int .u32 v) := blk_cell HM2.out rfl
  have x8 : Y.cell? ⟨w.heap.size, 8, none⟩ = some (.int .u32 d0) := blk_cell HM2.out rfl
  have x9 : Y.cell? ⟨w.heap.size, 9, none⟩ = some (.int .u32 d1) := blk_cell HM2.out rfl
  have x10 : Y.cell? ⟨w.heap.size, 10, none⟩ = some (.int .u32 d2) := blk_cell HM2.out rfl
  have x11 : Y.cell? ⟨w.heap.size, 11, none⟩ = some (.int .u32 d3) := blk_cell HM2.out rfl
  have x12 : Y.cell? ⟨w.heap.size, 12, none⟩ = some (.bool h) := blk_cell HM2.out rfl
  have hr := sRight_any (kd, c, l, t, o, e, w_, v, d0, d1, d2, d3, h) Y HQ.out HQ4.out
  rw [kind_out _ _ _ _ _ _ _ _ _ _ _ _ _ HK.out] at hr
  simp only [mv] at hr
  go_wp2_with fail
  refine hr.mono ?_
  rintro r Y2 ⟨rfl, hb⟩
  have HB3 := Hid.in (bstep HB2.out (Nat.le_refl _) hb)
  clear hr hb x0 x1 x2 x3 x4 x5 x6 x7 x8 x9 x10 x11 x12 z0 z1 z2 z3 ha
  go_wp2_with fail
  refine (msgRuns_any _ sa (HE.out.below HB3.out)).mono ?_
  rintro r Z ⟨rfl, hb⟩
  have HB4 := Hid.in (bstep HB3.out (Nat.le_refl _) hb)
  clear hb
  go_wp2
  go_ret
  exact ⟨rfl, HB4.out⟩

set_option maxHeartbeats 6400000 in
set_option maxRecDepth 20000 in
theorem msgPools_high (w : World) (sa : Nat → Addr) (hE : Env10 w sa) (kd k c l t o e w_ v d0 d1 d2 d3 : Int) (h : Bool) (h32 : M32 (kd, c, l, t, o, e, w_, v, d0, d1, d2, d3, h)) (h64 : M64 (kd, c, l, t, o, e, w_, v, d0, d1, d2, d3, h)) (k1 : 15 < kd) :
    Calls Tryd.prog 7 #[.int .i64 kd, .agg #[.int .i64 k, .int .i64 c, .int .i64 l, .int .i64 t, .int .i64 o, .int .i64 e, .int .i64 w_, .int .u32 v, .int .u32 d0, .int .u32 d1, .int .u32 d2, .int .u32 d3, .bool h]] w fun r w' => r = .returned (.bool true) ∧ Below w.heap.size w w' := by
  have HE := Hid.in hE
  have HQ := Hid.in h32
  have HQ4 := Hid.in h64
  clear hE h32 h64
  have hp0 := sPool_any kd
  have HK : Hid (¬ (1 ≤ kd ∧ kd ≤ 15)) := Hid.in (by omega)
  rw [pool_out kd HK.out] at hp0
  have k3 : 1 ≤ kd := by omega
  have HM : Hid (((w.alloc (.cells #[.int .i64 k, .int .i64 c, .int .i64 l, .int .i64 t, .int .i64 o, .int .i64 e, .int .i64 w_, .int .u32 v, .int .u32 d0, .int .u32 d1, .int .u32 d2, .int .u32 d3, .bool h] 28)).alloc (.cells #[.int .i64 0, .int .i64 0, .int .i64 0, .int .i64 0] 47)).heap[w.heap.size]? = some (.cells #[.int .i64 k, .int .i64 c, .int .i64 l, .int .i64 t, .int .i64 o, .int .i64 e, .int .i64 w_, .int .u32 v, .int .u32 d0, .int .u32 d1, .int .u32 d2, .int .u32 d3, .bool h] 28 (0, 0))) := Hid.in (blk_step (heap_alloc_new _ _) (below_alloc _ _))
  have HC : Hid (((w.alloc (.cells #[.int .i64 k, .int .i64 c, .int .i64 l, .int .i64 t, .int .i64 o, .int .i64 e, .int .i64 w_, .int .u32 v, .int .u32 d0, .int .u32 d1, .int .u32 d2, .int .u32 d3, .bool h] 28)).alloc (.cells #[.int .i64 0, .int .i64 0, .int .i64 0, .int .i64 0] 47)).heap[w.heap.size + 1]? = some (.cells #[.int .i64 0, .int .i64 0, .int .i64 0, .int .i64 0] 47 (0, 0))) := Hid.in (by
    have hn := heap_alloc_new (w.alloc (.cells #[.int .i64 k, .int .i64 c, .int .i64 l, .int .i64 t, .int .i64 o, .int .i64 e, .int .i64 w_, .int .u32 v, .int .u32 d0, .int .u32 d1, .int .u32 d2, .int .u32 d3, .bool h] 28)) (.cells #[.int .i64 0, .int .i64 0, .int .i64 0, .int .i64 0] 47)
    rwa [show (w.alloc (.cells #[.int .i64 k, .int .i64 c, .int .i64 l, .int .i64 t, .int .i64 o, .int .i64 e, .int .i64 w_, .int .u32 v, .int .u32 d0, .int .u32 d1, .int .u32 d2, .int .u32 d3, .bool h] 28)).heap.size = w.heap.size + 1 by simp] at hn)
  have HB : Hid (Below w.heap.size w ((w.alloc (.cells #[.int .i64 k, .int .i64 c, .int .i64 l, .int .i64 t, .int .i64 o, .int .i64 e, .int .i64 w_, .int .u32 v, .int .u32 d0, .int .u32 d1, .int .u32 d2, .int .u32 d3, .bool h] 28)).alloc (.cells #[.int .i64 0, .int .i64 0, .int .i64 0, .int .i64 0] 47))) := Hid.in (bstep (below_alloc _ _) (Nat.le_refl _) (below_alloc _ _))
  go_enter Tryd.func7, Tryd.ntmps7
  go_wp2_with fail
  refine (hp0 _).mono ?_
  rintro r w1 ⟨rfl, rfl⟩
  clear hp0
  go_upto_region 6 with fail
  generalize hX : (w.alloc (.cells #[.int .i64 k, .int .i64 c, .int .i64 l, .int .i64 t, .int .i64 o, .int .i64 e, .int .i64 w_, .int .u32 v, .int .u32 d0, .int .u32 d1, .int .u32 d2, .int .u32 d3, .bool h] 28)).alloc (.cells #[.int .i64 0, .int .i64 0, .int .i64 0, .int .i64 0] 47) = W2 at *
  clear hX
  go_wp2_with fail
  refine wp_loop_rounds 16 ?_
  rw [rounds_succ]
  go_wp2_with fail
  refine (sPool_any 1 _).mono ?_
  rw [show poolS 1 = 0 from by decide]
  rintro r w0 ⟨rfl, rfl⟩
  have z : w0.cell? ⟨w.heap.size + 1, 0, none⟩ = some (.int .i64 0) := blk_cell HC.out rfl
  have y : w0.frozen? ⟨w.heap.size + 1, 0, none⟩ = false := blk_free HC.out
  have HC2 : Hid ((w0.setCell ⟨w.heap.size + 1, 0, none⟩ (.int .i64 1)).heap[w.heap.size + 1]? = some (.cells #[.int .i64 1, .int .i64 0, .int .i64 0, .int .i64 0] 47 (0, 0))) := Hid.in (blk_set (.int .i64 1) HC.out)
  have HM2 : Hid ((w0.setCell ⟨w.heap.size + 1, 0, none⟩ (.int .i64 1)).heap[w.heap.size]? = some (.cells #[.int .i64 k, .int .i64 c, .int .i64 l, .int .i64 t, .int .i64 o, .int .i64 e, .int .i64 w_, .int .u32 v, .int .u32 d0, .int .u32 d1, .int .u32 d2, .int .u32 d3, .bool h] 28 (0, 0))) := Hid.in ((Below.heap_setCell _ _ _ _ (by show w.heap.size ≠ w.heap.size + 1; omega)).trans HM.out)
  have HB2 : Hid (Below w.heap.size w (w0.setCell ⟨w.heap.size + 1, 0, none⟩ (.int .i64 1))) := Hid.in (HB.out.setCell (p := ⟨w.heap.size + 1, 0, none⟩) (by show w.heap.size ≤ w.heap.size + 1; omega) _)
  go_upto_region 8 with fail
  generalize hX : w0.setCell ⟨w.heap.size + 1, 0, none⟩ (.int .i64 1) = X at *
  clear hX z y HC HM HB
  have HC := HC2
  have HM := HM2
  have HB := HB2
  clear HC2 HM2 HB2
  go_wp2_with fail
  rw [rounds_succ]
  go_wp2_with fail
  refine (sPool_any 2 _).mono ?_
  rw [show poolS 2 = 0 from by decide]
  rintro r w0 ⟨rfl, rfl⟩
  have z : w0.cell? ⟨w.heap.size + 1, 0, none⟩ = some (.int .i64 1) := blk_cell HC.out rfl
  have y : w0.frozen? ⟨w.heap.size + 1, 0, none⟩ = false := blk_free HC.out
  have HC2 : Hid ((w0.setCell ⟨w.heap.size + 1, 0, none⟩ (.int .i64 2)).heap[w.heap.size + 1]? = some (.cells #[.int .i64 2, .int .i64 0, .int .i64 0, .int .i64 0] 47 (0, 0))) := Hid.in (blk_set (.int .i64 2) HC.out)
  have HM2 : Hid ((w0.setCell ⟨w.heap.size + 1, 0, none⟩ (.int .i64 2)).heap[w.heap.size]? = some (.cells #[.int .i64 k, .int .i64 c, .int .i64 l, .int .i64 t, .int .i64 o, .int .i64 e, .int .i64 w_, .int .u32 v, .int .u32 d0, .int .u32 d1, .int .u32 d2, .int .u32 d3, .bool h] 28 (0, 0))) := Hid.in ((Below.heap_setCell _ _ _ _ (by show w.heap.size ≠ w.heap.size + 1; omega)).trans HM.out)
  have HB2 : Hid (Below w.heap.size w (w0.setCell ⟨w.heap.size + 1, 0, none⟩ (.int .i64 2))) := Hid.in (HB.out.setCell (p := ⟨w.heap.size + 1, 0, none⟩) (by show w.heap.size ≤ w.heap.size + 1; omega) _)
  go_upto_region 8 with fail
  generalize hX : w0.setCell ⟨w.heap.size + 1, 0, none⟩ (.int .i64 2) = X at *
  clear hX z y HC HM HB
  have HC := HC2
  have HM := HM2
  have HB := HB2
  clear HC2 HM2 HB2
  go_wp2_with fail
  rw [rounds_succ]
  go_wp2_with fail
  refine (sPool_any 3 _).mono ?_
  rw [show poolS 3 = 0 from by decide]
  rintro r w0 ⟨rfl, rfl⟩
  have z : w0.cell? ⟨w.heap.size + 1, 0, none⟩ = some (.int .i64 2) := blk_cell HC.out rfl
  have y : w0.frozen? ⟨w.heap.size + 1, 0, none⟩ = false := blk_free HC.out
  have HC2 : Hid ((w0.setCell ⟨w.heap.size + 1, 0, none⟩ (.int .i64 3)).heap[w.heap.size + 1]? = some (.cells #[.int .i64 3, .int .i64 0, .int .i64 0, .int .i64 0] 47 (0, 0))) := Hid.in (blk_set (.int .i64 3) HC.out)
  have HM2 : Hid ((w0.setCell ⟨w.heap.size + 1, 0, none⟩ (.int .i64 3)).heap[w.heap.size]? = some (.cells #[.int .i64 k, .int .i64 c, .int .i64 l, .int .i64 t, .int .i64 o, .int .i64 e, .int .i64 w_, .int .u32 v, .int .u32 d0, .int .u32 d1, .int .u32 d2, .int .u32 d3, .bool h] 28 (0, 0))) := Hid.in ((Below.heap_setCell _ _ _ _ (by show w.heap.size ≠ w.heap.size + 1; omega)).trans HM.out)
  have HB2 : Hid (Below w.heap.size w (w0.setCell ⟨w.heap.size + 1, 0, none⟩ (.int .i64 3))) := Hid.in (HB.out.setCell (p := ⟨w.heap.size + 1, 0, none⟩) (by show w.heap.size ≤ w.heap.size + 1; omega) _)
  go_upto_region 8 with fail
  generalize hX : w0.setCell ⟨w.heap.size + 1, 0, none⟩ (.int .i64 3) = X at *
  clear hX z y HC HM HB
  have HC := HC2
  have HM := HM2
  have HB := HB2
  clear HC2 HM2 HB2
  go_wp2_with fail
  rw [rounds_succ]
  go_wp2_with fail
  refine (sPool_any 4 _).mono ?_
  rw [show poolS 4 = 0 from by decide]
  rintro r w0 ⟨rfl, rfl⟩
  have z : w0.cell? ⟨w.heap.size + 1, 0, none⟩ = some (.int .i64 3) := blk_cell HC.out rfl
  have y : w0.frozen? ⟨w.heap.size + 1, 0, none⟩ = false := blk_free HC.out
  have HC2 : Hid ((w0.setCell ⟨w.heap.size + 1, 0, none⟩ (.int .i64 4)).heap[w.heap.size + 1]? = some (.cells #[.int .i64 4, .int .i64 0, .int .i64 0, .int .i64 0] 47 (0, 0))) := Hid.in (blk_set (.int .i64 4) HC.out)
  have HM2 : Hid ((w0.setCell ⟨w.heap.size + 1, 0, none⟩ (.int .i64 4)).heap[w.heap.size]? = some (.cells #[.int .i64 k, .int .i64 c, .int .i64 l, .int .i64 t, .int .i64 o, .int .i64 e, .int .i64 w_, .int .u32 v, .int .u32 d0, .int .u32 d1, .int .u32 d2, .int .u32 d3, .bool h] 28 (0, 0))) := Hid.in ((Below.heap_setCell _ _ _ _ (by show w.heap.size ≠ w.heap.size + 1; omega)).trans HM.out)
  have HB2 : Hid (Below w.heap.size w (w0.setCell ⟨w.heap.size + 1, 0, none⟩ (.int .i64 4))) := Hid.in (HB.out.setCell (p := ⟨w.heap.size + 1, 0, none⟩) (by show w.heap.size ≤ w.heap.size + 1; omega) _)
  go_upto_region 8 with fail
  generalize hX : w0.setCell ⟨w.heap.size + 1, 0, none⟩ (.int .i64 4) = X at *
  clear hX z y HC HM HB
  have HC := HC2
  have HM := HM2
  have HB := HB2
  clear HC2 HM2 HB2
  go_wp2_with fail
  rw [rounds_succ]
  go_wp2_with fail
  refine (sPool_any 5 _).mono ?_
  rw [show poolS 5 = 1 from by decide]
  rintro r w0 ⟨rfl, rfl⟩
  have z : w0.cell? ⟨w.heap.size + 1, 1, none⟩ = some (.int .i64 0) := blk_cell HC.out rfl
  have y : w0.frozen? ⟨w.heap.size + 1, 1, none⟩ = false := blk_free HC.out
  have HC2 : Hid ((w0.setCell ⟨w.heap.size + 1, 1, none⟩ (.int .i64 1)).heap[w.heap.size + 1]? = some (.cells #[.int .i64 4, .int .i64 1, .int .i64 0, .int .i64 0] 47 (0, 0))) := Hid.in (blk_set (.int .i64 1) HC.out)
  have HM2 : Hid ((w0.setCell ⟨w.heap.size + 1, 1, none⟩ (.int .i64 1)).heap[w.heap.size]? = some (.cells #[.int .i64 k, .int .i64 c, .int .i64 l, .int .i64 t, .int .i64 o, .int .i64 e, .int .i64 w_, .int .u32 v, .int .u32 d0, .int .u32 d1, .int .u32 d2, .int .u32 d3, .bool h] 28 (0, 0))) := Hid.in ((Below.heap_setCell _ _ _ _ (by show w.heap.size ≠ w.heap.size + 1; omega)).trans HM.out)
  have HB2 : Hid (Below w.heap.size w (w0.setCell ⟨w.heap.size + 1, 1, none⟩ (.int .i64 1))) := Hid.in (HB.out.setCell (p := ⟨w.heap.size + 1, 1, none⟩) (by show w.heap.size ≤ w.heap.size + 1; omega) _)
  go_upto_region 8 with fail
  generalize hX : w0.setCell ⟨w.heap.size + 1, 1, none⟩ (.int .i64 1) = X at *
  clear hX z y HC HM HB
  have HC := HC2
  have HM := HM2
  have HB := HB2
  clear HC2 HM2 HB2
  go_wp2_with fail
  rw [rounds_succ]
  go_wp2_with fail
  refine (sPool_any 6 _).mono ?_
  rw [show poolS 6 = 1 from by decide]
  rintro r w0 ⟨rfl, rfl⟩
  have z : w0.cell? ⟨w.heap.size + 1, 1, none⟩ = some (.int .i64 1) := blk_cell HC.out rfl
  have y : w0.frozen? ⟨w.heap.size + 1, 1, none⟩ = false := blk_free HC.out
  have HC2 : Hid ((w0.setCell ⟨w.heap.size + 1, 1, none⟩ (.int .i64 2)).heap[w.heap.size + 1]? = some (.cells #[.int .i64 4, .int .i64 2, .int .i64 0, .int .i64 0] 47 (0, 0))) := Hid.in (blk_set (.int .i64 2) HC.out)
  have HM2 : Hid ((w0.setCell ⟨w.heap.size + 1, 1, none⟩ (.int .i64 2)).heap[w.heap.size]? = some (.cells #[.int .i64 k, .int .i64 c, .int .i64 l, .int .i64 t, .int .i64 o, .int .i64 e, .int .i64 w_, .int .u32 v, .int .u32 d0, .int .u32 d1, .int .u32 d2, .int .u32 d3, .bool h] 28 (0, 0))) := Hid.in ((Below.heap_setCell _ _ _ _ (by show w.heap.size ≠ w.heap.size + 1; omega)).trans HM.out)
  have HB2 : Hid (Below w.heap.size w (w0.setCell ⟨w.heap.size + 1, 1, none⟩ (.int .i64 2))) := Hid.in (HB.out.setCell (p := ⟨w.heap.size + 1, 1, none⟩) (by show w.heap.size ≤ w.heap.size + 1; omega) _)
  go_upto_region 8 with fail
  generalize hX : w0.setCell ⟨w.heap.size + 1, 1, none⟩ (.int .i64 2) = X at *
  clear hX z y HC HM HB
  have HC := HC2
  have HM := HM2
  have HB := HB2
  clear HC2 HM2 HB2
  go_wp2_with fail
  rw [rounds_succ]
  go_wp2_with fail
  refine (sPool_any 7 _).mono ?_
  rw [show poolS 7 = 1 from by decide]
  rintro r w0 ⟨rfl, rfl⟩
  have z : w0.cell? ⟨w.heap.size + 1, 1, none⟩ = some (.int .i64 2) := blk_cell HC.out rfl
  have y : w0.frozen? ⟨w.heap.size + 1, 1, none⟩ = false := blk_free HC.out
  have HC2 : Hid ((w0.setCell ⟨w.heap.size + 1, 1, none⟩ (.int .i64 3)).heap[w.heap.size + 1]? = some (.cells #[.int .i64 4, .int .i64 3, .int .i64 0, .int .i64 0] 47 (0, 0))) := Hid.in (blk_set (.int .i64 3) HC.out)
  have HM2 : Hid ((w0.setCell ⟨w.heap.size + 1, 1, none⟩ (.int .i64 3)).heap[w.heap.size]? = some (.cells #[.int .i64 k, .int .i64 c, .int .i64 l, .int .i64 t, .int .i64 o, .int .i64 e, .int .i64 w_, .int .u32 v, .int .u32 d0, .int .u32 d1, .int .u32 d2, .int .u32 d3, .bool h] 28 (0, 0))) := Hid.in ((Below.heap_setCell _ _ _ _ (by show w.heap.size ≠ w.heap.size + 1; omega)).trans HM.out)
  have HB2 : Hid (Below w.heap.size w (w0.setCell ⟨w.heap.size + 1, 1, none⟩ (.int .i64 3))) := Hid.in (HB.out.setCell (p := ⟨w.heap.size + 1, 1, none⟩) (by show w.heap.size ≤ w.heap.size + 1; omega) _)
  go_upto_region 8 with fail
  generalize hX : w0.setCell ⟨w.heap.size + 1, 1, none⟩ (.int .i64 3) = X at *
  clear hX z y HC HM HB
  have HC := HC2
  have HM := HM2
  have HB := HB2
  clear HC2 HM2 HB2
  go_wp2_with fail
  rw [rounds_succ]
  go_wp2_with fail
  refine (sPool_any 8 _).mono ?_
  rw [show poolS 8 = 1 from by decide]
  rintro r w0 ⟨rfl, rfl⟩
  have z : w0.cell? ⟨w.heap.size + 1, 1, none⟩ = some (.int .i64 3) := blk_cell HC.out rfl
  have y : w0.frozen? ⟨w.heap.size + 1, 1, none⟩ = false := blk_free HC.out
  have HC2 : Hid ((w0.setCell ⟨w.heap.size + 1, 1, none⟩ (.int .i64 4)).heap[w.heap.size + 1]? = some (.cells #[.int .i64 4, .int .i64 4, .int .i64 0, .int .i64 0] 47 (0, 0))) := Hid.in (blk_set (.int .i64 4) HC.out)
  have HM2 : Hid ((w0.setCell ⟨w.heap.size + 1, 1, none⟩ (.int .i64 4)).heap[w.heap.size]? = some (.cells #[.int .i64 k, .int .i64 c, .int .i64 l, .int .i64 t, .int .i64 o, .int .i64 e, .int .i64 w_, .int .u32 v, .int .u32 d0, .int .u32 d1, .int .u32 d2, .int .u32 d3, .bool h] 28 (0, 0))) := Hid.in ((Below.heap_setCell _ _ _ _ (by show w.heap.size ≠ w.heap.size + 1; omega)).trans HM.out)
  have HB2 : Hid (Below w.heap.size w (w0.setCell ⟨w.heap.size + 1, 1, none⟩ (.int .i64 4))) := Hid.in (HB.out.setCell (p := ⟨w.heap.size + 1, 1, none⟩) (by show w.heap.size ≤ w.heap.size + 1; omega) _)
  go_upto_region 8 with fail
  generalize hX : w0.setCell ⟨w.heap.size + 1, 1, none⟩ (.int .i64 4) = X at *
  clear hX z y HC HM HB
  have HC := HC2
  have HM := HM2
  have HB := HB2
  clear HC2 HM2 HB2
  go_wp2_with fail
  rw [rounds_succ]
  go_wp2_with fail
  refine (sPool_any 9 _).mono ?_
  rw [show poolS 9 = 1 from by decide]
  rintro r w0 ⟨rfl, rfl⟩
  have z : w0.cell? ⟨w.heap.size + 1, 1, none⟩ = some (.int .i64 4) := blk_cell HC.out rfl
  have y : w0.frozen? ⟨w.heap.size + 1, 1, none⟩ = false := blk_free HC.out
  have HC2 : Hid ((w0.setCell ⟨w.heap.size + 1, 1, none⟩ (.int .i64 5)).heap[w.heap.size + 1]? = some (.cells #[.int .i64 4, .int .i64 5, .int .i64 0, .int .i64 0] 47 (0, 0))) := Hid.in (blk_set (.int .i64 5) HC.out)
  have HM2 : Hid ((w0.setCell ⟨w.heap.size + 1, 1, none⟩ (.int .i64 5)).heap[w.heap.size]? = some (.cells #[.int .i64 k, .int .i64 c, .int .i64 l, .int .i64 t, .int .i64 o, .int .i64 e, .int .i64 w_, .int .u32 v, .int .u32 d0, .int .u32 d1, .int .u32 d2, .int .u32 d3, .bool h] 28 (0, 0))) := Hid.in ((Below.heap_setCell _ _ _ _ (by show w.heap.size ≠ w.heap.size + 1; omega)).trans HM.out)
  have HB2 : Hid (Below w.heap.size w (w0.setCell ⟨w.heap.size + 1, 1, none⟩ (.int .i64 5))) := Hid.in (HB.out.setCell (p := ⟨w.heap.size + 1, 1, none⟩) (by show w.heap.size ≤ w.heap.size + 1; omega) _)
  go_upto_region 8 with fail
  generalize hX : w0.setCell ⟨w.heap.size + 1, 1, none⟩ (.int .i64 5) = X at *
  clear hX z y HC HM HB
  have HC := HC2
  have HM := HM2
  have HB := HB2
  clear HC2 HM2 HB2
  go_wp2_with fail
  rw [rounds_succ]
  go_wp2_with fail
  refine (sPool_any 10 _).mono ?_
  rw [show poolS 10 = 1 from by decide]
  rintro r w0 ⟨rfl, rfl⟩
  have z : w0.cell? ⟨w.heap.size + 1, 1, none⟩ = some (.int .i64 5) := blk_cell HC.out rfl
  have y : w0.frozen? ⟨w.heap.size + 1, 1, none⟩ = false := blk_free HC.out
  have HC2 : Hid ((w0.setCell ⟨w.heap.size + 1, 1, none⟩ (.int .i64 6)).heap[w.heap.size + 1]? = some (.cells #[.int .i64 4, .int .i64 6, .int .i64 0, .int .i64 0] 47 (0, 0))) := Hid.in (blk_set (.int .i64 6) HC.out)
  have HM2 : Hid ((w0.setCell ⟨w.heap.size + 1, 1, none⟩ (.int .i64 6)).heap[w.heap.size]? = some (.cells #[.int .i64 k, .int .i64 c, .int .i64 l, .int .i64 t, .int .i64 o, .int .i64 e, .int .i64 w_, .int .u32 v, .int .u32 d0, .int .u32 d1, .int .u32 d2, .int .u32 d3, .bool h] 28 (0, 0))) := Hid.in ((Below.heap_setCell _ _ _ _ (by show w.heap.size ≠ w.heap.size + 1; omega)).trans HM.out)
  have HB2 : Hid (Below w.heap.size w (w0.setCell ⟨w.heap.size + 1, 1, none⟩ (.int .i64 6))) := Hid.in (HB.out.setCell (p := ⟨w.heap.size + 1, 1, none⟩) (by show w.heap.size ≤ w.heap.size + 1; omega) _)
  go_upto_region 8 with fail
  generalize hX : w0.setCell ⟨w.heap.size + 1, 1, none⟩ (.int .i64 6) = X at *
  clear hX z y HC HM HB
  have HC := HC2
  have HM := HM2
  have HB := HB2
  clear HC2 HM2 HB2
  go_wp2_with fail
  rw [rounds_succ]
  go_wp2_with fail
  refine (sPool_any 11 _).mono ?_
  rw [show poolS 11 = 2 from by decide]
  rintro r w0 ⟨rfl, rfl⟩
  have z : w0.cell? ⟨w.heap.size + 1, 2, none⟩ = some (.int .i64 0) := blk_cell HC.out rfl
  have y : w0.frozen? ⟨w.heap.size + 1, 2, none⟩ = false := blk_free HC.out
  have HC2 : Hid ((w0.setCell ⟨w.heap.size + 1, 2, none⟩ (.int .i64 1)).heap[w.heap.size + 1]? = some (.cells #[.int .i64 4, .int .i64 6, .int .i64 1, .int .i64 0] 47 (0, 0))) := Hid.in (blk_set (.int .i64 1) HC.out)
  have HM2 : Hid ((w0.setCell ⟨w.heap.size + 1, 2, none⟩ (.int .i64 1)).heap[w.heap.size]? = some (.cells #[.int .i64 k, .int .i64 c, .int .i64 l, .int .i64 t, .int .i64 o, .int .i64 e, .int .i64 w_, .int .u32 v, .int .u32 d0, .int .u32 d1, .int .u32 d2, .int .u32 d3, .bool h] 28 (0, 0))) := Hid.in ((Below.heap_setCell _ _ _ _ (by show w.heap.size ≠ w.heap.size + 1; omega)).trans HM.out)
  have HB2 : Hid (Below w.heap.size w (w0.setCell ⟨w.heap.size + 1, 2, none⟩ (.int .i64 1))) := Hid.in (HB.out.setCell (p := ⟨w.heap.size + 1, 2, none⟩) (by show w.heap.size ≤ w.heap.size + 1; omega) _)
  go_upto_region 8 with fail
  generalize hX : w0.setCell ⟨w.heap.size + 1, 2, none⟩ (.int .i64 1) = X at *
  clear hX z y HC HM HB
  have HC := HC2
  have HM := HM2
  have HB := HB2
  clear HC2 HM2 HB2
  go_wp2_with fail
  rw [rounds_succ]
  go_wp2_with fail
  refine (sPool_any 12 _).mono ?_
  rw [show poolS 12 = 2 from by decide]
  rintro r w0 ⟨rfl, rfl⟩
  have z : w0.cell? ⟨w.heap.size + 1, 2, none⟩ = some (.int .i64 1) := blk_cell HC.out rfl
  have y : w0.frozen? ⟨w.heap.size + 1, 2, none⟩ = false := blk_free HC.out
  have HC2 : Hid ((w0.setCell ⟨w.heap.size + 1, 2, none⟩ (.int .i64 2)).heap[w.heap.size + 1]? = some (.cells #[.int .i64 4, .int .i64 6, .int .i64 2, .int .i64 0] 47 (0, 0))) := Hid.in (blk_set (.int .i64 2) HC.out)
  have HM2 : Hid ((w0.setCell ⟨w.heap.size + 1, 2, none⟩ (.int .i64 2)).heap[w.heap.size]? = some (.cells #[.int .i64 k, .int .i64 c, .int .i64 l, .int .i64 t, .int .i64 o, .int .i64 e, .int .i64 w_, .int .u32 v, .int .u32 d0, .int .u32 d1, .int .u32 d2, .int .u32 d3, .bool h] 28 (0, 0))) := Hid.in ((Below.heap_setCell _ _ _ _ (by show w.heap.size ≠ w.heap.size + 1; omega)).trans HM.out)
  have HB2 : Hid (Below w.heap.size w (w0.setCell ⟨w.heap.size + 1, 2, none⟩ (.int .i64 2))) := Hid.in (HB.out.setCell (p := ⟨w.heap.size + 1, 2, none⟩) (by show w.heap.size ≤ w.heap.size + 1; omega) _)
  go_upto_region 8 with fail
  generalize hX : w0.setCell ⟨w.heap.size + 1, 2, none⟩ (.int .i64 2) = X at *
  clear hX z y HC HM HB
  have HC := HC2
  have HM := HM2
  have HB := HB2
  clear HC2 HM2 HB2
  go_wp2_with fail
  rw [rounds_succ]
  go_wp2_with fail
  refine (sPool_any 13 _).mono ?_
  rw [show poolS 13 = 3 from by decide]
  rintro r w0 ⟨rfl, rfl⟩
  have z : w0.cell? ⟨w.heap.size + 1, 3, none⟩ = some (.int .i64 0) := blk_cell HC.out rfl
  have y : w0.frozen? ⟨w.heap.size + 1, 3, none⟩ = false := blk_free HC.out
  have HC2 : Hid ((w0.setCell ⟨w.heap.size + 1, 3, none⟩ (.int .i64 1)).heap[w.heap.size + 1]? = some (.cells #[.int .i64 4, .int .i64 6, .int .i64 2, .int .i64 1] 47 (0, 0))) := Hid.in (blk_set (.int .i64 1) HC.out)
  have HM2 : Hid ((w0.setCell ⟨w.heap.size + 1, 3, none⟩ (.int .i64 1)).heap[w.heap.size]? = some (.cells #[.int .i64 k, .int .i64 c, .int .i64 l, .int .i64 t, .int .i64 o, .int .i64 e, .int .i64 w_, .int .u32 v, .int .u32 d0, .int .u32 d1, .int .u32 d2, .int .u32 d3, .bool h] 28 (0, 0))) := Hid.in ((Below.heap_setCell _ _ _ _ (by show w.heap.size ≠ w.heap.size + 1; omega)).trans HM.out)
  have HB2 : Hid (Below w.heap.size w (w0.setCell ⟨w.heap.size + 1, 3, none⟩ (.int .i64 1))) := Hid.in (HB.out.setCell (p := ⟨w.heap.size + 1, 3, none⟩) (by show w.heap.size ≤ w.heap.size + 1; omega) _)
  go_upto_region 8 with fail
  generalize hX : w0.setCell ⟨w.heap.size + 1, 3, none⟩ (.int .i64 1) = X at *
  clear hX z y HC HM HB
  have HC := HC2
  have HM := HM2
  have HB := HB2
  clear HC2 HM2 HB2
  go_wp2_with fail
  rw [rounds_succ]
  go_wp2_with fail
  refine (sPool_any 14 _).mono ?_
  rw [show poolS 14 = 3 from by decide]
  rintro r w0 ⟨rfl, rfl⟩
  have z : w0.cell? ⟨w.heap.size + 1, 3, none⟩ = some (.int .i64 1) := blk_cell HC.out rfl
  have y : w0.frozen? ⟨w.heap.size + 1, 3, none⟩ = false := blk_free HC.out
  have HC2 : Hid ((w0.setCell ⟨w.heap.size + 1, 3, none⟩ (.int .i64 2)).heap[w.heap.size + 1]? = some (.cells #[.int .i64 4, .int .i64 6, .int .i64 2, .int .i64 2] 47 (0, 0))) := Hid.in (blk_set (.int .i64 2) HC.out)
  have HM2 : Hid ((w0.setCell ⟨w.heap.size + 1, 3, none⟩ (.int .i64 2)).heap[w.heap.size]? = some (.cells #[.int .i64 k, .int .i64 c, .int .i64 l, .int .i64 t, .int .i64 o, .int .i64 e, .int .i64 w_, .int .u32 v, .int .u32 d0, .int .u32 d1, .int .u32 d2, .int .u32 d3, .bool h] 28 (0, 0))) := Hid.in ((Below.heap_setCell _ _ _ _ (by show w.heap.size ≠ w.heap.size + 1; omega)).trans HM.out)
  have HB2 : Hid (Below w.heap.size w (w0.setCell ⟨w.heap.size + 1, 3, none⟩ (.int .i64 2))) := Hid.in (HB.out.setCell (p := ⟨w.heap.size + 1, 3, none⟩) (by show w.heap.size ≤ w.heap.size + 1; omega) _)
  go_upto_region 8 with fail
  generalize hX : w0.setCell ⟨w.heap.size + 1, 3, none⟩ (.int .i64 2) = X at *
  clear hX z y HC HM HB
  have HC := HC2
  have HM := HM2
  have HB := HB2
  clear HC2 HM2 HB2
  go_wp2_with fail
  rw [rounds_succ]
  go_wp2_with fail
  refine (sPool_any 15 _).mono ?_
  rw [show poolS 15 = 3 from by decide]
  rintro r w0 ⟨rfl, rfl⟩
  have z : w0.cell? ⟨w.heap.size + 1, 3, none⟩ = some (.int .i64 2) := blk_cell HC.out rfl
  have y : w0.frozen? ⟨w.heap.size + 1, 3, none⟩ = false := blk_free HC.out
  have HC2 : Hid ((w0.setCell ⟨w.heap.size + 1, 3, none⟩ (.int .i64 3)).heap[w.heap.size + 1]? = some (.cells #[.int .i64 4, .int .i64 6, .int .i64 2, .int .i64 3] 47 (0, 0))) := Hid.in (blk_set (.int .i64 3) HC.out)
  have HM2 : Hid ((w0.setCell ⟨w.heap.size + 1, 3, none⟩ (.int .i64 3)).heap[w.heap.size]? = some (.cells #[.int .i64 k, .int .i64 c, .int .i64 l, .int .i64 t, .int .i64 o, .int .i64 e, .int .i64 w_, .int .u32 v, .int .u32 d0, .int .u32 d1, .int .u32 d2, .int .u32 d3, .bool h] 28 (0, 0))) := Hid.in ((Below.heap_setCell _ _ _ _ (by show w.heap.size ≠ w.heap.size + 1; omega)).trans HM.out)
  have HB2 : Hid (Below w.heap.size w (w0.setCell ⟨w.heap.size + 1, 3, none⟩ (.int .i64 3))) := Hid.in (HB.out.setCell (p := ⟨w.heap.size + 1, 3, none⟩) (by show w.heap.size ≤ w.heap.size + 1; omega) _)
  go_upto_region 8 with fail
  generalize hX : w0.setCell ⟨w.heap.size + 1, 3, none⟩ (.int .i64 3) = X at *
  clear hX z y HC HM HB
  have HC := HC2
  have HM := HM2
  have HB := HB2
  clear HC2 HM2 HB2
  go_wp2_with fail
  rw [rounds_succ]
  have z : X.cell? ⟨w.heap.size, 0, none⟩ = some (.int .i64 k) := blk_cell HM.out rfl
  have y : X.frozen? ⟨w.heap.size, 0, none⟩ = false := blk_free HM.out
  have HC2 : Hid ((X.setCell ⟨w.heap.size, 0, none⟩ (.int .i64 kd)).heap[w.heap.size + 1]? = some (.cells #[.int .i64 4, .int .i64 6, .int .i64 2, .int .i64 3] 47 (0, 0))) := Hid.in ((Below.heap_setCell _ _ _ _ (by show w.heap.size + 1 ≠ w.heap.size; omega)).trans HC.out)
  have HM2 : Hid ((X.setCell ⟨w.heap.size, 0, none⟩ (.int .i64 kd)).heap[w.heap.size]? = some (.cells #[.int .i64 kd, .int .i64 c, .int .i64 l, .int .i64 t, .int .i64 o, .int .i64 e, .int .i64 w_, .int .u32 v, .int .u32 d0, .int .u32 d1, .int .u32 d2, .int .u32 d3, .bool h] 28 (0, 0))) := Hid.in (blk_set (.int .i64 kd) HM.out)
  have HB2 : Hid (Below w.heap.size w (X.setCell ⟨w.heap.size, 0, none⟩ (.int .i64 kd))) := Hid.in (HB.out.setCell (p := ⟨w.heap.size, 0, none⟩) (Nat.le_refl _) _)
  go_upto_region 14 with fail
  generalize hX : X.setCell ⟨w.heap.size, 0, none⟩ (.int .i64 kd) = Y at *
  clear hX z y HC HM HB
  have z0 : Y.cell? ⟨w.heap.size + 1, 0, none⟩ = some (.int .i64 4) := blk_cell HC2.out rfl
  have z1 : Y.cell? ⟨w.heap.size + 1, 1, none⟩ = some (.int .i64 6) := blk_cell HC2.out rfl
  have z2 : Y.cell? ⟨w.heap.size + 1, 2, none⟩ = some (.int .i64 2) := blk_cell HC2.out rfl
  have z3 : Y.cell? ⟨w.heap.size + 1, 3, none⟩ = some (.int .i64 3) := blk_cell HC2.out rfl
  have ha := eq_arr4 Y
  have x0 : Y.cell? ⟨w.heap.size, 0, none⟩ = some (.int .i64 kd) := blk_cell HM2.out rfl
  have x1 : Y.cell? ⟨w.heap.size, 1, none⟩ = some (.int .i64 c) := blk_cell HM2.out rfl
  have x2 : Y.cell? ⟨w.heap.size, 2, none⟩ = some (.int .i64 l) := blk_cell HM2.out rfl
  have x3 : Y.cell? ⟨w.heap.size, 3, none⟩ = some (.int .i64 t) := blk_cell HM2.out rfl
  have x4 : Y.cell? ⟨w.heap.size, 4, none⟩ = some (.int .i64 o) := blk_cell HM2.out rfl
  have x5 : Y.cell? ⟨w.heap.size, 5, none⟩ = some (.int .i64 e) := blk_cell HM2.out rfl
  have x6 : Y.cell? ⟨w.heap.size, 6, none⟩ = some (.int .i64 w_) := blk_cell HM2.out rfl
  have x7 : Y.cell? ⟨w.heap.size, 7, none⟩ = some (.int .u32 v) := blk_cell HM2.out rfl
  have x8 : Y.cell? ⟨w.heap.size, 8, none⟩ = some (.int .u32 d0) := blk_cell HM2.out rfl
  have x9 : Y.cell? ⟨w.heap.size, 9, none⟩ = some (.int .u32 d1) := blk_cell HM2.out rfl
  have x10 : Y.cell? ⟨w.heap.size, 10, none⟩ = some (.int .u32 d2) := blk_cell HM2.out rfl
  have x11 : Y.cell? ⟨w.heap.size, 11, none⟩ = some (.int .u32 d3) := blk_cell HM2.out rfl
  have x12 : Y.cell? ⟨w.heap.size, 12, none⟩ = some (.bool h) := blk_cell HM2.out rfl
  have hr := sRight_any (kd, c, l, t, o, e, w_, v, d0, d1, d2, d3, h) Y HQ.out HQ4.out
  rw [kind_out _ _ _ _ _ _ _ _ _ _ _ _ _ HK.out] at hr
  simp only [mv] at hr
  go_wp2_with fail
  refine hr.mono ?_
  rintro r Y2 ⟨rfl, hb⟩
  have HB3 := Hid.in (bstep HB2.out (Nat.le_refl _) hb)
  clear hr hb x0 x1 x2 x3 x4 x5 x6 x7 x8 x9 x10 x11 x12 z0 z1 z2 z3 ha
  go_wp2_with fail
  refine (msgRuns_any _ sa (HE.out.below HB3.out)).mono ?_
  rintro r Z ⟨rfl, hb⟩
  have HB4 := Hid.in (bstep HB3.out (Nat.le_refl _) hb)
  clear hb
  go_wp2
  go_ret
  exact ⟨rfl, HB4.out⟩

theorem msgPools_any (w : World) (sa : Nat → Addr) (hE : Env10 w sa) (kd : Int) (hk : -9223372036854775808 ≤ kd ∧ kd ≤ 9223372036854775807) (m : M13) (h32 : M32 m) (h64 : M64 m) :
    Calls Tryd.prog 7 #[.int .i64 kd, .agg (mv m)] w fun r w' => r = .returned (.bool true) ∧ Below w.heap.size w w' := by
  obtain ⟨k, c, l, t, o, e, w_, v, d0, d1, d2, d3, h⟩ := m
  have h64' : M64 (kd, c, l, t, o, e, w_, v, d0, d1, d2, d3, h) := ⟨hk, h64.2⟩
  rcases Int.lt_or_le kd 1 with h1 | h1
  · exact msgPools_low w sa hE kd k c l t o e w_ v d0 d1 d2 d3 h h32 h64' h1
  · rcases Int.lt_or_le 15 kd with h2 | h2
    · exact msgPools_high w sa hE kd k c l t o e w_ v d0 d1 d2 d3 h h32 h64' h2
    · exact msgPools_in w sa hE kd k c l t o e w_ v d0 d1 d2 d3 h h32 h64' h1 h2

end Go.Proofs.YtmlmiejanfcopaaDoor
