/- DERIVED of the program: fit of a commit. Own work. -/
import Derived.Test.YtncgjclehplfeaaDoorTsFit
namespace Go.Proofs.YtncgjclehplfeaaDoor
open Go.RowKit Go.Extern.Stop Go.Stop Go.Extern

set_option maxHeartbeats 12800000 in
set_option maxRecDepth 20000 in
theorem fit_com (w : World) (q N : Nat) (S : List Nat) (A : List (List (Int × Int))) (M : List Int) (hT : RM w q S N A M) (m x : Nat) (hm : m < A.length) (hx : x < M.length) (v n : Int) (d : Bool) :
    Calls Tryd.prog 17 #[.pointer (some ⟨q, 0, none⟩), evv 3 (m : Int) (x : Int) v n d] w fun r w' => r = .returned (match A.getD m [] with | [] => evv 3 (m : Int) (x : Int) v n d | p :: _ => evv 3 (m : Int) p.1 p.2 n d) ∧ Below w.heap.size w w' := by
  obtain ⟨bb, o, capb, ao, cap, j0, j1, _, hO, _, _⟩ := hT.row hm
  obtain ⟨mb, mo, capm, j2, j3, _, _⟩ := hT.mset hx
  have HO := Hid.in hO
  obtain ⟨L, hL⟩ : ∃ L, A.getD m [] = L := ⟨_, rfl⟩
  rw [hL] at j1 HO
  rw [hL]
  clear hL
  obtain ⟨nA, hnA⟩ : ∃ n, A.length = n := ⟨_, rfl⟩
  obtain ⟨nM, hnM⟩ : ∃ n, M.length = n := ⟨_, rfl⟩
  rw [hnA] at j0 hm
  rw [hnM] at j2 hx
  have i1 : (m : Int) < (nA : Int) := by omega
  have i2 : (x : Int) < (nM : Int) := by omega
  clear hT hO hnA hnM
  go_enter Tryd.func17, Tryd.ntmps17
  go_upto_region 1 with fail
  generalize hwx : (w.alloc _).alloc _ = wx
  have HB : Hid (Below w.heap.size w wx) := Hid.in (by rw [← hwx]; exact bstep (below_alloc _ _) (Nat.le_refl _) (below_alloc _ _))
  have hb0 : wx.heap[w.heap.size]? = some (.cells #[.int .i64 3, .int .i64 (m : Int), .int .i64 (x : Int), .int .u32 v, .int .u32 n, .bool d] 24 (0, 0)) := by
    rw [← hwx]
    exact ((below_alloc (w.alloc (.cells #[.int .i64 3, .int .i64 (m : Int), .int .i64 (x : Int), .int .u32 v, .int .u32 n, .bool d] 24)) _).block _ (by simp)).trans (heap_alloc_new _ _)
  have hb1 : wx.heap[w.heap.size + 1]? = some (.cells #[.int .i64 0, .int .i64 0, .int .i64 0, .int .u32 0, .int .u32 0, .bool false] 24 (0, 0)) := by
    rw [← hwx]
    have h := heap_alloc_new (w.alloc (.cells #[.int .i64 3, .int .i64 (m : Int), .int .i64 (x : Int), .int .u32 v, .int .u32 n, .bool d] 24)) (.cells #[.int .i64 0, .int .i64 0, .int .i64 0, .int .u32 0, .int .u32 0, .bool false] 24)
    rw [show (w.alloc (.cells #[.int .i64 3, .int .i64 (m : Int), .int .i64 (x : Int), .int .u32 v, .int .u32 n, .bool d] 24)).heap.size = w.heap.size + 1 by simp] at h
    exact h
  have e0 := blk_cell (i := 0) hb0 rfl
  have e1 := blk_cell (i := 1) hb0 rfl
  have e2 := blk_cell (i := 2) hb0 rfl
  have e3 := blk_cell (i := 3) hb0 rfl
  have e4 := blk_cell (i := 4) hb0 rfl
  have e5 := blk_cell (i := 5) hb0 rfl
  have ef : ∀ i, wx.frozen? ⟨w.heap.size, i, none⟩ = false := fun i => blk_free hb0
  have HB0 := Hid.in hb0
  have HB1 := Hid.in hb1
  have f0 := blk_cell (i := 0) hb1 rfl
  have f1 := blk_cell (i := 1) hb1 rfl
  have f2 := blk_cell (i := 2) hb1 rfl
  have f3 := blk_cell (i := 3) hb1 rfl
  have f4 := blk_cell (i := 4) hb1 rfl
  have f5 := blk_cell (i := 5) hb1 rfl
  have ff : ∀ i, wx.frozen? ⟨w.heap.size + 1, i, none⟩ = false := fun i => blk_free hb1
  clear hwx hb0 hb1
  have k0 : wx.cell? ⟨q, 0, none⟩ = _ := (HB.out.cell (p := ⟨q, 0, none⟩) (lt_cell j0)).trans j0
  have k1 : wx.cell? ⟨bb, o + m, none⟩ = _ := (HB.out.cell (p := ⟨bb, o + m, none⟩) (lt_cell j1)).trans j1
  have k2 : wx.cell? ⟨q, 1, none⟩ = _ := (HB.out.cell (p := ⟨q, 1, none⟩) (lt_cell j2)).trans j2
  have k3 : wx.cell? ⟨mb, mo + x, none⟩ = _ := (HB.out.cell (p := ⟨mb, mo + x, none⟩) (lt_cell j3)).trans j3
  clear j0 j1 j2 j3
  cases L with
  | nil =>
    rw [List.length_nil] at k1
    go_quiet (fail)
    go_wp2
    go_quiet (fail)
    go_wp2
    generalize hw4 : World.setCell _ ⟨w.heap.size + 1, 5, none⟩ _ = w4
    have hq4 : w4.heap[w.heap.size + 1]? = some (.cells #[.int .i64 3, .int .i64 (m : Int), .int .i64 (x : Int), .int .u32 v, .int .u32 n, .bool d] 24 (0, 0)) := by rw [← hw4]; exact blk_set (i := 5) (.bool d) (blk_set (i := 4) (.int .u32 n) (blk_set (i := 3) (.int .u32 v) (blk_set (i := 2) (.int .i64 (x : Int)) (blk_set (i := 1) (.int .i64 (m : Int)) (blk_set (i := 0) (.int .i64 3) (HB1.out))))))
    have r0 : w4.cell? ⟨w.heap.size + 1, 0, none⟩ = some (.int .i64 3) := blk_cell hq4 rfl
    have r1 : w4.cell? ⟨w.heap.size + 1, 1, none⟩ = some (.int .i64 (m : Int)) := blk_cell hq4 rfl
    have r2 : w4.cell? ⟨w.heap.size + 1, 2, none⟩ = some (.int .i64 (x : Int)) := blk_cell hq4 rfl
    have r3 : w4.cell? ⟨w.heap.size + 1, 3, none⟩ = some (.int .u32 v) := blk_cell hq4 rfl
    have r4 : w4.cell? ⟨w.heap.size + 1, 4, none⟩ = some (.int .u32 n) := blk_cell hq4 rfl
    have r5 : w4.cell? ⟨w.heap.size + 1, 5, none⟩ = some (.bool d) := blk_cell hq4 rfl
    have hbz : Below w.heap.size w w4 := by rw [← hw4]; exact (((((((drewN_below HB.out _).setCell (Nat.le_succ _) _).setCell (Nat.le_succ _) _).setCell (Nat.le_succ _) _).setCell (Nat.le_succ _) _).setCell (Nat.le_succ _) _).setCell (Nat.le_succ _) _)
    (try simp only [Exit.inBlock, Exit.then])
    exact bodyPost_ret (v := evv 3 (m : Int) (x : Int) v n d) (by simp [results, Tryd.results17, go_sem, r0, r1, r2, r3, r4, r5]) rfl ⟨rfl, hbz⟩
  | cons p R =>
    obtain ⟨px, py⟩ := p
    obtain ⟨nL, hnL⟩ : ∃ n, ((px, py) :: R).length = n := ⟨_, rfl⟩
    rw [hnL] at k1 HO
    have hn0 : 0 < nL := by rw [← hnL]; simp
    obtain ⟨b, o', x', y', hao, y0, y1, hxy⟩ := (HO.out.step HB.out).wat 0 hn0
    cases hxy
    subst hao
    rw [Nat.zero_mul, Nat.add_zero] at y0 y1
    have i3 : (0 : Int) < (nL : Int) := by omega
    have hbw : b < w.heap.size := by obtain ⟨_, cur, hc⟩ := HO.out.blk b rfl; exact blk_lt hc
    have HBW := Hid.in hbw
    clear hnL hbw
    go_quiet (fail)
    go_wp2
    go_quiet (fail)
    go_upto_region 9 with fail
    generalize hwy : wx.drewN _ = wy
    have HBY : Hid (Below w.heap.size w wy) := Hid.in (by rw [← hwy]; exact drewN_below HB.out _)
    have Y0 : wy.cell? ⟨b, o', none⟩ = some (.int .i64 px) := by rw [← hwy]; exact y0
    have Y1 : wy.cell? ⟨b, o' + 1, none⟩ = some (.int .u32 py) := by rw [← hwy]; exact y1
    have HZ0 : Hid (wy.heap[w.heap.size]? = some (.cells #[.int .i64 3, .int .i64 (m : Int), .int .i64 (x : Int), .int .u32 v, .int .u32 n, .bool d] 24 (0, 0))) := Hid.in (by rw [← hwy]; exact HB0.out)
    have HZ1 : Hid (wy.heap[w.heap.size + 1]? = some (.cells #[.int .i64 0, .int .i64 0, .int .i64 0, .int .u32 0, .int .u32 0, .bool false] 24 (0, 0))) := Hid.in (by rw [← hwy]; exact HB1.out)
    clear hwy e0 e1 e2 e3 e4 e5 f0 f1 f2 f3 f4 f5 ff ef y0 y1 k0 k1 k2 k3
    refine wp_region_but (fun W => cellIs b o' (.int .i64 px) W ∧ cellIs b (o' + 1) (.int .u32 py) W) 11 (by kernel_rfl) ?_
    have HS : Hid (cellIs b o' (.int .i64 px) wy.drew ∧ cellIs b (o' + 1) (.int .u32 py) wy.drew) := Hid.in ⟨Y0, Y1⟩
    refine wpBut_take (i := 0) (v := ?_) rfl (by kernel_rfl) (by kernel_rfl) (by exact fun _ _ _ h => h) HS.out (Or.inl ⟨by rfl, ?_⟩) ?_
    case refine_2 => (intro w hSw; obtain ⟨s1, s2⟩ := hSw; simp only [cellIs] at s1 s2; go_simp; try with_reducible rfl)
    simp only [Act.put, List.setIfInBounds_toArray, List.set_cons_zero, List.set_cons_succ]
    refine wpBut_take (i := 1) (v := ?_) rfl (by kernel_rfl) (by kernel_rfl) (by exact fun _ _ _ h => h) HS.out (Or.inl ⟨by rfl, ?_⟩) ?_
    case refine_2 => (intro w hSw; obtain ⟨s1, s2⟩ := hSw; simp only [cellIs] at s1 s2; go_simp; try with_reducible rfl)
    simp only [Act.put, List.setIfInBounds_toArray, List.set_cons_zero, List.set_cons_succ]
    refine wpBut_take (i := 2) (v := ?_) rfl (by kernel_rfl) (by kernel_rfl) (by exact fun _ _ _ h => h) HS.out (Or.inl ⟨by rfl, ?_⟩) ?_
    case refine_2 => (intro w hSw; obtain ⟨s1, s2⟩ := hSw; simp only [cellIs] at s1 s2; go_simp; try with_reducible rfl)
    simp only [Act.put, List.setIfInBounds_toArray, List.set_cons_zero, List.set_cons_succ]
    refine wpBut_take (i := 3) (v := ?_) rfl (by kernel_rfl) (by kernel_rfl) (by exact fun _ _ _ h => h) HS.out (Or.inl ⟨by rfl, ?_⟩) ?_
    case refine_2 => (intro w hSw; obtain ⟨s1, s2⟩ := hSw; simp only [cellIs] at s1 s2; go_simp; try with_reducible rfl)
    simp only [Act.put, List.setIfInBounds_toArray, List.set_cons_zero, List.set_cons_succ]
    refine wpBut_take (i := 4) (v := ?_) rfl (by kernel_rfl) (by kernel_rfl) (by exact fun _ _ _ h => h) HS.out (Or.inl ⟨by rfl, ?_⟩) ?_
    case refine_2 => (intro w hSw; obtain ⟨s1, s2⟩ := hSw; simp only [cellIs] at s1 s2; go_simp; try with_reducible rfl)
    simp only [Act.put, List.setIfInBounds_toArray, List.set_cons_zero, List.set_cons_succ]
    refine wpBut_take (i := 5) (v := ?_) rfl (by kernel_rfl) (by kernel_rfl) (by exact fun _ _ _ h => h) HS.out (Or.inl ⟨by rfl, ?_⟩) ?_
    case refine_2 => (intro w hSw; obtain ⟨s1, s2⟩ := hSw; simp only [cellIs] at s1 s2; go_simp; try with_reducible rfl)
    simp only [Act.put, List.setIfInBounds_toArray, List.set_cons_zero, List.set_cons_succ]
    refine wpBut_take (i := 6) (v := ?_) rfl (by kernel_rfl) (by kernel_rfl) (by exact fun _ _ _ h => h) HS.out (Or.inl ⟨by rfl, ?_⟩) ?_
    case refine_2 => (intro w hSw; obtain ⟨s1, s2⟩ := hSw; simp only [cellIs] at s1 s2; go_simp; try with_reducible rfl)
    simp only [Act.put, List.setIfInBounds_toArray, List.set_cons_zero, List.set_cons_succ]
    refine wpBut_take (i := 7) (v := ?_) rfl (by kernel_rfl) (by kernel_rfl) (by exact fun _ _ _ h => h) HS.out (Or.inl ⟨by rfl, ?_⟩) ?_
    case refine_2 => (intro w hSw; obtain ⟨s1, s2⟩ := hSw; simp only [cellIs] at s1 s2; go_simp; try with_reducible rfl)
    simp only [Act.put, List.setIfInBounds_toArray, List.set_cons_zero, List.set_cons_succ]
    refine wpBut_take (i := 8) (v := ?_) rfl (by kernel_rfl) (by kernel_rfl) (by exact fun _ _ _ h => h) HS.out (Or.inl ⟨by rfl, ?_⟩) ?_
    case refine_2 => (intro w hSw; obtain ⟨s1, s2⟩ := hSw; simp only [cellIs] at s1 s2; go_simp; try with_reducible rfl)
    simp only [Act.put, List.setIfInBounds_toArray, List.set_cons_zero, List.set_cons_succ]
    refine wpBut_one (i := 9) rfl (by kernel_rfl) (fun K HK => ?_)
    have t2 : wy.drew.cell? ⟨w.heap.size, 2, none⟩ = some (.int .i64 (x : Int)) := blk_cell (w := wy.drew) HZ0.out rfl
    have tf2 : wy.drew.frozen? ⟨w.heap.size, 2, none⟩ = false := blk_free (w := wy.drew) HZ0.out
    go_simp
    have hne : ∀ i, (⟨w.heap.size, 2, none⟩ : Addr) ≠ ⟨b, i, none⟩ := fun i e => by have := congrArg Addr.block e; have := HBW.out; simp only [] at *; omega
    refine HK.out _ _ (fun _ => ⟨(World.cell?_setCell_other _ _ _ _ (hne _)).trans Y0, (World.cell?_setCell_other _ _ _ _ (hne _)).trans Y1⟩) ?_
    clear HK K t2 tf2
    try simp only [Act.put, List.setIfInBounds_toArray, List.set_cons_zero, List.set_cons_succ]
    have HS2 : Hid (cellIs b o' (.int .i64 px) (wy.setCell ⟨w.heap.size, 2, none⟩ (.int .i64 px)).drew ∧ cellIs b (o' + 1) (.int .u32 py) (wy.setCell ⟨w.heap.size, 2, none⟩ (.int .i64 px)).drew) := Hid.in ⟨(World.cell?_setCell_other _ _ _ _ (hne _)).trans Y0, (World.cell?_setCell_other _ _ _ _ (hne _)).trans Y1⟩
    refine wpBut_take (i := 10) (v := ?_) rfl (by kernel_rfl) (by kernel_rfl) (by exact fun _ _ _ h => h) HS2.out (Or.inl ⟨by rfl, ?_⟩) ?_
    case refine_2 => (intro w hSw; obtain ⟨s1, s2⟩ := hSw; simp only [cellIs] at s1 s2; go_simp; try with_reducible rfl)
    simp only [Act.put, List.setIfInBounds_toArray, List.set_cons_zero, List.set_cons_succ]
    refine wpBut_one (i := 11) rfl (by kernel_rfl) (fun K HK => ?_)
    have HZ2 := Hid.in (blk_set (i := 2) (.int .i64 px) HZ0.out)
    have t3 : (wy.setCell ⟨w.heap.size, 2, none⟩ (.int .i64 px)).drew.cell? ⟨w.heap.size, 3, none⟩ = some (.int .u32 v) := blk_cell (w := (wy.setCell ⟨w.heap.size, 2, none⟩ (.int .i64 px)).drew) HZ2.out rfl
    have tf3 : (wy.setCell ⟨w.heap.size, 2, none⟩ (.int .i64 px)).drew.frozen? ⟨w.heap.size, 3, none⟩ = false := blk_free (w := (wy.setCell ⟨w.heap.size, 2, none⟩ (.int .i64 px)).drew) HZ2.out
    have t3' : wy.cell? ⟨w.heap.size, 3, none⟩ = some (.int .u32 v) := blk_cell HZ0.out rfl
    have tf3' : wy.frozen? ⟨w.heap.size, 3, none⟩ = false := blk_free HZ0.out
    go_simp
    refine HK.out _ _ (fun h => absurd rfl h) ?_
    clear HK K HS HS2 t3 tf3 t3' tf3'
    refine wpBut_done (by kernel_rfl) ?_ _
    have HZ3 := Hid.in (blk_set (i := 3) (.int .u32 py) HZ2.out)
    generalize hw9 : World.drew (World.setCell (World.setCell wy ⟨w.heap.size, 2, none⟩ (.int .i64 px)) ⟨w.heap.size, 3, none⟩ (.int .u32 py)) = w9
    have hz9 : w9.heap[w.heap.size]? = some (.cells #[.int .i64 3, .int .i64 (m : Int), .int .i64 px, .int .u32 py, .int .u32 n, .bool d] 24 (0, 0)) := by rw [← hw9]; exact HZ3.out
    have HB9 : Hid (w9.heap[w.heap.size + 1]? = some (.cells #[.int .i64 0, .int .i64 0, .int .i64 0, .int .u32 0, .int .u32 0, .bool false] 24 (0, 0))) := Hid.in (by
      rw [← hw9]
      exact (Below.heap_setCell _ _ _ _ (Nat.succ_ne_self _)).trans ((Below.heap_setCell _ _ _ _ (Nat.succ_ne_self _)).trans HZ1.out))
    have HBB9 : Hid (Below w.heap.size w w9) := Hid.in (by rw [← hw9]; exact ((HBY.out.setCell (Nat.le_refl _) _).setCell (Nat.le_refl _) _).drew)
    have g0 := blk_cell (i := 0) hz9 rfl
    have g1 := blk_cell (i := 1) hz9 rfl
    have g2 := blk_cell (i := 2) hz9 rfl
    have g3 := blk_cell (i := 3) hz9 rfl
    have g4 := blk_cell (i := 4) hz9 rfl
    have g5 := blk_cell (i := 5) hz9 rfl
    have f0 := blk_cell (i := 0) HB9.out rfl
    have f1 := blk_cell (i := 1) HB9.out rfl
    have f2 := blk_cell (i := 2) HB9.out rfl
    have f3 := blk_cell (i := 3) HB9.out rfl
    have f4 := blk_cell (i := 4) HB9.out rfl
    have f5 := blk_cell (i := 5) HB9.out rfl
    have ff : ∀ i, w9.frozen? ⟨w.heap.size + 1, i, none⟩ = false := fun i => blk_free HB9.out
    clear hw9 hz9
    go_wp2
    generalize hw4 : World.setCell _ ⟨w.heap.size + 1, 5, none⟩ _ = w4
    have hq4 : w4.heap[w.heap.size + 1]? = some (.cells #[.int .i64 3, .int .i64 (m : Int), .int .i64 px, .int .u32 py, .int .u32 n, .bool d] 24 (0, 0)) := by rw [← hw4]; exact blk_set (i := 5) (.bool d) (blk_set (i := 4) (.int .u32 n) (blk_set (i := 3) (.int .u32 py) (blk_set (i := 2) (.int .i64 px) (blk_set (i := 1) (.int .i64 (m : Int)) (blk_set (i := 0) (.int .i64 3) (HB9.out))))))
    have r0 : w4.cell? ⟨w.heap.size + 1, 0, none⟩ = some (.int .i64 3) := blk_cell hq4 rfl
    have r1 : w4.cell? ⟨w.heap.size + 1, 1, none⟩ = some (.int .i64 (m : Int)) := blk_cell hq4 rfl
    have r2 : w4.cell? ⟨w.heap.size + 1, 2, none⟩ = some (.int .i64 px) := blk_cell hq4 rfl
    have r3 : w4.cell? ⟨w.heap.size + 1, 3, none⟩ = some (.int .u32 py) := blk_cell hq4 rfl
    have r4 : w4.cell? ⟨w.heap.size + 1, 4, none⟩ = some (.int .u32 n) := blk_cell hq4 rfl
    have r5 : w4.cell? ⟨w.heap.size + 1, 5, none⟩ = some (.bool d) := blk_cell hq4 rfl
    have hbz : Below w.heap.size w w4 := by rw [← hw4]; exact (((((((HBB9.out).setCell (Nat.le_succ _) _).setCell (Nat.le_succ _) _).setCell (Nat.le_succ _) _).setCell (Nat.le_succ _) _).setCell (Nat.le_succ _) _).setCell (Nat.le_succ _) _)
    (try simp only [Exit.inBlock, Exit.then])
    exact bodyPost_ret (v := evv 3 (m : Int) px py n d) (by simp [results, Tryd.results17, go_sem, r0, r1, r2, r3, r4, r5]) rfl ⟨rfl, hbz⟩
end Go.Proofs.YtncgjclehplfeaaDoor
