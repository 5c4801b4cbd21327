/- DERIVED of the program: fit: an event that the model may do. Own work. -/
import Derived.Test.YtncgjclehplfeaaDoorTsR2
namespace Go.Proofs.YtncgjclehplfeaaDoor
open Go.RowKit Go.Extern.Stop Go.Stop Go.Extern

/-- The event made one that fits. -/
def fitE (A : List (List (Int × Int))) (M : List Int) (e : Ev) : Ev :=
  if (0 ≤ e.c ∧ e.c < (A.length : Int)) ∧ 0 ≤ e.a ∧ e.a < (M.length : Int) then
    (if e.k = 1 then { e with v := rdL (A.getD e.c.toNat []) M e.a.toNat }
     else if e.k = 3 then (match A.getD e.c.toNat [] with | [] => e | p :: _ => { e with a := p.1, v := p.2 })
     else if e.k = 4 then { e with v := M.getD e.a.toNat 0 }
     else e)
  else e
set_option maxHeartbeats 12800000 in
set_option maxRecDepth 20000 in
theorem fit_no (w : World) (q N : Nat) (S : List Nat) (A : List (List (Int × Int))) (M : List Int) (hT : RM w q S N A M) (k c a v n : Int) (d : Bool) (h : ¬ ((0 ≤ c ∧ c < (A.length : Int)) ∧ 0 ≤ a ∧ a < (M.length : Int))) :
    Calls Tryd.prog 17 #[.pointer (some ⟨q, 0, none⟩), evv k c a v n d] w fun r w' => r = .returned (evv k c a v n d) ∧ Below w.heap.size w w' := by
  obtain ⟨ab, capb, am, capm, hq⟩ := hT.blk
  obtain ⟨nA, hnA⟩ : ∃ n, A.length = n := ⟨_, rfl⟩
  obtain ⟨nM, hnM⟩ : ∃ n, M.length = n := ⟨_, rfl⟩
  rw [hnA, hnM] at hq h
  have HQ := Hid.in hq
  have HNO := Hid.in h
  have hqz := blk_lt hq
  clear hq hT hnA hnM h
  go_enter Tryd.func17, Tryd.ntmps17
  go_upto_region 1 with fail
  generalize hwx : (w.alloc _).alloc _ = wx
  have HB : Hid (Below w.heap.size w wx) := Hid.in (by rw [← hwx]; exact bstep (below_alloc _ _) (Nat.le_refl _) (below_alloc _ _))
  have hb0 : wx.heap[w.heap.size]? = some (.cells #[.int .i64 k, .int .i64 c, .int .i64 a, .int .u32 v, .int .u32 n, .bool d] 24 (0, 0)) := by
    rw [← hwx]
    exact ((below_alloc (w.alloc (.cells #[.int .i64 k, .int .i64 c, .int .i64 a, .int .u32 v, .int .u32 n, .bool d] 24)) _).block _ (by simp)).trans (heap_alloc_new _ _)
  have hb1 : wx.heap[w.heap.size + 1]? = some (.cells #[.int .i64 0, .int .i64 0, .int .i64 0, .int .u32 0, .int .u32 0, .bool false] 24 (0, 0)) := by
    rw [← hwx]
    have h := heap_alloc_new (w.alloc (.cells #[.int .i64 k, .int .i64 c, .int .i64 a, .int .u32 v, .int .u32 n, .bool d] 24)) (.cells #[.int .i64 0, .int .i64 0, .int .i64 0, .int .u32 0, .int .u32 0, .bool false] 24)
    rw [show (w.alloc (.cells #[.int .i64 k, .int .i64 c, .int .i64 a, .int .u32 v, .int .u32 n, .bool d] 24)).heap.size = w.heap.size + 1 by simp] at h
    exact h
  have e0 := blk_cell (i := 0) hb0 rfl
  have e1 := blk_cell (i := 1) hb0 rfl
  have e2 := blk_cell (i := 2) hb0 rfl
  have e3 := blk_cell (i := 3) hb0 rfl
  have e4 := blk_cell (i := 4) hb0 rfl
  have e5 := blk_cell (i := 5) hb0 rfl
  have ef : ∀ i, wx.frozen? ⟨w.heap.size, i, none⟩ = false := fun i => blk_free hb0
  have HB0 := Hid.in hb0
  have HB1 := Hid.in hb1
  have f0 := blk_cell (i := 0) hb1 rfl
  have f1 := blk_cell (i := 1) hb1 rfl
  have f2 := blk_cell (i := 2) hb1 rfl
  have f3 := blk_cell (i := 3) hb1 rfl
  have f4 := blk_cell (i := 4) hb1 rfl
  have f5 := blk_cell (i := 5) hb1 rfl
  have ff : ∀ i, wx.frozen? ⟨w.heap.size + 1, i, none⟩ = false := fun i => blk_free hb1
  clear hwx hb0 hb1
  have k0 : wx.cell? ⟨q, 0, none⟩ = some (.slice ab nA capb) := blk_cell ((HB.out.block q hqz).trans HQ.out) rfl
  have k1 : wx.cell? ⟨q, 1, none⟩ = some (.slice am nM capm) := blk_cell ((HB.out.block q hqz).trans HQ.out) rfl
  by_cases h1 : c < 0
  · go_quiet (fail)
    go_wp2
    generalize hw4 : World.setCell _ ⟨w.heap.size + 1, 5, none⟩ _ = w4
    have hq4 : w4.heap[w.heap.size + 1]? = some (.cells #[.int .i64 k, .int .i64 c, .int .i64 a, .int .u32 v, .int .u32 n, .bool d] 24 (0, 0)) := by rw [← hw4]; exact blk_set (i := 5) (.bool d) (blk_set (i := 4) (.int .u32 n) (blk_set (i := 3) (.int .u32 v) (blk_set (i := 2) (.int .i64 a) (blk_set (i := 1) (.int .i64 c) (blk_set (i := 0) (.int .i64 k) (HB1.out))))))
    have r0 : w4.cell? ⟨w.heap.size + 1, 0, none⟩ = some (.int .i64 k) := blk_cell hq4 rfl
    have r1 : w4.cell? ⟨w.heap.size + 1, 1, none⟩ = some (.int .i64 c) := blk_cell hq4 rfl
    have r2 : w4.cell? ⟨w.heap.size + 1, 2, none⟩ = some (.int .i64 a) := blk_cell hq4 rfl
    have r3 : w4.cell? ⟨w.heap.size + 1, 3, none⟩ = some (.int .u32 v) := blk_cell hq4 rfl
    have r4 : w4.cell? ⟨w.heap.size + 1, 4, none⟩ = some (.int .u32 n) := blk_cell hq4 rfl
    have r5 : w4.cell? ⟨w.heap.size + 1, 5, none⟩ = some (.bool d) := blk_cell hq4 rfl
    have hbz : Below w.heap.size w w4 := by rw [← hw4]; exact (((((((drewN_below HB.out _).setCell (Nat.le_succ _) _).setCell (Nat.le_succ _) _).setCell (Nat.le_succ _) _).setCell (Nat.le_succ _) _).setCell (Nat.le_succ _) _).setCell (Nat.le_succ _) _)
    (try simp only [Exit.inBlock, Exit.then])
    exact bodyPost_ret (v := evv k c a v n d) (by simp [results, Tryd.results17, go_sem, r0, r1, r2, r3, r4, r5]) rfl ⟨rfl, hbz⟩
  by_cases h2 : (nA : Int) ≤ c
  · have h1' : (0 : Int) ≤ c := by omega
    go_quiet (fail)
    go_wp2
    generalize hw4 : World.setCell _ ⟨w.heap.size + 1, 5, none⟩ _ = w4
    have hq4 : w4.heap[w.heap.size + 1]? = some (.cells #[.int .i64 k, .int .i64 c, .int .i64 a, .int .u32 v, .int .u32 n, .bool d] 24 (0, 0)) := by rw [← hw4]; exact blk_set (i := 5) (.bool d) (blk_set (i := 4) (.int .u32 n) (blk_set (i := 3) (.int .u32 v) (blk_set (i := 2) (.int .i64 a) (blk_set (i := 1) (.int .i64 c) (blk_set (i := 0) (.int .i64 k) (HB1.out))))))
    have r0 : w4.cell? ⟨w.heap.size + 1, 0, none⟩ = some (.int .i64 k) := blk_cell hq4 rfl
    have r1 : w4.cell? ⟨w.heap.size + 1, 1, none⟩ = some (.int .i64 c) := blk_cell hq4 rfl
    have r2 : w4.cell? ⟨w.heap.size + 1, 2, none⟩ = some (.int .i64 a) := blk_cell hq4 rfl
    have r3 : w4.cell? ⟨w.heap.size + 1, 3, none⟩ = some (.int .u32 v) := blk_cell hq4 rfl
    have r4 : w4.cell? ⟨w.heap.size + 1, 4, none⟩ = some (.int .u32 n) := blk_cell hq4 rfl
    have r5 : w4.cell? ⟨w.heap.size + 1, 5, none⟩ = some (.bool d) := blk_cell hq4 rfl
    have hbz : Below w.heap.size w w4 := by rw [← hw4]; exact (((((((drewN_below HB.out _).setCell (Nat.le_succ _) _).setCell (Nat.le_succ _) _).setCell (Nat.le_succ _) _).setCell (Nat.le_succ _) _).setCell (Nat.le_succ _) _).setCell (Nat.le_succ _) _)
    (try simp only [Exit.inBlock, Exit.then])
    exact bodyPost_ret (v := evv k c a v n d) (by simp [results, Tryd.results17, go_sem, r0, r1, r2, r3, r4, r5]) rfl ⟨rfl, hbz⟩
  have h1' : (0 : Int) ≤ c := by omega
  have h2' : c < (nA : Int) := by omega
  by_cases h3 : a < 0
  · go_quiet (fail)
    go_wp2
    generalize hw4 : World.setCell _ ⟨w.heap.size + 1, 5, none⟩ _ = w4
    have hq4 : w4.heap[w.heap.size + 1]? = some (.cells #[.int .i64 k, .int .i64 c, .int .i64 a, .int .u32 v, .int .u32 n, .bool d] 24 (0, 0)) := by rw [← hw4]; exact blk_set (i := 5) (.bool d) (blk_set (i := 4) (.int .u32 n) (blk_set (i := 3) (.int .u32 v) (blk_set (i := 2) (.int .i64 a) (blk_set (i := 1) (.int .i64 c) (blk_set (i := 0) (.int .i64 k) (HB1.out))))))
    have r0 : w4.cell? ⟨w.heap.size + 1, 0, none⟩ = some (.int .i64 k) := blk_cell hq4 rfl
    have r1 : w4.cell? ⟨w.heap.size + 1, 1, none⟩ = some (.int .i64 c) := blk_cell hq4 rfl
    have r2 : w4.cell? ⟨w.heap.size + 1, 2, none⟩ = some (.int .i64 a) := blk_cell hq4 rfl
    have r3 : w4.cell? ⟨w.heap.size + 1, 3, none⟩ = some (.int .u32 v) := blk_cell hq4 rfl
    have r4 : w4.cell? ⟨w.heap.size + 1, 4, none⟩ = some (.int .u32 n) := blk_cell hq4 rfl
    have r5 : w4.cell? ⟨w.heap.size + 1, 5, none⟩ = some (.bool d) := blk_cell hq4 rfl
    have hbz : Below w.heap.size w w4 := by rw [← hw4]; exact (((((((drewN_below HB.out _).setCell (Nat.le_succ _) _).setCell (Nat.le_succ _) _).setCell (Nat.le_succ _) _).setCell (Nat.le_succ _) _).setCell (Nat.le_succ _) _).setCell (Nat.le_succ _) _)
    (try simp only [Exit.inBlock, Exit.then])
    exact bodyPost_ret (v := evv k c a v n d) (by simp [results, Tryd.results17, go_sem, r0, r1, r2, r3, r4, r5]) rfl ⟨rfl, hbz⟩
  have h3' : (0 : Int) ≤ a := by omega
  have h4 : (nM : Int) ≤ a := by have := HNO.out; omega
  go_quiet (fail)
  go_wp2
  generalize hw4 : World.setCell _ ⟨w.heap.size + 1, 5, none⟩ _ = w4
  have hq4 : w4.heap[w.heap.size + 1]? = some (.cells #[.int .i64 k, .int .i64 c, .int .i64 a, .int .u32 v, .int .u32 n, .bool d] 24 (0, 0)) := by rw [← hw4]; exact blk_set (i := 5) (.bool d) (blk_set (i := 4) (.int .u32 n) (blk_set (i := 3) (.int .u32 v) (blk_set (i := 2) (.int .i64 a) (blk_set (i := 1) (.int .i64 c) (blk_set (i := 0) (.int .i64 k) (HB1.out))))))
  have r0 : w4.cell? ⟨w.heap.size + 1, 0, none⟩ = some (.int .i64 k) := blk_cell hq4 rfl
  have r1 : w4.cell? ⟨w.heap.size + 1, 1, none⟩ = some (.int .i64 c) := blk_cell hq4 rfl
  have r2 : w4.cell? ⟨w.heap.size + 1, 2, none⟩ = some (.int .i64 a) := blk_cell hq4 rfl
  have r3 : w4.cell? ⟨w.heap.size + 1, 3, none⟩ = some (.int .u32 v) := blk_cell hq4 rfl
  have r4 : w4.cell? ⟨w.heap.size + 1, 4, none⟩ = some (.int .u32 n) := blk_cell hq4 rfl
  have r5 : w4.cell? ⟨w.heap.size + 1, 5, none⟩ = some (.bool d) := blk_cell hq4 rfl
  have hbz : Below w.heap.size w w4 := by rw [← hw4]; exact (((((((drewN_below HB.out _).setCell (Nat.le_succ _) _).setCell (Nat.le_succ _) _).setCell (Nat.le_succ _) _).setCell (Nat.le_succ _) _).setCell (Nat.le_succ _) _).setCell (Nat.le_succ _) _)
  (try simp only [Exit.inBlock, Exit.then])
  exact bodyPost_ret (v := evv k c a v n d) (by simp [results, Tryd.results17, go_sem, r0, r1, r2, r3, r4, r5]) rfl ⟨rfl, hbz⟩
set_option maxHeartbeats 12800000 in
set_option maxRecDepth 20000 in
theorem fit_oth (w : World) (q N : Nat) (S : List Nat) (A : List (List (Int × Int))) (M : List Int) (hT : RM w q S N A M) (k : Int) (hk1 : k ≠ 1) (hk3 : k ≠ 3) (hk4 : k ≠ 4) (m x : Nat) (hm : m < A.length) (hx : x < M.length) (v n : Int) (d : Bool) :
    Calls Tryd.prog 17 #[.pointer (some ⟨q, 0, none⟩), evv k (m : Int) (x : Int) v n d] w fun r w' => r = .returned (evv k (m : Int) (x : Int) v n d) ∧ Below w.heap.size w w' := by
  obtain ⟨bb, o, capb, ao, cap, j0, j1, _, hO, _, _⟩ := hT.row hm
  obtain ⟨mb, mo, capm, j2, j3, _, _⟩ := hT.mset hx
  have HO := Hid.in hO
  obtain ⟨nA, hnA⟩ : ∃ n, A.length = n := ⟨_, rfl⟩
  obtain ⟨nM, hnM⟩ : ∃ n, M.length = n := ⟨_, rfl⟩
  rw [hnA] at j0 hm
  rw [hnM] at j2 hx
  have i1 : (m : Int) < (nA : Int) := by omega
  have i2 : (x : Int) < (nM : Int) := by omega
  clear hT hO hnA hnM
  go_enter Tryd.func17, Tryd.ntmps17
  go_upto_region 1 with fail
  generalize hwx : (w.alloc _).alloc _ = wx
  have HB : Hid (Below w.heap.size w wx) := Hid.in (by rw [← hwx]; exact bstep (below_alloc _ _) (Nat.le_refl _) (below_alloc _ _))
  have hb0 : wx.heap[w.heap.size]? = some (.cells #[.int .i64 k, .int .i64 (m : Int), .int .i64 (x : Int), .int .u32 v, .int .u32 n, .bool d] 24 (0, 0)) := by
    rw [← hwx]
    exact ((below_alloc (w.alloc (.cells #[.int .i64 k, .int .i64 (m : Int), .int .i64 (x : Int), .int .u32 v, .int .u32 n, .bool d] 24)) _).block _ (by simp)).trans (heap_alloc_new _ _)
  have hb1 : wx.heap[w.heap.size + 1]? = some (.cells #[.int .i64 0, .int .i64 0, .int .i64 0, .int .u32 0, .int .u32 0, .bool false] 24 (0, 0)) := by
    rw [← hwx]
    have h := heap_alloc_new (w.alloc (.cells #[.int .i64 k, .int .i64 (m : Int), .int .i64 (x : Int), .int .u32 v, .int .u32 n, .bool d] 24)) (.cells #[.int .i64 0, .int .i64 0, .int .i64 0, .int .u32 0, .int .u32 0, .bool false] 24)
    rw [show (w.alloc (.cells #[.int .i64 k, .int .i64 (m : Int), .int .i64 (x : Int), .int .u32 v, .int .u32 n, .bool d] 24)).heap.size = w.heap.size + 1 by simp] at h
    exact h
  have e0 := blk_cell (i := 0) hb0 rfl
  have e1 := blk_cell (i := 1) hb0 rfl
  have e2 := blk_cell (i := 2) hb0 rfl
  have e3 := blk_cell (i := 3) hb0 rfl
  have e4 := blk_cell (i := 4) hb0 rfl
  have e5 := blk_cell (i := 5) hb0 rfl
  have ef : ∀ i, wx.frozen? ⟨w.heap.size, i, none⟩ = false := fun i => blk_free hb0
  have HB0 := Hid.in hb0
  have HB1 := Hid.in hb1
  have f0 := blk_cell (i := 0) hb1 rfl
  have f1 := blk_cell (i := 1) hb1 rfl
  have f2 := blk_cell (i := 2) hb1 rfl
  have f3 := blk_cell (i := 3) hb1 rfl
  have f4 := blk_cell (i := 4) hb1 rfl
  have f5 := blk_cell (i := 5) hb1 rfl
  have ff : ∀ i, wx.frozen? ⟨w.heap.size + 1, i, none⟩ = false := fun i => blk_free hb1
  clear hwx hb0 hb1
  have k0 : wx.cell? ⟨q, 0, none⟩ = _ := (HB.out.cell (p := ⟨q, 0, none⟩) (lt_cell j0)).trans j0
  have k1 : wx.cell? ⟨bb, o + m, none⟩ = _ := (HB.out.cell (p := ⟨bb, o + m, none⟩) (lt_cell j1)).trans j1
  have k2 : wx.cell? ⟨q, 1, none⟩ = _ := (HB.out.cell (p := ⟨q, 1, none⟩) (lt_cell j2)).trans j2
  have k3 : wx.cell? ⟨mb, mo + x, none⟩ = _ := (HB.out.cell (p := ⟨mb, mo + x, none⟩) (lt_cell j3)).trans j3
  clear j0 j1 j2 j3
  have b1 : (k == 1) = false := by simpa using hk1
  have b3 : (k == 3) = false := by simpa using hk3
  have b4 : (k == 4) = false := by simpa using hk4
  go_quiet (fail)
  go_wp2
  generalize hw4 : World.setCell _ ⟨w.heap.size + 1, 5, none⟩ _ = w4
  have hq4 : w4.heap[w.heap.size + 1]? = some (.cells #[.int .i64 k, .int .i64 (m : Int), .int .i64 (x : Int), .int .u32 v, .int .u32 n, .bool d] 24 (0, 0)) := by rw [← hw4]; exact blk_set (i := 5) (.bool d) (blk_set (i := 4) (.int .u32 n) (blk_set (i := 3) (.int .u32 v) (blk_set (i := 2) (.int .i64 (x : Int)) (blk_set (i := 1) (.int .i64 (m : Int)) (blk_set (i := 0) (.int .i64 k) (HB1.out))))))
  have r0 : w4.cell? ⟨w.heap.size + 1, 0, none⟩ = some (.int .i64 k) := blk_cell hq4 rfl
  have r1 : w4.cell? ⟨w.heap.size + 1, 1, none⟩ = some (.int .i64 (m : Int)) := blk_cell hq4 rfl
  have r2 : w4.cell? ⟨w.heap.size + 1, 2, none⟩ = some (.int .i64 (x : Int)) := blk_cell hq4 rfl
  have r3 : w4.cell? ⟨w.heap.size + 1, 3, none⟩ = some (.int .u32 v) := blk_cell hq4 rfl
  have r4 : w4.cell? ⟨w.heap.size + 1, 4, none⟩ = some (.int .u32 n) := blk_cell hq4 rfl
  have r5 : w4.cell? ⟨w.heap.size + 1, 5, none⟩ = some (.bool d) := blk_cell hq4 rfl
  have hbz : Below w.heap.size w w4 := by rw [← hw4]; exact (((((((drewN_below HB.out _).setCell (Nat.le_succ _) _).setCell (Nat.le_succ _) _).setCell (Nat.le_succ _) _).setCell (Nat.le_succ _) _).setCell (Nat.le_succ _) _).setCell (Nat.le_succ _) _)
  (try simp only [Exit.inBlock, Exit.then])
  exact bodyPost_ret (v := evv k (m : Int) (x : Int) v n d) (by simp [results, Tryd.results17, go_sem, r0, r1, r2, r3, r4, r5]) rfl ⟨rfl, hbz⟩
set_option maxHeartbeats 12800000 in
set_option maxRecDepth 20000 in
theorem fit_load (w : World) (q N : Nat) (S : List Nat) (A : List (List (Int × Int))) (M : List Int) (hT : RM w q S N A M) (hN : N ≤ 100000) (m x : Nat) (hm : m < A.length) (hx : x < M.length) (v n : Int) (d : Bool) :
    Calls Tryd.prog 17 #[.pointer (some ⟨q, 0, none⟩), evv 1 (m : Int) (x : Int) v n d] w fun r w' => r = .returned (evv 1 (m : Int) (x : Int) (rdL (A.getD m []) M x) n d) ∧ Below w.heap.size w w' := by
  have HT := Hid.in hT
  have HM := Hid.in hm
  have HX := Hid.in hx
  obtain ⟨bb, o, capb, ao, cap, j0, j1, _, hO, _, _⟩ := hT.row hm
  obtain ⟨mb, mo, capm, j2, j3, _, _⟩ := hT.mset hx
  have HO := Hid.in hO
  obtain ⟨z, hz⟩ : ∃ z, rdL (A.getD m []) M x = z := ⟨_, rfl⟩
  have HZ := Hid.in hz
  rw [hz]
  clear hz
  obtain ⟨nA, hnA⟩ : ∃ n, A.length = n := ⟨_, rfl⟩
  obtain ⟨nM, hnM⟩ : ∃ n, M.length = n := ⟨_, rfl⟩
  rw [hnA] at j0 hm
  rw [hnM] at j2 hx
  have i1 : (m : Int) < (nA : Int) := by omega
  have i2 : (x : Int) < (nM : Int) := by omega
  clear hT hO hnA hnM
  go_enter Tryd.func17, Tryd.ntmps17
  go_upto_region 1 with fail
  generalize hwx : (w.alloc _).alloc _ = wx
  have HB : Hid (Below w.heap.size w wx) := Hid.in (by rw [← hwx]; exact bstep (below_alloc _ _) (Nat.le_refl _) (below_alloc _ _))
  have hb0 : wx.heap[w.heap.size]? = some (.cells #[.int .i64 1, .int .i64 (m : Int), .int .i64 (x : Int), .int .u32 v, .int .u32 n, .bool d] 24 (0, 0)) := by
    rw [← hwx]
    exact ((below_alloc (w.alloc (.cells #[.int .i64 1, .int .i64 (m : Int), .int .i64 (x : Int), .int .u32 v, .int .u32 n, .bool d] 24)) _).block _ (by simp)).trans (heap_alloc_new _ _)
  have hb1 : wx.heap[w.heap.size + 1]? = some (.cells #[.int .i64 0, .int .i64 0, .int .i64 0, .int .u32 0, .int .u32 0, .bool false] 24 (0, 0)) := by
    rw [← hwx]
    have h := heap_alloc_new (w.alloc (.cells #[.int .i64 1, .int .i64 (m : Int), .int .i64 (x : Int), .int .u32 v, .int .u32 n, .bool d] 24)) (.cells #[.int .i64 0, .int .i64 0, .int .i64 0, .int .u32 0, .int .u32 0, .bool false] 24)
    rw [show (w.alloc (.cells #[.int .i64 1, .int .i64 (m : Int), .int .i64 (x : Int), .int .u32 v, .int .u32 n, .bool d] 24)).heap.size = w.heap.size + 1 by simp] at h
    exact h
  have e0 := blk_cell (i := 0) hb0 rfl
  have e1 := blk_cell (i := 1) hb0 rfl
  have e2 := blk_cell (i := 2) hb0 rfl
  have e3 := blk_cell (i := 3) hb0 rfl
  have e4 := blk_cell (i := 4) hb0 rfl
  have e5 := blk_cell (i := 5) hb0 rfl
  have ef : ∀ i, wx.frozen? ⟨w.heap.size, i, none⟩ = false := fun i => blk_free hb0
  have HB0 := Hid.in hb0
  have HB1 := Hid.in hb1
  have f0 := blk_cell (i := 0) hb1 rfl
  have f1 := blk_cell (i := 1) hb1 rfl
  have f2 := blk_cell (i := 2) hb1 rfl
  have f3 := blk_cell (i := 3) hb1 rfl
  have f4 := blk_cell (i := 4) hb1 rfl
  have f5 := blk_cell (i := 5) hb1 rfl
  have ff : ∀ i, wx.frozen? ⟨w.heap.size + 1, i, none⟩ = false := fun i => blk_free hb1
  clear hwx hb0 hb1
  have k0 : wx.cell? ⟨q, 0, none⟩ = _ := (HB.out.cell (p := ⟨q, 0, none⟩) (lt_cell j0)).trans j0
  have k1 : wx.cell? ⟨bb, o + m, none⟩ = _ := (HB.out.cell (p := ⟨bb, o + m, none⟩) (lt_cell j1)).trans j1
  have k2 : wx.cell? ⟨q, 1, none⟩ = _ := (HB.out.cell (p := ⟨q, 1, none⟩) (lt_cell j2)).trans j2
  have k3 : wx.cell? ⟨mb, mo + x, none⟩ = _ := (HB.out.cell (p := ⟨mb, mo + x, none⟩) (lt_cell j3)).trans j3
  clear j0 j1 j2 j3
  go_quiet (fail)
  go_wp2_with fail
  refine (rread_c _ q N S A M (HT.out.step (drewN_below HB.out _)) hN m x HM.out HX.out z HZ.out).mono ?_
  rintro r w5 ⟨rfl, rfl⟩
  go_wp2
  have HB2 : Hid ((wx.setCell ⟨w.heap.size, 3, none⟩ (.int .u32 z)).heap[w.heap.size + 1]? = some (.cells #[.int .i64 0, .int .i64 0, .int .i64 0, .int .u32 0, .int .u32 0, .bool false] 24 (0, 0))) := Hid.in ((Below.heap_setCell _ _ _ _ (Nat.succ_ne_self _)).trans HB1.out)
  generalize hw4 : World.setCell _ ⟨w.heap.size + 1, 5, none⟩ _ = w4
  have hq4 : w4.heap[w.heap.size + 1]? = some (.cells #[.int .i64 1, .int .i64 (m : Int), .int .i64 (x : Int), .int .u32 z, .int .u32 n, .bool d] 24 (0, 0)) := by rw [← hw4]; exact blk_set (i := 5) (.bool d) (blk_set (i := 4) (.int .u32 n) (blk_set (i := 3) (.int .u32 z) (blk_set (i := 2) (.int .i64 (x : Int)) (blk_set (i := 1) (.int .i64 (m : Int)) (blk_set (i := 0) (.int .i64 1) (HB2.out))))))
  have r0 : w4.cell? ⟨w.heap.size + 1, 0, none⟩ = some (.int .i64 1) := blk_cell hq4 rfl
  have r1 : w4.cell? ⟨w.heap.size + 1, 1, none⟩ = some (.int .i64 (m : Int)) := blk_cell hq4 rfl
  have r2 : w4.cell? ⟨w.heap.size + 1, 2, none⟩ = some (.int .i64 (x : Int)) := blk_cell hq4 rfl
  have r3 : w4.cell? ⟨w.heap.size + 1, 3, none⟩ = some (.int .u32 z) := blk_cell hq4 rfl
  have r4 : w4.cell? ⟨w.heap.size + 1, 4, none⟩ = some (.int .u32 n) := blk_cell hq4 rfl
  have r5 : w4.cell? ⟨w.heap.size + 1, 5, none⟩ = some (.bool d) := blk_cell hq4 rfl
  have hbz : Below w.heap.size w w4 := by rw [← hw4]; exact ((((((((drewN_below HB.out _).setCell (Nat.le_refl _) _).setCell (Nat.le_succ _) _).setCell (Nat.le_succ _) _).setCell (Nat.le_succ _) _).setCell (Nat.le_succ _) _).setCell (Nat.le_succ _) _).setCell (Nat.le_succ _) _)
  (try simp only [Exit.inBlock, Exit.then])
  exact bodyPost_ret (v := evv 1 (m : Int) (x : Int) z n d) (by simp [results, Tryd.results17, go_sem, r0, r1, r2, r3, r4, r5]) rfl ⟨rfl, hbz⟩
set_option maxHeartbeats 12800000 in
set_option maxRecDepth 20000 in
theorem fit_cas (w : World) (q N : Nat) (S : List Nat) (A : List (List (Int × Int))) (M : List Int) (hT : RM w q S N A M) (m x : Nat) (hm : m < A.length) (hx : x < M.length) (v n : Int) (d : Bool) :
    Calls Tryd.prog 17 #[.pointer (some ⟨q, 0, none⟩), evv 4 (m : Int) (x : Int) v n d] w fun r w' => r = .returned (evv 4 (m : Int) (x : Int) (M.getD x 0) n d) ∧ Below w.heap.size w w' := by
  obtain ⟨bb, o, capb, ao, cap, j0, j1, _, hO, _, _⟩ := hT.row hm
  obtain ⟨mb, mo, capm, j2, j3, _, _⟩ := hT.mset hx
  obtain ⟨z, hz⟩ : ∃ z, M.getD x 0 = z := ⟨_, rfl⟩
  rw [hz] at j3
  rw [hz]
  clear hz
  obtain ⟨nA, hnA⟩ : ∃ n, A.length = n := ⟨_, rfl⟩
  obtain ⟨nM, hnM⟩ : ∃ n, M.length = n := ⟨_, rfl⟩
  rw [hnA] at j0 hm
  rw [hnM] at j2 hx
  have i1 : (m : Int) < (nA : Int) := by omega
  have i2 : (x : Int) < (nM : Int) := by omega
  clear hT hO hnA hnM
  go_enter Tryd.func17, Tryd.ntmps17
  go_upto_region 1 with fail
  generalize hwx : (w.alloc _).alloc _ = wx
  have HB : Hid (Below w.heap.size w wx) := Hid.in (by rw [← hwx]; exact bstep (below_alloc _ _) (Nat.le_refl _) (below_alloc _ _))
  have hb0 : wx.heap[w.heap.size]? = some (.cells #[.int .i64 4, .int .i64 (m : Int), .int .i64 (x : Int), .int .u32 v, .int .u32 n, .bool d] 24 (0, 0)) := by
    rw [← hwx]
    exact ((below_alloc (w.alloc (.cells #[.int .i64 4, .int .i64 (m : Int), .int .i64 (x : Int), .int .u32 v, .int .u32 n, .bool d] 24)) _).block _ (by simp)).trans (heap_alloc_new _ _)
  have hb1 : wx.heap[w.heap.size + 1]? = some (.cells #[.int .i64 0, .int .i64 0, .int .i64 0, .int .u32 0, .int .u32 0, .bool false] 24 (0, 0)) := by
    rw [← hwx]
    have h := heap_alloc_new (w.alloc (.cells #[.int .i64 4, .int .i64 (m : Int), .int .i64 (x : Int), .int .u32 v, .int .u32 n, .bool d] 24)) (.cells #[.int .i64 0, .int .i64 0, .int .i64 0, .int .u32 0, .int .u32 0, .bool false] 24)
    rw [show (w.alloc (.cells #[.int .i64 4, .int .i64 (m : Int), .int .i64 (x : Int), .int .u32 v, .int .u32 n, .bool d] 24)).heap.size = w.heap.size + 1 by simp] at h
    exact h
  have e0 := blk_cell (i := 0) hb0 rfl
  have e1 := blk_cell (i := 1) hb0 rfl
  have e2 := blk_cell (i := 2) hb0 rfl
  have e3 := blk_cell (i := 3) hb0 rfl
  have e4 := blk_cell (i := 4) hb0 rfl
  have e5 := blk_cell (i := 5) hb0 rfl
  have ef : ∀ i, wx.frozen? ⟨w.heap.size, i, none⟩ = false := fun i => blk_free hb0
  have HB0 := Hid.in hb0
  have HB1 := Hid.in hb1
  have f0 := blk_cell (i := 0) hb1 rfl
  have f1 := blk_cell (i := 1) hb1 rfl
  have f2 := blk_cell (i := 2) hb1 rfl
  have f3 := blk_cell (i := 3) hb1 rfl
  have f4 := blk_cell (i := 4) hb1 rfl
  have f5 := blk_cell (i := 5) hb1 rfl
  have ff : ∀ i, wx.frozen? ⟨w.heap.size + 1, i, none⟩ = false := fun i => blk_free hb1
  clear hwx hb0 hb1
  have k0 : wx.cell? ⟨q, 0, none⟩ = _ := (HB.out.cell (p := ⟨q, 0, none⟩) (lt_cell j0)).trans j0
  have k1 : wx.cell? ⟨bb, o + m, none⟩ = _ := (HB.out.cell (p := ⟨bb, o + m, none⟩) (lt_cell j1)).trans j1
  have k2 : wx.cell? ⟨q, 1, none⟩ = _ := (HB.out.cell (p := ⟨q, 1, none⟩) (lt_cell j2)).trans j2
  have k3 : wx.cell? ⟨mb, mo + x, none⟩ = _ := (HB.out.cell (p := ⟨mb, mo + x, none⟩) (lt_cell j3)).trans j3
  clear j0 j1 j2 j3
  go_quiet (fail)
  go_upto_region 11 with fail
  refine wp_region_but (fun W => cellIs q 1 (.slice (some ⟨mb, mo, none⟩) nM capm) W ∧ cellIs w.heap.size 2 (.int .i64 (x : Int)) W ∧ cellIs mb (mo + x) (.int .u32 z) W) 9 (by kernel_rfl) ?_
  have HS : Hid (cellIs q 1 (.slice (some ⟨mb, mo, none⟩) nM capm) (wx.drewN nq).drew ∧ cellIs w.heap.size 2 (.int .i64 (x : Int)) (wx.drewN nq).drew ∧ cellIs mb (mo + x) (.int .u32 z) (wx.drewN nq).drew) := Hid.in ⟨k2, e2, k3⟩
  refine wpBut_take (i := 0) (v := ?_) rfl (by kernel_rfl) (by kernel_rfl) (by exact fun _ _ _ h => h) HS.out (Or.inl ⟨by rfl, ?_⟩) ?_
  case refine_2 => (intro w hSw; obtain ⟨s1, s2, s3⟩ := hSw; simp only [cellIs] at s1 s2 s3; go_simp; try with_reducible rfl)
  simp only [Act.put, List.setIfInBounds_toArray, List.set_cons_zero, List.set_cons_succ]
  refine wpBut_take (i := 1) (v := ?_) rfl (by kernel_rfl) (by kernel_rfl) (by exact fun _ _ _ h => h) HS.out (Or.inl ⟨by rfl, ?_⟩) ?_
  case refine_2 => (intro w hSw; obtain ⟨s1, s2, s3⟩ := hSw; simp only [cellIs] at s1 s2 s3; go_simp; try with_reducible rfl)
  simp only [Act.put, List.setIfInBounds_toArray, List.set_cons_zero, List.set_cons_succ]
  refine wpBut_take (i := 2) (v := ?_) rfl (by kernel_rfl) (by kernel_rfl) (by exact fun _ _ _ h => h) HS.out (Or.inl ⟨by rfl, ?_⟩) ?_
  case refine_2 => (intro w hSw; obtain ⟨s1, s2, s3⟩ := hSw; simp only [cellIs] at s1 s2 s3; go_simp; try with_reducible rfl)
  simp only [Act.put, List.setIfInBounds_toArray, List.set_cons_zero, List.set_cons_succ]
  refine wpBut_take (i := 3) (v := ?_) rfl (by kernel_rfl) (by kernel_rfl) (by exact fun _ _ _ h => h) HS.out (Or.inl ⟨by rfl, ?_⟩) ?_
  case refine_2 => (intro w hSw; obtain ⟨s1, s2, s3⟩ := hSw; simp only [cellIs] at s1 s2 s3; go_simp; try with_reducible rfl)
  simp only [Act.put, List.setIfInBounds_toArray, List.set_cons_zero, List.set_cons_succ]
  refine wpBut_take (i := 4) (v := ?_) rfl (by kernel_rfl) (by kernel_rfl) (by exact fun _ _ _ h => h) HS.out (Or.inl ⟨by rfl, ?_⟩) ?_
  case refine_2 => (intro w hSw; obtain ⟨s1, s2, s3⟩ := hSw; simp only [cellIs] at s1 s2 s3; go_simp; try with_reducible rfl)
  simp only [Act.put, List.setIfInBounds_toArray, List.set_cons_zero, List.set_cons_succ]
  refine wpBut_take (i := 5) (v := ?_) rfl (by kernel_rfl) (by kernel_rfl) (by exact fun _ _ _ h => h) HS.out (Or.inl ⟨by rfl, ?_⟩) ?_
  case refine_2 => (intro w hSw; obtain ⟨s1, s2, s3⟩ := hSw; simp only [cellIs] at s1 s2 s3; go_simp; try with_reducible rfl)
  simp only [Act.put, List.setIfInBounds_toArray, List.set_cons_zero, List.set_cons_succ]
  refine wpBut_take (i := 6) (v := ?_) rfl (by kernel_rfl) (by kernel_rfl) (by exact fun _ _ _ h => h) HS.out (Or.inl ⟨by rfl, ?_⟩) ?_
  case refine_2 => (intro w hSw; obtain ⟨s1, s2, s3⟩ := hSw; simp only [cellIs] at s1 s2 s3; go_simp; try with_reducible rfl)
  simp only [Act.put, List.setIfInBounds_toArray, List.set_cons_zero, List.set_cons_succ]
  refine wpBut_take (i := 7) (v := ?_) rfl (by kernel_rfl) (by kernel_rfl) (by exact fun _ _ _ h => h) HS.out (Or.inl ⟨by rfl, ?_⟩) ?_
  case refine_2 => (intro w hSw; obtain ⟨s1, s2, s3⟩ := hSw; simp only [cellIs] at s1 s2 s3; go_simp; try with_reducible rfl)
  simp only [Act.put, List.setIfInBounds_toArray, List.set_cons_zero, List.set_cons_succ]
  refine wpBut_take (i := 8) (v := ?_) rfl (by kernel_rfl) (by kernel_rfl) (by exact fun _ _ _ h => h) HS.out (Or.inl ⟨by rfl, ?_⟩) ?_
  case refine_2 => (intro w hSw; obtain ⟨s1, s2, s3⟩ := hSw; simp only [cellIs] at s1 s2 s3; go_simp; try with_reducible rfl)
  simp only [Act.put, List.setIfInBounds_toArray, List.set_cons_zero, List.set_cons_succ]
  refine wpBut_one (i := 9) rfl (by kernel_rfl) (fun K HK => ?_)
  go_simp
  refine HK.out _ _ (fun h => absurd rfl h) ?_
  clear HK K HS
  refine wpBut_done (by kernel_rfl) ?_ _
  go_wp2
  have HB2 : Hid ((wx.setCell ⟨w.heap.size, 3, none⟩ (.int .u32 z)).heap[w.heap.size + 1]? = some (.cells #[.int .i64 0, .int .i64 0, .int .i64 0, .int .u32 0, .int .u32 0, .bool false] 24 (0, 0))) := Hid.in ((Below.heap_setCell _ _ _ _ (Nat.succ_ne_self _)).trans HB1.out)
  generalize hw4 : World.setCell _ ⟨w.heap.size + 1, 5, none⟩ _ = w4
  have hq4 : w4.heap[w.heap.size + 1]? = some (.cells #[.int .i64 4, .int .i64 (m : Int), .int .i64 (x : Int), .int .u32 z, .int .u32 n, .bool d] 24 (0, 0)) := by rw [← hw4]; exact blk_set (i := 5) (.bool d) (blk_set (i := 4) (.int .u32 n) (blk_set (i := 3) (.int .u32 z) (blk_set (i := 2) (.int .i64 (x : Int)) (blk_set (i := 1) (.int .i64 (m : Int)) (blk_set (i := 0) (.int .i64 4) (HB2.out))))))
  have r0 : w4.cell? ⟨w.heap.size + 1, 0, none⟩ = some (.int .i64 4) := blk_cell hq4 rfl
  have r1 : w4.cell? ⟨w.heap.size + 1, 1, none⟩ = some (.int .i64 (m : Int)) := blk_cell hq4 rfl
  have r2 : w4.cell? ⟨w.heap.size + 1, 2, none⟩ = some (.int .i64 (x : Int)) := blk_cell hq4 rfl
  have r3 : w4.cell? ⟨w.heap.size + 1, 3, none⟩ = some (.int .u32 z) := blk_cell hq4 rfl
  have r4 : w4.cell? ⟨w.heap.size + 1, 4, none⟩ = some (.int .u32 n) := blk_cell hq4 rfl
  have r5 : w4.cell? ⟨w.heap.size + 1, 5, none⟩ = some (.bool d) := blk_cell hq4 rfl
  have hbz : Below w.heap.size w w4 := by rw [← hw4]; exact ((((((((drewN_below HB.out _).setCell (Nat.le_refl _) _).setCell (Nat.le_succ _) _).setCell (Nat.le_succ _) _).setCell (Nat.le_succ _) _).setCell (Nat.le_succ _) _).setCell (Nat.le_succ _) _).setCell (Nat.le_succ _) _)
  (try simp only [Exit.inBlock, Exit.then])
  exact bodyPost_ret (v := evv 4 (m : Int) (x : Int) z n d) (by simp [results, Tryd.results17, go_sem, r0, r1, r2, r3, r4, r5]) rfl ⟨rfl, hbz⟩
end Go.Proofs.YtncgjclehplfeaaDoor
