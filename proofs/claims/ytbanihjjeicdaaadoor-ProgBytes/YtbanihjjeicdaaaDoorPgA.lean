/- DERIVED of the program: an operation in memory; prog.named and prog.Right by their contracts. Own work. -/
import Derived.Test.YtbanihjjeicdaaaDoorPgPure
import Derived.Test.YtbanihjjeicdaaaDoorGenE
import Derived.Test.YtbanihjjeicdaaaDoorGenR
import Derived.Laws.ResultCell
import Derived.Deep.RegionLaw
namespace Go.Proofs.YtbanihjjeicdaaaDoor
open Go.RowKit Go.Extern.Stop Go.Stop Go.Extern

/-- The cells of an operation. -/
def oc (x : O4) : List Value := [.int .i64 x.1, .int .i64 x.2.1, .int .u32 x.2.2.1, .int .u32 x.2.2.2]
theorem oc_one (x : O4) : ∀ v ∈ oc x, v.oneCell' = true := by
  intro v hv
  simp only [oc, List.mem_cons, List.not_mem_nil, or_false] at hv
  rcases hv with rfl | rfl | rfl | rfl <;> rfl
theorem ocs_one (L : List O4) : ∀ r ∈ L.map oc, ∀ v ∈ r, v.oneCell' = true := by
  intro r hr
  obtain ⟨x, _, rfl⟩ := List.mem_map.1 hr
  exact oc_one x
theorem ocs_each (L : List O4) : ∀ r ∈ L.map oc, r.length = 4 := by
  intro r hr
  obtain ⟨x, _, rfl⟩ := List.mem_map.1 hr
  rfl


theorem named_3 (w : World) : Calls Tryd.prog 34 #[.int .i64 3] w fun r w' => r = .returned (.tuple #[.agg #[.bool true, .bool true, .bool true], .bool true]) ∧ Below w.heap.size w w' := by
  go_enter Tryd.func34, Tryd.ntmps34
  go_wp2
  refine bodyPost_ret (v := .tuple #[.agg #[.bool true, .bool true, .bool true], .bool true]) ?_ rfl ⟨rfl, below_alloc _ _⟩
  rw [results_cell_tmp rfl]; go_simp

theorem named_2 (w : World) : Calls Tryd.prog 34 #[.int .i64 2] w fun r w' => r = .returned (.tuple #[.agg #[.bool true, .bool true, .bool false], .bool true]) ∧ Below w.heap.size w w' := by
  go_enter Tryd.func34, Tryd.ntmps34
  go_wp2
  refine bodyPost_ret (v := .tuple #[.agg #[.bool true, .bool true, .bool false], .bool true]) ?_ rfl ⟨rfl, below_alloc _ _⟩
  rw [results_cell_tmp rfl]; go_simp

theorem named_1 (w : World) : Calls Tryd.prog 34 #[.int .i64 1] w fun r w' => r = .returned (.tuple #[.agg #[.bool true, .bool false, .bool false], .bool true]) ∧ Below w.heap.size w w' := by
  go_enter Tryd.func34, Tryd.ntmps34
  go_wp2
  refine bodyPost_ret (v := .tuple #[.agg #[.bool true, .bool false, .bool false], .bool true]) ?_ rfl ⟨rfl, below_alloc _ _⟩
  rw [results_cell_tmp rfl]; go_simp

theorem named_4 (w : World) : Calls Tryd.prog 34 #[.int .i64 4] w fun r w' => r = .returned (.tuple #[.agg #[.bool false, .bool false, .bool false], .bool true]) ∧ Below w.heap.size w w' := by
  go_enter Tryd.func34, Tryd.ntmps34
  go_wp2
  refine bodyPost_ret (v := .tuple #[.agg #[.bool false, .bool false, .bool false], .bool true]) ?_ rfl ⟨rfl, below_alloc _ _⟩
  rw [results_cell_tmp rfl]; go_simp

theorem named_no (k : Int) (w : World) (h1 : (k == 1) = false) (h2 : (k == 2) = false) (h3 : (k == 3) = false) (h4 : (k == 4) = false) : Calls Tryd.prog 34 #[.int .i64 k] w fun r w' => r = .returned (.tuple #[.agg #[.bool false, .bool false, .bool false], .bool false]) ∧ Below w.heap.size w w' := by
  go_enter Tryd.func34, Tryd.ntmps34
  go_wp2
  refine bodyPost_ret (v := .tuple #[.agg #[.bool false, .bool false, .bool false], .bool false]) ?_ rfl ⟨rfl, below_alloc _ _⟩
  rw [results_cell_tmp rfl]; go_simp

set_option maxRecDepth 20000 in
theorem right_3 (a v o n : Int) (w : World) : Calls Tryd.prog 16 #[.agg #[.int .i64 3, .int .i64 a, .int .u32 v, .int .u32 o], .int .i64 n] w fun r w' => r = .returned (.bool (rt (3, a, v, o) n)) ∧ Below w.heap.size w w' := by
  go_enter Tryd.func16, Tryd.ntmps16
  go_wp2_with fail
  refine (named_3 _).mono ?_
  rintro r w1 ⟨rfl, hb⟩
  have c1 : w1.cell? ⟨w.heap.size, 1, none⟩ = some (.int .i64 a) := (hb.cell (p := ⟨w.heap.size, 1, none⟩) (by simp)).trans (blk_cell (heap_alloc_new _ _) rfl)
  have c2 : w1.cell? ⟨w.heap.size, 2, none⟩ = some (.int .u32 v) := (hb.cell (p := ⟨w.heap.size, 2, none⟩) (by simp)).trans (blk_cell (heap_alloc_new _ _) rfl)
  have c3 : w1.cell? ⟨w.heap.size, 3, none⟩ = some (.int .u32 o) := (hb.cell (p := ⟨w.heap.size, 3, none⟩) (by simp)).trans (blk_cell (heap_alloc_new _ _) rfl)
  have hlt : w.heap.size < w1.heap.size := by have := hb.size; simp at this; omega
  have HB := Hid.in (bstep (below_alloc w _) (Nat.le_refl _) hb)
  clear hb
  by_cases hn : 128 < n
  · go_wp2
    go_ret
    exact ⟨ret_bool (rt_no _ _ (by simp only; omega)).symm, bstep HB.out (Nat.le_refl _) (below_alloc _ _)⟩
  by_cases ha : a < 0
  · go_wp2
    go_ret
    exact ⟨ret_bool (rt_no _ _ (by simp only; omega)).symm, bstep HB.out (Nat.le_refl _) (below_alloc _ _)⟩
  by_cases hb : n ≤ a
  · go_wp2
    go_ret
    exact ⟨ret_bool (rt_no _ _ (by simp only; omega)).symm, bstep HB.out (Nat.le_refl _) (below_alloc _ _)⟩
  go_wp2
  go_ret
  exact ⟨ret_bool ((rt_iff _ _).2 (by simp; omega)).symm, bstep HB.out (Nat.le_refl _) (below_alloc _ _)⟩

set_option maxRecDepth 20000 in
theorem right_2 (a v o n : Int) (w : World) : Calls Tryd.prog 16 #[.agg #[.int .i64 2, .int .i64 a, .int .u32 v, .int .u32 o], .int .i64 n] w fun r w' => r = .returned (.bool (rt (2, a, v, o) n)) ∧ Below w.heap.size w w' := by
  go_enter Tryd.func16, Tryd.ntmps16
  go_wp2_with fail
  refine (named_2 _).mono ?_
  rintro r w1 ⟨rfl, hb⟩
  have c1 : w1.cell? ⟨w.heap.size, 1, none⟩ = some (.int .i64 a) := (hb.cell (p := ⟨w.heap.size, 1, none⟩) (by simp)).trans (blk_cell (heap_alloc_new _ _) rfl)
  have c2 : w1.cell? ⟨w.heap.size, 2, none⟩ = some (.int .u32 v) := (hb.cell (p := ⟨w.heap.size, 2, none⟩) (by simp)).trans (blk_cell (heap_alloc_new _ _) rfl)
  have c3 : w1.cell? ⟨w.heap.size, 3, none⟩ = some (.int .u32 o) := (hb.cell (p := ⟨w.heap.size, 3, none⟩) (by simp)).trans (blk_cell (heap_alloc_new _ _) rfl)
  have hlt : w.heap.size < w1.heap.size := by have := hb.size; simp at this; omega
  have HB := Hid.in (bstep (below_alloc w _) (Nat.le_refl _) hb)
  clear hb
  by_cases hn : 128 < n
  · go_wp2
    go_ret
    exact ⟨ret_bool (rt_no _ _ (by simp only; omega)).symm, bstep HB.out (Nat.le_refl _) (below_alloc _ _)⟩
  by_cases ha : a < 0
  · go_wp2
    go_ret
    exact ⟨ret_bool (rt_no _ _ (by simp only; omega)).symm, bstep HB.out (Nat.le_refl _) (below_alloc _ _)⟩
  by_cases hb : n ≤ a
  · go_wp2
    go_ret
    exact ⟨ret_bool (rt_no _ _ (by simp only; omega)).symm, bstep HB.out (Nat.le_refl _) (below_alloc _ _)⟩
  by_cases ho : o = 0
  rotate_left
  · have qo : (o == 0) = false := by simp; omega
    go_wp2
    go_ret
    exact ⟨ret_bool (rt_no _ _ (by simp only; omega)).symm, bstep HB.out (Nat.le_refl _) (below_alloc _ _)⟩
  subst ho
  go_wp2
  go_ret
  exact ⟨ret_bool ((rt_iff _ _).2 (by simp; omega)).symm, bstep HB.out (Nat.le_refl _) (below_alloc _ _)⟩

set_option maxRecDepth 20000 in
theorem right_1 (a v o n : Int) (w : World) : Calls Tryd.prog 16 #[.agg #[.int .i64 1, .int .i64 a, .int .u32 v, .int .u32 o], .int .i64 n] w fun r w' => r = .returned (.bool (rt (1, a, v, o) n)) ∧ Below w.heap.size w w' := by
  go_enter Tryd.func16, Tryd.ntmps16
  go_wp2_with fail
  refine (named_1 _).mono ?_
  rintro r w1 ⟨rfl, hb⟩
  have c1 : w1.cell? ⟨w.heap.size, 1, none⟩ = some (.int .i64 a) := (hb.cell (p := ⟨w.heap.size, 1, none⟩) (by simp)).trans (blk_cell (heap_alloc_new _ _) rfl)
  have c2 : w1.cell? ⟨w.heap.size, 2, none⟩ = some (.int .u32 v) := (hb.cell (p := ⟨w.heap.size, 2, none⟩) (by simp)).trans (blk_cell (heap_alloc_new _ _) rfl)
  have c3 : w1.cell? ⟨w.heap.size, 3, none⟩ = some (.int .u32 o) := (hb.cell (p := ⟨w.heap.size, 3, none⟩) (by simp)).trans (blk_cell (heap_alloc_new _ _) rfl)
  have hlt : w.heap.size < w1.heap.size := by have := hb.size; simp at this; omega
  have HB := Hid.in (bstep (below_alloc w _) (Nat.le_refl _) hb)
  clear hb
  by_cases hn : 128 < n
  · go_wp2
    go_ret
    exact ⟨ret_bool (rt_no _ _ (by simp only; omega)).symm, bstep HB.out (Nat.le_refl _) (below_alloc _ _)⟩
  by_cases ha : a < 0
  · go_wp2
    go_ret
    exact ⟨ret_bool (rt_no _ _ (by simp only; omega)).symm, bstep HB.out (Nat.le_refl _) (below_alloc _ _)⟩
  by_cases hb : n ≤ a
  · go_wp2
    go_ret
    exact ⟨ret_bool (rt_no _ _ (by simp only; omega)).symm, bstep HB.out (Nat.le_refl _) (below_alloc _ _)⟩
  by_cases hv : v = 0
  rotate_left
  · have qv : (v == 0) = false := by simp; omega
    go_wp2
    go_ret
    exact ⟨ret_bool (rt_no _ _ (by simp only; omega)).symm, bstep HB.out (Nat.le_refl _) (below_alloc _ _)⟩
  subst hv
  by_cases ho : o = 0
  rotate_left
  · have qo : (o == 0) = false := by simp; omega
    go_wp2
    go_ret
    exact ⟨ret_bool (rt_no _ _ (by simp only; omega)).symm, bstep HB.out (Nat.le_refl _) (below_alloc _ _)⟩
  subst ho
  go_wp2
  go_ret
  exact ⟨ret_bool ((rt_iff _ _).2 (by simp; omega)).symm, bstep HB.out (Nat.le_refl _) (below_alloc _ _)⟩

set_option maxRecDepth 20000 in
theorem right_4 (a v o n : Int) (w : World) : Calls Tryd.prog 16 #[.agg #[.int .i64 4, .int .i64 a, .int .u32 v, .int .u32 o], .int .i64 n] w fun r w' => r = .returned (.bool (rt (4, a, v, o) n)) ∧ Below w.heap.size w w' := by
  go_enter Tryd.func16, Tryd.ntmps16
  go_wp2_with fail
  refine (named_4 _).mono ?_
  rintro r w1 ⟨rfl, hb⟩
  have c1 : w1.cell? ⟨w.heap.size, 1, none⟩ = some (.int .i64 a) := (hb.cell (p := ⟨w.heap.size, 1, none⟩) (by simp)).trans (blk_cell (heap_alloc_new _ _) rfl)
  have c2 : w1.cell? ⟨w.heap.size, 2, none⟩ = some (.int .u32 v) := (hb.cell (p := ⟨w.heap.size, 2, none⟩) (by simp)).trans (blk_cell (heap_alloc_new _ _) rfl)
  have c3 : w1.cell? ⟨w.heap.size, 3, none⟩ = some (.int .u32 o) := (hb.cell (p := ⟨w.heap.size, 3, none⟩) (by simp)).trans (blk_cell (heap_alloc_new _ _) rfl)
  have hlt : w.heap.size < w1.heap.size := by have := hb.size; simp at this; omega
  have HB := Hid.in (bstep (below_alloc w _) (Nat.le_refl _) hb)
  clear hb
  by_cases hn : 128 < n
  · go_wp2
    go_ret
    exact ⟨ret_bool (rt_no _ _ (by simp only; omega)).symm, bstep HB.out (Nat.le_refl _) (below_alloc _ _)⟩
  by_cases ha : a = 0
  rotate_left
  · have qa : (a == 0) = false := by simp; omega
    go_wp2
    go_ret
    exact ⟨ret_bool (rt_no _ _ (by simp only; omega)).symm, bstep HB.out (Nat.le_refl _) (below_alloc _ _)⟩
  subst ha
  by_cases hv : v = 0
  rotate_left
  · have qv : (v == 0) = false := by simp; omega
    go_wp2
    go_ret
    exact ⟨ret_bool (rt_no _ _ (by simp only; omega)).symm, bstep HB.out (Nat.le_refl _) (below_alloc _ _)⟩
  subst hv
  by_cases ho : o = 0
  rotate_left
  · have qo : (o == 0) = false := by simp; omega
    go_wp2
    go_ret
    exact ⟨ret_bool (rt_no _ _ (by simp only; omega)).symm, bstep HB.out (Nat.le_refl _) (below_alloc _ _)⟩
  subst ho
  go_wp2
  go_ret
  exact ⟨ret_bool ((rt_iff _ _).2 (by simp; omega)).symm, bstep HB.out (Nat.le_refl _) (below_alloc _ _)⟩

set_option maxRecDepth 20000 in
theorem right_no (k a v o n : Int) (w : World) (h1 : (k == 1) = false) (h2 : (k == 2) = false) (h3 : (k == 3) = false) (h4 : (k == 4) = false) : Calls Tryd.prog 16 #[.agg #[.int .i64 k, .int .i64 a, .int .u32 v, .int .u32 o], .int .i64 n] w fun r w' => r = .returned (.bool (rt (k, a, v, o) n)) ∧ Below w.heap.size w w' := by
  go_enter Tryd.func16, Tryd.ntmps16
  go_wp2_with fail
  refine (named_no k _ h1 h2 h3 h4).mono ?_
  rintro r w1 ⟨rfl, hb⟩
  have HB := Hid.in (bstep (below_alloc w _) (Nat.le_refl _) hb)
  clear hb
  go_wp2
  go_ret
  exact ⟨ret_bool (rt_no _ _ (by simp at h1 h2 h3 h4; simp only; omega)).symm, bstep HB.out (Nat.le_refl _) (below_alloc _ _)⟩

/-- prog.Right, of whatever. -/
theorem right_any (k a v o n : Int) (w : World) : Calls Tryd.prog 16 #[.agg #[.int .i64 k, .int .i64 a, .int .u32 v, .int .u32 o], .int .i64 n] w fun r w' => r = .returned (.bool (rt (k, a, v, o) n)) ∧ Below w.heap.size w w' := by
  by_cases h1 : k = 1
  · subst h1; exact right_1 a v o n w
  by_cases h2 : k = 2
  · subst h2; exact right_2 a v o n w
  by_cases h3 : k = 3
  · subst h3; exact right_3 a v o n w
  by_cases h4 : k = 4
  · subst h4; exact right_4 a v o n w
  exact right_no k a v o n w (by simp [h1]) (by simp [h2]) (by simp [h3]) (by simp [h4])

end Go.Proofs.YtbanihjjeicdaaaDoor
