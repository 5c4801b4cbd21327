/- DERIVED of the program: StateGrants returns true. Own work. -/
import Derived.Test.YtkdkbaplfgjkmaaStC
namespace Go.Proofs.Ytkdkbaplfgjkmaa
open Go.RowKit Go.Extern.Stop Go.Stop Go.Extern

set_option maxHeartbeats 3200000 in
set_option maxRecDepth 20000 in
theorem stateGrants_any (w : World) (n0 n1 : Int) : Calls Try.prog 6 #[.int .i64 n0, .int .i64 n1] w fun r w' => r = .returned (.bool true) ∧ Below w.heap.size w w' := by
  obtain ⟨K, hK, hK2⟩ := wI_nat0 n0 2 (by decide)
  obtain ⟨O, hO, hO4⟩ := wI_nat0 n1 4 (by decide)
  have HK : Hid (∀ y, Calls Try.prog 20 #[.int .i64 n0, .int .i64 0, .int .i64 2] y fun r w' => r = .returned (.int .i64 (K : Int)) ∧ w' = y) := Hid.in (fun y => hK ▸ within_i n0 0 2 y (by decide) (by decide) (by decide))
  have HO : Hid (∀ y, Calls Try.prog 20 #[.int .i64 n1, .int .i64 0, .int .i64 4] y fun r w' => r = .returned (.int .i64 (O : Int)) ∧ w' = y) := Hid.in (fun y => hO ▸ within_i n1 0 4 y (by decide) (by decide) (by decide))
  clear hK hO
  go_enter Try.func6, Try.ntmps6
  go_wp2_with fail
  generalize hW : w.alloc (.cells #[.int .i64 1, .int .i64 2, .int .i64 3] 3) = W
  have hBK : W.heap[w.heap.size]? = some (.cells #[.int .i64 1, .int .i64 2, .int .i64 3] 3 (0, 0)) := by rw [← hW]; exact heap_alloc_new _ _
  have HBW : Hid (Below w.heap.size w W) := Hid.in (by rw [← hW]; exact below_alloc _ _)
  have c0 : W.cell? ⟨w.heap.size, 0, none⟩ = some (.int .i64 1) := blk_cell hBK rfl
  have c1 : W.cell? ⟨w.heap.size, 1, none⟩ = some (.int .i64 2) := blk_cell hBK rfl
  have c2 : W.cell? ⟨w.heap.size, 2, none⟩ = some (.int .i64 3) := blk_cell hBK rfl
  clear hW hBK
  refine (HK.out _).mono ?_
  rintro r w' ⟨rfl, hw'⟩
  subst hw'
  rename World => W
  have hK3 : K = 0 ∨ K = 1 ∨ K = 2 := by omega
  have hO5 : O = 0 ∨ O = 1 ∨ O = 2 ∨ O = 3 ∨ O = 4 := by omega
  clear hK2 hO4
  rcases hK3 with rfl | rfl | rfl
  · rcases hO5 with rfl | rfl | rfl | rfl | rfl
    · as_aux_lemma =>
      go_wp2_with fail
      refine (HO.out _).mono ?_
      rintro r w' ⟨rfl, rfl⟩
      go_wp2_with fail
      refine (stGrant_e 1 true 2 (by decide) _).mono ?_
      rintro r w' ⟨rfl, rfl⟩
      go_wp2_with fail
      refine (stGrant_e 1 false 1 (by decide) _).mono ?_
      rintro r w' ⟨rfl, rfl⟩
      go_wp2_with fail
      refine (stReads_e 2 true (by decide) _).mono ?_
      rintro r w' ⟨rfl, rfl⟩
      go_wp2_with fail
      refine (stReads_e 1 true (by decide) _).mono ?_
      rintro r w' ⟨rfl, rfl⟩
      go_wp2_with fail
      refine (stLegal_e 2 0 true (by decide) _).mono ?_
      rintro r w' ⟨rfl, rfl⟩
      go_wp2_with fail
      refine (stWrites_e 1 false (by decide) _).mono ?_
      rintro r w' ⟨rfl, rfl⟩
      go_wp2_with fail
      refine (stLegal_e 1 0 true (by decide) _).mono ?_
      rintro r w' ⟨rfl, rfl⟩
      go_wp2_with fail
      refine (stateRuns_any _).mono ?_
      rintro r w' ⟨rfl, rfl⟩
      go_wp2
      go_ret
      exact ⟨rfl, HBW.out⟩
    · as_aux_lemma =>
      go_wp2_with fail
      refine (HO.out _).mono ?_
      rintro r w' ⟨rfl, rfl⟩
      go_wp2_with fail
      refine (stGrant_e 1 true 2 (by decide) _).mono ?_
      rintro r w' ⟨rfl, rfl⟩
      go_wp2_with fail
      refine (stGrant_e 1 false 1 (by decide) _).mono ?_
      rintro r w' ⟨rfl, rfl⟩
      go_wp2_with fail
      refine (stReads_e 2 true (by decide) _).mono ?_
      rintro r w' ⟨rfl, rfl⟩
      go_wp2_with fail
      refine (stReads_e 1 true (by decide) _).mono ?_
      rintro r w' ⟨rfl, rfl⟩
      go_wp2_with fail
      refine (stLegal_e 2 1 false (by decide) _).mono ?_
      rintro r w' ⟨rfl, rfl⟩
      go_wp2_with fail
      refine (stWrites_e 1 false (by decide) _).mono ?_
      rintro r w' ⟨rfl, rfl⟩
      go_wp2_with fail
      refine (stLegal_e 1 1 true (by decide) _).mono ?_
      rintro r w' ⟨rfl, rfl⟩
      go_wp2_with fail
      refine (stateRuns_any _).mono ?_
      rintro r w' ⟨rfl, rfl⟩
      go_wp2
      go_ret
      exact ⟨rfl, HBW.out⟩
    · as_aux_lemma =>
      go_wp2_with fail
      refine (HO.out _).mono ?_
      rintro r w' ⟨rfl, rfl⟩
      go_wp2_with fail
      refine (stGrant_e 1 true 2 (by decide) _).mono ?_
      rintro r w' ⟨rfl, rfl⟩
      go_wp2_with fail
      refine (stGrant_e 1 false 1 (by decide) _).mono ?_
      rintro r w' ⟨rfl, rfl⟩
      go_wp2_with fail
      refine (stReads_e 2 true (by decide) _).mono ?_
      rintro r w' ⟨rfl, rfl⟩
      go_wp2_with fail
      refine (stReads_e 1 true (by decide) _).mono ?_
      rintro r w' ⟨rfl, rfl⟩
      go_wp2_with fail
      refine (stLegal_e 2 2 false (by decide) _).mono ?_
      rintro r w' ⟨rfl, rfl⟩
      go_wp2_with fail
      refine (stWrites_e 1 false (by decide) _).mono ?_
      rintro r w' ⟨rfl, rfl⟩
      go_wp2_with fail
      refine (stLegal_e 1 2 false (by decide) _).mono ?_
      rintro r w' ⟨rfl, rfl⟩
      go_wp2_with fail
      refine (stateRuns_any _).mono ?_
      rintro r w' ⟨rfl, rfl⟩
      go_wp2
      go_ret
      exact ⟨rfl, HBW.out⟩
    · as_aux_lemma =>
      go_wp2_with fail
      refine (HO.out _).mono ?_
      rintro r w' ⟨rfl, rfl⟩
      go_wp2_with fail
      refine (stGrant_e 1 true 2 (by decide) _).mono ?_
      rintro r w' ⟨rfl, rfl⟩
      go_wp2_with fail
      refine (stGrant_e 1 false 1 (by decide) _).mono ?_
      rintro r w' ⟨rfl, rfl⟩
      go_wp2_with fail
      refine (stReads_e 2 true (by decide) _).mono ?_
      rintro r w' ⟨rfl, rfl⟩
      go_wp2_with fail
      refine (stReads_e 1 true (by decide) _).mono ?_
      rintro r w' ⟨rfl, rfl⟩
      go_wp2_with fail
      refine (stLegal_e 2 3 false (by decide) _).mono ?_
      rintro r w' ⟨rfl, rfl⟩
      go_wp2_with fail
      refine (stWrites_e 1 false (by decide) _).mono ?_
      rintro r w' ⟨rfl, rfl⟩
      go_wp2_with fail
      refine (stLegal_e 1 3 true (by decide) _).mono ?_
      rintro r w' ⟨rfl, rfl⟩
      go_wp2_with fail
      refine (stateRuns_any _).mono ?_
      rintro r w' ⟨rfl, rfl⟩
      go_wp2
      go_ret
      exact ⟨rfl, HBW.out⟩
    · as_aux_lemma =>
      go_wp2_with fail
      refine (HO.out _).mono ?_
      rintro r w' ⟨rfl, rfl⟩
      go_wp2_with fail
      refine (stGrant_e 1 true 2 (by decide) _).mono ?_
      rintro r w' ⟨rfl, rfl⟩
      go_wp2_with fail
      refine (stGrant_e 1 false 1 (by decide) _).mono ?_
      rintro r w' ⟨rfl, rfl⟩
      go_wp2_with fail
      refine (stReads_e 2 true (by decide) _).mono ?_
      rintro r w' ⟨rfl, rfl⟩
      go_wp2_with fail
      refine (stReads_e 1 true (by decide) _).mono ?_
      rintro r w' ⟨rfl, rfl⟩
      go_wp2_with fail
      refine (stLegal_e 2 4 false (by decide) _).mono ?_
      rintro r w' ⟨rfl, rfl⟩
      go_wp2_with fail
      refine (stWrites_e 1 false (by decide) _).mono ?_
      rintro r w' ⟨rfl, rfl⟩
      go_wp2_with fail
      refine (stLegal_e 1 4 false (by decide) _).mono ?_
      rintro r w' ⟨rfl, rfl⟩
      go_wp2_with fail
      refine (stateRuns_any _).mono ?_
      rintro r w' ⟨rfl, rfl⟩
      go_wp2
      go_ret
      exact ⟨rfl, HBW.out⟩
  · rcases hO5 with rfl | rfl | rfl | rfl | rfl
    · as_aux_lemma =>
      go_wp2_with fail
      refine (HO.out _).mono ?_
      rintro r w' ⟨rfl, rfl⟩
      go_wp2_with fail
      refine (stGrant_e 2 true 4 (by decide) _).mono ?_
      rintro r w' ⟨rfl, rfl⟩
      go_wp2_with fail
      refine (stGrant_e 2 false 4 (by decide) _).mono ?_
      rintro r w' ⟨rfl, rfl⟩
      go_wp2_with fail
      refine (stReads_e 4 true (by decide) _).mono ?_
      rintro r w' ⟨rfl, rfl⟩
      go_wp2_with fail
      refine (stReads_e 4 true (by decide) _).mono ?_
      rintro r w' ⟨rfl, rfl⟩
      go_wp2_with fail
      refine (stLegal_e 4 0 true (by decide) _).mono ?_
      rintro r w' ⟨rfl, rfl⟩
      go_wp2_with fail
      refine (stWrites_e 4 true (by decide) _).mono ?_
      rintro r w' ⟨rfl, rfl⟩
      go_wp2_with fail
      refine (stLegal_e 0 4 true (by decide) _).mono ?_
      rintro r w' ⟨rfl, rfl⟩
      go_wp2_with fail
      refine (stateRuns_any _).mono ?_
      rintro r w' ⟨rfl, rfl⟩
      go_wp2
      go_ret
      exact ⟨rfl, HBW.out⟩
    · as_aux_lemma =>
      go_wp2_with fail
      refine (HO.out _).mono ?_
      rintro r w' ⟨rfl, rfl⟩
      go_wp2_with fail
      refine (stGrant_e 2 true 4 (by decide) _).mono ?_
      rintro r w' ⟨rfl, rfl⟩
      go_wp2_with fail
      refine (stGrant_e 2 false 4 (by decide) _).mono ?_
      rintro r w' ⟨rfl, rfl⟩
      go_wp2_with fail
      refine (stReads_e 4 true (by decide) _).mono ?_
      rintro r w' ⟨rfl, rfl⟩
      go_wp2_with fail
      refine (stReads_e 4 true (by decide) _).mono ?_
      rintro r w' ⟨rfl, rfl⟩
      go_wp2_with fail
      refine (stLegal_e 4 1 false (by decide) _).mono ?_
      rintro r w' ⟨rfl, rfl⟩
      go_wp2_with fail
      refine (stWrites_e 4 true (by decide) _).mono ?_
      rintro r w' ⟨rfl, rfl⟩
      go_wp2_with fail
      refine (stLegal_e 1 4 false (by decide) _).mono ?_
      rintro r w' ⟨rfl, rfl⟩
      go_wp2_with fail
      refine (stateRuns_any _).mono ?_
      rintro r w' ⟨rfl, rfl⟩
      go_wp2
      go_ret
      exact ⟨rfl, HBW.out⟩
    · as_aux_lemma =>
      go_wp2_with fail
      refine (HO.out _).mono ?_
      rintro r w' ⟨rfl, rfl⟩
      go_wp2_with fail
      refine (stGrant_e 2 true 4 (by decide) _).mono ?_
      rintro r w' ⟨rfl, rfl⟩
      go_wp2_with fail
      refine (stGrant_e 2 false 4 (by decide) _).mono ?_
      rintro r w' ⟨rfl, rfl⟩
      go_wp2_with fail
      refine (stReads_e 4 true (by decide) _).mono ?_
      rintro r w' ⟨rfl, rfl⟩
      go_wp2_with fail
      refine (stReads_e 4 true (by decide) _).mono ?_
      rintro r w' ⟨rfl, rfl⟩
      go_wp2_with fail
      refine (stLegal_e 4 2 false (by decide) _).mono ?_
      rintro r w' ⟨rfl, rfl⟩
      go_wp2_with fail
      refine (stWrites_e 4 true (by decide) _).mono ?_
      rintro r w' ⟨rfl, rfl⟩
      go_wp2_with fail
      refine (stLegal_e 2 4 false (by decide) _).mono ?_
      rintro r w' ⟨rfl, rfl⟩
      go_wp2_with fail
      refine (stateRuns_any _).mono ?_
      rintro r w' ⟨rfl, rfl⟩
      go_wp2
      go_ret
      exact ⟨rfl, HBW.out⟩
    · as_aux_lemma =>
      go_wp2_with fail
      refine (HO.out _).mono ?_
      rintro r w' ⟨rfl, rfl⟩
      go_wp2_with fail
      refine (stGrant_e 2 true 4 (by decide) _).mono ?_
      rintro r w' ⟨rfl, rfl⟩
      go_wp2_with fail
      refine (stGrant_e 2 false 4 (by decide) _).mono ?_
      rintro r w' ⟨rfl, rfl⟩
      go_wp2_with fail
      refine (stReads_e 4 true (by decide) _).mono ?_
      rintro r w' ⟨rfl, rfl⟩
      go_wp2_with fail
      refine (stReads_e 4 true (by decide) _).mono ?_
      rintro r w' ⟨rfl, rfl⟩
      go_wp2_with fail
      refine (stLegal_e 4 3 false (by decide) _).mono ?_
      rintro r w' ⟨rfl, rfl⟩
      go_wp2_with fail
      refine (stWrites_e 4 true (by decide) _).mono ?_
      rintro r w' ⟨rfl, rfl⟩
      go_wp2_with fail
      refine (stLegal_e 3 4 false (by decide) _).mono ?_
      rintro r w' ⟨rfl, rfl⟩
      go_wp2_with fail
      refine (stateRuns_any _).mono ?_
      rintro r w' ⟨rfl, rfl⟩
      go_wp2
      go_ret
      exact ⟨rfl, HBW.out⟩
    · as_aux_lemma =>
      go_wp2_with fail
      refine (HO.out _).mono ?_
      rintro r w' ⟨rfl, rfl⟩
      go_wp2_with fail
      refine (stGrant_e 2 true 4 (by decide) _).mono ?_
      rintro r w' ⟨rfl, rfl⟩
      go_wp2_with fail
      refine (stGrant_e 2 false 4 (by decide) _).mono ?_
      rintro r w' ⟨rfl, rfl⟩
      go_wp2_with fail
      refine (stReads_e 4 true (by decide) _).mono ?_
      rintro r w' ⟨rfl, rfl⟩
      go_wp2_with fail
      refine (stReads_e 4 true (by decide) _).mono ?_
      rintro r w' ⟨rfl, rfl⟩
      go_wp2_with fail
      refine (stLegal_e 4 4 false (by decide) _).mono ?_
      rintro r w' ⟨rfl, rfl⟩
      go_wp2_with fail
      refine (stWrites_e 4 true (by decide) _).mono ?_
      rintro r w' ⟨rfl, rfl⟩
      go_wp2_with fail
      refine (stLegal_e 4 4 false (by decide) _).mono ?_
      rintro r w' ⟨rfl, rfl⟩
      go_wp2_with fail
      refine (stateRuns_any _).mono ?_
      rintro r w' ⟨rfl, rfl⟩
      go_wp2
      go_ret
      exact ⟨rfl, HBW.out⟩
  · rcases hO5 with rfl | rfl | rfl | rfl | rfl
    · as_aux_lemma =>
      go_wp2_with fail
      refine (HO.out _).mono ?_
      rintro r w' ⟨rfl, rfl⟩
      go_wp2_with fail
      refine (stGrant_e 3 true 4 (by decide) _).mono ?_
      rintro r w' ⟨rfl, rfl⟩
      go_wp2_with fail
      refine (stGrant_e 3 false 4 (by decide) _).mono ?_
      rintro r w' ⟨rfl, rfl⟩
      go_wp2_with fail
      refine (stReads_e 4 true (by decide) _).mono ?_
      rintro r w' ⟨rfl, rfl⟩
      go_wp2_with fail
      refine (stReads_e 4 true (by decide) _).mono ?_
      rintro r w' ⟨rfl, rfl⟩
      go_wp2_with fail
      refine (stLegal_e 4 0 true (by decide) _).mono ?_
      rintro r w' ⟨rfl, rfl⟩
      go_wp2_with fail
      refine (stWrites_e 4 true (by decide) _).mono ?_
      rintro r w' ⟨rfl, rfl⟩
      go_wp2_with fail
      refine (stLegal_e 0 4 true (by decide) _).mono ?_
      rintro r w' ⟨rfl, rfl⟩
      go_wp2_with fail
      refine (stateRuns_any _).mono ?_
      rintro r w' ⟨rfl, rfl⟩
      go_wp2
      go_ret
      exact ⟨rfl, HBW.out⟩
    · as_aux_lemma =>
      go_wp2_with fail
      refine (HO.out _).mono ?_
      rintro r w' ⟨rfl, rfl⟩
      go_wp2_with fail
      refine (stGrant_e 3 true 4 (by decide) _).mono ?_
      rintro r w' ⟨rfl, rfl⟩
      go_wp2_with fail
      refine (stGrant_e 3 false 4 (by decide) _).mono ?_
      rintro r w' ⟨rfl, rfl⟩
      go_wp2_with fail
      refine (stReads_e 4 true (by decide) _).mono ?_
      rintro r w' ⟨rfl, rfl⟩
      go_wp2_with fail
      refine (stReads_e 4 true (by decide) _).mono ?_
      rintro r w' ⟨rfl, rfl⟩
      go_wp2_with fail
      refine (stLegal_e 4 1 false (by decide) _).mono ?_
      rintro r w' ⟨rfl, rfl⟩
      go_wp2_with fail
      refine (stWrites_e 4 true (by decide) _).mono ?_
      rintro r w' ⟨rfl, rfl⟩
      go_wp2_with fail
      refine (stLegal_e 1 4 false (by decide) _).mono ?_
      rintro r w' ⟨rfl, rfl⟩
      go_wp2_with fail
      refine (stateRuns_any _).mono ?_
      rintro r w' ⟨rfl, rfl⟩
      go_wp2
      go_ret
      exact ⟨rfl, HBW.out⟩
    · as_aux_lemma =>
      go_wp2_with fail
      refine (HO.out _).mono ?_
      rintro r w' ⟨rfl, rfl⟩
      go_wp2_with fail
      refine (stGrant_e 3 true 4 (by decide) _).mono ?_
      rintro r w' ⟨rfl, rfl⟩
      go_wp2_with fail
      refine (stGrant_e 3 false 4 (by decide) _).mono ?_
      rintro r w' ⟨rfl, rfl⟩
      go_wp2_with fail
      refine (stReads_e 4 true (by decide) _).mono ?_
      rintro r w' ⟨rfl, rfl⟩
      go_wp2_with fail
      refine (stReads_e 4 true (by decide) _).mono ?_
      rintro r w' ⟨rfl, rfl⟩
      go_wp2_with fail
      refine (stLegal_e 4 2 false (by decide) _).mono ?_
      rintro r w' ⟨rfl, rfl⟩
      go_wp2_with fail
      refine (stWrites_e 4 true (by decide) _).mono ?_
      rintro r w' ⟨rfl, rfl⟩
      go_wp2_with fail
      refine (stLegal_e 2 4 false (by decide) _).mono ?_
      rintro r w' ⟨rfl, rfl⟩
      go_wp2_with fail
      refine (stateRuns_any _).mono ?_
      rintro r w' ⟨rfl, rfl⟩
      go_wp2
      go_ret
      exact ⟨rfl, HBW.out⟩
    · as_aux_lemma =>
      go_wp2_with fail
      refine (HO.out _).mono ?_
      rintro r w' ⟨rfl, rfl⟩
      go_wp2_with fail
      refine (stGrant_e 3 true 4 (by decide) _).mono ?_
      rintro r w' ⟨rfl, rfl⟩
      go_wp2_with fail
      refine (stGrant_e 3 false 4 (by decide) _).mono ?_
      rintro r w' ⟨rfl, rfl⟩
      go_wp2_with fail
      refine (stReads_e 4 true (by decide) _).mono ?_
      rintro r w' ⟨rfl, rfl⟩
      go_wp2_with fail
      refine (stReads_e 4 true (by decide) _).mono ?_
      rintro r w' ⟨rfl, rfl⟩
      go_wp2_with fail
      refine (stLegal_e 4 3 false (by decide) _).mono ?_
      rintro r w' ⟨rfl, rfl⟩
      go_wp2_with fail
      refine (stWrites_e 4 true (by decide) _).mono ?_
      rintro r w' ⟨rfl, rfl⟩
      go_wp2_with fail
      refine (stLegal_e 3 4 false (by decide) _).mono ?_
      rintro r w' ⟨rfl, rfl⟩
      go_wp2_with fail
      refine (stateRuns_any _).mono ?_
      rintro r w' ⟨rfl, rfl⟩
      go_wp2
      go_ret
      exact ⟨rfl, HBW.out⟩
    · as_aux_lemma =>
      go_wp2_with fail
      refine (HO.out _).mono ?_
      rintro r w' ⟨rfl, rfl⟩
      go_wp2_with fail
      refine (stGrant_e 3 true 4 (by decide) _).mono ?_
      rintro r w' ⟨rfl, rfl⟩
      go_wp2_with fail
      refine (stGrant_e 3 false 4 (by decide) _).mono ?_
      rintro r w' ⟨rfl, rfl⟩
      go_wp2_with fail
      refine (stReads_e 4 true (by decide) _).mono ?_
      rintro r w' ⟨rfl, rfl⟩
      go_wp2_with fail
      refine (stReads_e 4 true (by decide) _).mono ?_
      rintro r w' ⟨rfl, rfl⟩
      go_wp2_with fail
      refine (stLegal_e 4 4 false (by decide) _).mono ?_
      rintro r w' ⟨rfl, rfl⟩
      go_wp2_with fail
      refine (stWrites_e 4 true (by decide) _).mono ?_
      rintro r w' ⟨rfl, rfl⟩
      go_wp2_with fail
      refine (stLegal_e 4 4 false (by decide) _).mono ?_
      rintro r w' ⟨rfl, rfl⟩
      go_wp2_with fail
      refine (stateRuns_any _).mono ?_
      rintro r w' ⟨rfl, rfl⟩
      go_wp2
      go_ret
      exact ⟨rfl, HBW.out⟩

end Go.Proofs.Ytkdkbaplfgjkmaa
