/- DERIVED of the program: StateRuns returns true. Own work. -/
import Derived.Test.YtkdkbaplfgjkmaaStA
namespace Go.Proofs.Ytkdkbaplfgjkmaa
open Go.RowKit Go.Extern.Stop Go.Stop Go.Extern

theorem stIs_c (s k m x : Int) (b : Bool) (h : nxS s k m = (x, b)) (w : World) : Calls Try.prog 9 #[.int .i64 s, .int .i64 k, .int .i64 m, .int .i64 x, .bool b] w fun r w' => r = .returned (.bool true) ∧ w' = w := by
  go_enter Try.func9, Try.ntmps9
  go_wp2_with fail
  refine (stNext_c s k m x b h w).mono ?_
  rintro r w' ⟨rfl, rfl⟩
  go_wp2
  go_ret
  exact ⟨rfl, rfl⟩

set_option maxHeartbeats 3200000 in
set_option maxRecDepth 20000 in
theorem stateRuns_any (w : World) : Calls Try.prog 3 #[] w fun r w' => r = .returned (.bool true) ∧ w' = w := by
  go_enter Try.func3, Try.ntmps3
  go_wp2_with fail
  refine (stIs_c 4 5 0 1 true (by decide) _).mono ?_
  rintro r w' ⟨rfl, rfl⟩
  go_wp2_with fail
  refine (stIs_c 4 5 1 3 true (by decide) _).mono ?_
  rintro r w' ⟨rfl, rfl⟩
  go_wp2_with fail
  refine (stIs_c 4 5 3 0 true (by decide) _).mono ?_
  rintro r w' ⟨rfl, rfl⟩
  go_wp2_with fail
  refine (stIs_c 2 6 0 0 false (by decide) _).mono ?_
  rintro r w' ⟨rfl, rfl⟩
  have HL : Hid (lgS 4 1 = false) := Hid.in (by decide)
  have HG : Hid (grS 1 true = 2) := Hid.in (by decide)
  go_wp2_with fail
  refine (stLegal_c 4 1 _).mono ?_
  rw [HL.out]
  rintro r w' ⟨rfl, rfl⟩
  go_wp2_with fail
  refine (stGrant_c 1 true _).mono ?_
  rw [HG.out]
  rintro r w' ⟨rfl, rfl⟩
  go_wp2
  go_ret
  exact ⟨rfl, rfl⟩

theorem stateRuns_b (w : World) : Calls Try.prog 3 #[] w fun r w' => r = .returned (.bool true) ∧ Below w.heap.size w w' :=
  (stateRuns_any w).mono fun r w' h => ⟨h.1, by rw [h.2]; exact Below.refl _ _⟩

end Go.Proofs.Ytkdkbaplfgjkmaa
