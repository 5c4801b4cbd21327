/- DERIVED of the program: assentkeep.Config by its contract. Own work. -/
import Derived.Test.YtgaajnefegjoeabDoorGeoD
import Derived.Deep.DeepCutAuto
namespace Go.Proofs.YtgaajnefegjoeabDoor
open Go.RowKit Go.Extern.Stop Go.Stop Go.Extern

/-- A configuration of the small ones that the statements make. -/
structure Small (k0 k1 k2 k3 k4 k5 k6 k8 : Int) : Prop where
  p0 : 1 ≤ k0 ∧ k0 ≤ 4
  p1 : 1 ≤ k1 ∧ k1 ≤ 6
  p2 : k2 = 1 ∨ k2 = 2
  p3 : k3 = 1 ∨ k3 = 2
  p4 : 1 ≤ k4 ∧ k4 ≤ 3
  p5 : 1 ≤ k5 ∧ k5 ≤ 3
  p6 : 1 ≤ k6 ∧ k6 ≤ 4
  p8 : -1 ≤ k8 ∧ k8 ≤ 1

set_option maxHeartbeats 8000000 in
set_option maxRecDepth 100000 in
theorem kConfig_at (c0 c1 c2 c3 c4 c5 c6 c7 c8 s2 s3 t2 t3 : Int) (h2 : wI c2 0 1 = s2) (h3 : wI c3 0 1 = s3) (hs2 : s2 = 0 ∧ t2 = 1 ∨ s2 = 1 ∧ t2 = 2) (hs3 : s3 = 0 ∧ t3 = 1 ∨ s3 = 1 ∧ t3 = 2) (w : World) :
    Calls Tryd.prog 19 #[cfg c0 c1 c2 c3 c4 c5 c6 c7 c8] w fun r w' => r = .returned (cfg (wI c0 1 4) (wI c1 1 6) t2 t3 (wI c4 1 3) (wI c5 1 3) (wI c6 1 4) 2 (wI c8 (-1) 1)) ∧ Below w.heap.size w w' := by
  have q1 : IntKind.i64.wrap 1 = 1 := by decide
  have q2 : IntKind.i64.wrap 2 = 2 := by decide
  go_enter Tryd.func19, Tryd.ntmps19
  go_wp2_with fail
  go_cut [2] (fun p2 wc => p2 = .pointer (some ⟨w.heap.size + 1, 0, none⟩) ∧ wc.rangeAt (w.heap.size + 1) 0 [.int .i64 (wI c0 1 4), .int .i64 (wI c1 1 6), .int .i64 t2, .int .i64 t3, .int .i64 (wI c4 1 3), .int .i64 (wI c5 1 3), .int .i64 (wI c6 1 4), .int .i64 2, .int .i64 (wI c8 (-1) 1)] ∧ Below w.heap.size w wc)
  case first =>
    rcases hs2 with ⟨rfl, rfl⟩ | ⟨rfl, rfl⟩ <;> rcases hs3 with ⟨rfl, rfl⟩ | ⟨rfl, rfl⟩
    all_goals
      go_region_held3 (fun W => W.cell? ⟨w.heap.size, 0, none⟩ = some (.int .i64 c0) ∧ W.cell? ⟨w.heap.size, 1, none⟩ = some (.int .i64 c1) ∧ W.cell? ⟨w.heap.size, 2, none⟩ = some (.int .i64 c2) ∧ W.cell? ⟨w.heap.size, 3, none⟩ = some (.int .i64 c3) ∧ W.cell? ⟨w.heap.size, 4, none⟩ = some (.int .i64 c4) ∧ W.cell? ⟨w.heap.size, 5, none⟩ = some (.int .i64 c5) ∧ W.cell? ⟨w.heap.size, 6, none⟩ = some (.int .i64 c6) ∧ W.cell? ⟨w.heap.size, 7, none⟩ = some (.int .i64 c7) ∧ W.cell? ⟨w.heap.size, 8, none⟩ = some (.int .i64 c8)) (first | go_keep | (simp [*]; done))
        (first | (go_at_call 18; refine (within_i _ _ _ _ (by decide) (by decide) (by decide)).mono ?_; rintro e w' ⟨rfl, rfl⟩))
      go_wp2_with fail
      go_meet
      case rel => exact ⟨rfl, range_new _ _ (by simp) _ _, ((((Below.refl _ _).alloc (Nat.le_refl _) _).alloc (by simp) _).drew)⟩
  case rest =>
    obtain ⟨rfl, hr, hb⟩ := hcut
    obtain ⟨k0, k1, k2, k3, k4, k5, k6, k7, k8⟩ := read9 wc hr
    have HB := Hid.in hb
    clear h2 h3 hs2 hs3 hr hb q1 q2
    go_wp2
    exact bodyPost_ret (v := cfg (wI c0 1 4) (wI c1 1 6) t2 t3 (wI c4 1 3) (wI c5 1 3) (wI c6 1 4) 2 (wI c8 (-1) 1)) (by simp [results, Tryd.results19, go_sem, k0, k1, k2, k3, k4, k5, k6, k7, k8]) rfl ⟨rfl, HB.out⟩

theorem kConfig_any (c0 c1 c2 c3 c4 c5 c6 c7 c8 : Int) : ∃ k0 k1 k2 k3 k4 k5 k6 k8 : Int, Small k0 k1 k2 k3 k4 k5 k6 k8 ∧ ∀ w : World,
    Calls Tryd.prog 19 #[cfg c0 c1 c2 c3 c4 c5 c6 c7 c8] w fun r w' => r = .returned (cfg k0 k1 k2 k3 k4 k5 k6 2 k8) ∧ Below w.heap.size w w' := by
  have b2 := wI_le c2 0 1 (by omega)
  have b3 := wI_le c3 0 1 (by omega)
  refine ⟨wI c0 1 4, wI c1 1 6, if wI c2 0 1 = 0 then 1 else 2, if wI c3 0 1 = 0 then 1 else 2, wI c4 1 3, wI c5 1 3, wI c6 1 4, wI c8 (-1) 1,
    ⟨wI_le _ _ _ (by omega), wI_le _ _ _ (by omega), ?_, ?_, wI_le _ _ _ (by omega), wI_le _ _ _ (by omega), wI_le _ _ _ (by omega), wI_le _ _ _ (by omega)⟩, fun w => ?_⟩
  · split <;> simp
  · split <;> simp
  · refine kConfig_at c0 c1 c2 c3 c4 c5 c6 c7 c8 _ _ _ _ rfl rfl ?_ ?_ w
    · split <;> omega
    · split <;> omega
end Go.Proofs.YtgaajnefegjoeabDoor
