/- DERIVED of the program: assentbook.Within for bounds below nought; assentkeep.Config by its contract. Own work. -/
import Derived.Test.YtgaajnefegjoeabDoorGeoD
import Derived.Deep.DeepCutAuto
namespace Go.Proofs.YtgaajnefegjoeabDoor
open Go.RowKit Go.Extern.Stop Go.Stop Go.Extern

/-- A number brought into lo .. hi, bounds of whichever sign. -/
def wI (n lo hi : Int) : Int := lo + n % (hi - lo + 1)
theorem wI_le (n lo hi : Int) (h1 : lo ≤ hi) : lo ≤ wI n lo hi ∧ wI n lo hi ≤ hi := by
  have h2 := Int.emod_nonneg n (show hi - lo + 1 ≠ 0 by omega)
  have h3 := Int.emod_lt_of_pos n (show 0 < hi - lo + 1 by omega)
  unfold wI
  omega
theorem within_i (n lo hi : Int) (w : World) (h0 : -1000 ≤ lo) (h1 : lo ≤ hi) (h2 : hi ≤ 1000) :
    Calls Tryd.prog 18 #[.int .i64 n, .int .i64 lo, .int .i64 hi] w fun r w' => r = .returned (.int .i64 (wI n lo hi)) ∧ w' = w := by
  obtain ⟨p1, p2, p3, p4⟩ := tmod_emod n (hi - lo + 1) (by omega)
  have hz : ¬ hi - lo + 1 = 0 := by omega
  have HW := Hid.in (And.intro p1 p2)
  clear p1 p2
  by_cases hn : n.tmod (hi - lo + 1) < 0
  · go_enter Tryd.func18, Tryd.ntmps18
    go_wp2
    go_ret
    exact ⟨ret_int (by have h3 := HW.out.2 hn; rw [wI, h3]; omega), rfl⟩
  · go_enter Tryd.func18, Tryd.ntmps18
    go_wp2
    go_ret
    exact ⟨ret_int (by have h3 := HW.out.1 (by omega); rw [wI, h3]), rfl⟩

/-- A configuration of the small ones that the statements make. -/
structure Small (k0 k1 k2 k3 k4 k5 k6 k8 : Int) : Prop where
  p0 : 1 ≤ k0 ∧ k0 ≤ 4
  p1 : 1 ≤ k1 ∧ k1 ≤ 6
  p2 : k2 = 1 ∨ k2 = 2
  p3 : k3 = 1 ∨ k3 = 2
  p4 : 1 ≤ k4 ∧ k4 ≤ 3
  p5 : 1 ≤ k5 ∧ k5 ≤ 3
  p6 : 1 ≤ k6 ∧ k6 ≤ 4
  p8 : -1 ≤ k8 ∧ k8 ≤ 1

theorem read9 {b : Nat} {v0 v1 v2 v3 v4 v5 v6 v7 v8 : Value} (W : World) (h : W.rangeAt b 0 [v0, v1, v2, v3, v4, v5, v6, v7, v8]) :
    W.cell? ⟨b, 0, none⟩ = some v0 ∧ W.cell? ⟨b, 1, none⟩ = some v1 ∧ W.cell? ⟨b, 2, none⟩ = some v2 ∧ W.cell? ⟨b, 3, none⟩ = some v3 ∧ W.cell? ⟨b, 4, none⟩ = some v4 ∧ W.cell? ⟨b, 5, none⟩ = some v5 ∧ W.cell? ⟨b, 6, none⟩ = some v6 ∧ W.cell? ⟨b, 7, none⟩ = some v7 ∧ W.cell? ⟨b, 8, none⟩ = some v8 :=
  ⟨by simpa using h 0 _ rfl, by simpa using h 1 _ rfl, by simpa using h 2 _ rfl, by simpa using h 3 _ rfl, by simpa using h 4 _ rfl, by simpa using h 5 _ rfl, by simpa using h 6 _ rfl, by simpa using h 7 _ rfl, by simpa using h 8 _ rfl⟩

set_option maxHeartbeats 8000000 in
set_option maxRecDepth 100000 in
theorem kConfig_at (c0 c1 c2 c3 c4 c5 c6 c7 c8 s2 s3 t2 t3 : Int) (h2 : wI c2 0 1 = s2) (h3 : wI c3 0 1 = s3) (hs2 : s2 = 0 ∧ t2 = 1 ∨ s2 = 1 ∧ t2 = 2) (hs3 : s3 = 0 ∧ t3 = 1 ∨ s3 = 1 ∧ t3 = 2) (w : World) :
    Calls Tryd.prog 19 #[cfg c0 c1 c2 c3 c4 c5 c6 c7 c8] w fun r w' => r = .returned (cfg (wI c0 1 4) (wI c1 1 6) t2 t3 (wI c4 1 3) (wI c5 1 3) (wI c6 1 4) 2 (wI c8 (-1) 1)) ∧ Below w.heap.size w w' := by
  have q1 : IntKind.i64.wrap 1 = 1 := by decide
  have q2 : IntKind.i64.wrap 2 = 2 := by decide
  go_enter Tryd.func19, Tryd.ntmps19
  go_wp2_with fail
  go_cut [2] (fun p2 wc => p2 = .pointer (some ⟨w.heap.size + 1, 0, none⟩) ∧ wc.rangeAt (w.heap.size + 1) 0 [.int .i64 (wI c0 1 4), .int .i64 (wI c1 1 6), .int .i64 t2, .int .i64 t3, .int .i64 (wI c4 1 3), .int .i64 (wI c5 1 3), .int .i64 (wI c6 1 4), .int .i64 2, .int .i64 (wI c8 (-1) 1)] ∧ Below w.heap.size w wc)
  case first =>
    rcases hs2 with ⟨rfl, rfl⟩ | ⟨rfl, rfl⟩ <;> rcases hs3 with ⟨rfl, rfl⟩ | ⟨rfl, rfl⟩
    all_goals
      go_region_held3 (fun W => W.cell? ⟨w.heap.size, 0, none⟩ = some (.int .i64 c0) ∧ W.cell? ⟨w.heap.size, 1, none⟩ = some (.int .i64 c1) ∧ W.cell? ⟨w.heap.size, 2, none⟩ = some (.int .i64 c2) ∧ W.cell? ⟨w.heap.size, 3, none⟩ = some (.int .i64 c3) ∧ W.cell? ⟨w.heap.size, 4, none⟩ = some (.int .i64 c4) ∧ W.cell? ⟨w.heap.size, 5, none⟩ = some (.int .i64 c5) ∧ W.cell? ⟨w.heap.size, 6, none⟩ = some (.int .i64 c6) ∧ W.cell? ⟨w.heap.size, 7, none⟩ = some (.int .i64 c7) ∧ W.cell? ⟨w.heap.size, 8, none⟩ = some (.int .i64 c8)) (first | go_keep | (simp [*]; done))
        (first | (go_at_call 18; refine (within_i _ _ _ _ (by decide) (by decide) (by decide)).mono ?_; rintro e w' ⟨rfl, rfl⟩))
      go_wp2_with fail
      go_meet
      case rel => exact ⟨rfl, range_new _ _ (by simp) _ _, ((((Below.refl _ _).alloc (Nat.le_refl _) _).alloc (by simp) _).drew)⟩
  case rest =>
    obtain ⟨rfl, hr, hb⟩ := hcut
    obtain ⟨k0, k1, k2, k3, k4, k5, k6, k7, k8⟩ := read9 wc hr
    have HB := Hid.in hb
    clear h2 h3 hs2 hs3 hr hb q1 q2
    go_wp2
    exact bodyPost_ret (v := cfg (wI c0 1 4) (wI c1 1 6) t2 t3 (wI c4 1 3) (wI c5 1 3) (wI c6 1 4) 2 (wI c8 (-1) 1)) (by simp [results, Tryd.results19, go_sem, k0, k1, k2, k3, k4, k5, k6, k7, k8]) rfl ⟨rfl, HB.out⟩

theorem kConfig_any (c0 c1 c2 c3 c4 c5 c6 c7 c8 : Int) : ∃ k0 k1 k2 k3 k4 k5 k6 k8 : Int, Small k0 k1 k2 k3 k4 k5 k6 k8 ∧ ∀ w : World,
    Calls Tryd.prog 19 #[cfg c0 c1 c2 c3 c4 c5 c6 c7 c8] w fun r w' => r = .returned (cfg k0 k1 k2 k3 k4 k5 k6 2 k8) ∧ Below w.heap.size w w' := by
  have b2 := wI_le c2 0 1 (by omega)
  have b3 := wI_le c3 0 1 (by omega)
  refine ⟨wI c0 1 4, wI c1 1 6, if wI c2 0 1 = 0 then 1 else 2, if wI c3 0 1 = 0 then 1 else 2, wI c4 1 3, wI c5 1 3, wI c6 1 4, wI c8 (-1) 1,
    ⟨wI_le _ _ _ (by omega), wI_le _ _ _ (by omega), ?_, ?_, wI_le _ _ _ (by omega), wI_le _ _ _ (by omega), wI_le _ _ _ (by omega), wI_le _ _ _ (by omega)⟩, fun w => ?_⟩
  · split <;> simp
  · split <;> simp
  · refine kConfig_at c0 c1 c2 c3 c4 c5 c6 c7 c8 _ _ _ _ rfl rfl ?_ ?_ w
    · split <;> omega
    · split <;> omega
end Go.Proofs.YtgaajnefegjoeabDoor
